/- What scan's own Lower answers. Conditions: the text is not too long. -/
import Derived.Test.YtdfcahdipalmkaaGreatDoorScanSpec
import Derived.Test.YtdfcahdipalmkaaGreatDoorKt
import Derived.Test.YtdfcahdipalmkaaGreatDoorScanTrimC
/- What the document's own Lower of layer 7 answers. Conditions: the text is not too long. -/
namespace Go.Proofs.YtdfcahdipalmkaaGreatDoor
open Go.ChangeShapes Go.WideShapes Go.ChangeAt Go.RowKit
theorem take_byte (s : ByteArray) (k : Nat) (h : k < s.size) : s.data.toList.take (k + 1) = s.data.toList.take k ++ [s[k]] := by
  rw [List.take_succ_eq_append_getElem (by simpa using h)]; rfl
theorem lowC_yes {c : UInt8} (h1 : 65 ≤ (c.toNat : Int)) (h2 : (c.toNat : Int) ≤ 90) : bv (lowC c) = .int .u8 ((c.toNat : Int) + 32) := by
  unfold lowC bv
  have e : 65 ≤ c ∧ c ≤ 90 := ⟨UInt8.le_iff_toNat_le.2 (by show 65 ≤ c.toNat; omega), UInt8.le_iff_toNat_le.2 (by show c.toNat ≤ 90; omega)⟩
  rw [if_pos e, UInt8.toNat_add]
  have : (c.toNat + (32 : UInt8).toNat) % 2 ^ 8 = c.toNat + 32 := by show (c.toNat + 32) % 256 = _; omega
  rw [this]
  rfl
theorem lowC_no {c : UInt8} (h : (c.toNat : Int) < 65 ∨ 90 < (c.toNat : Int)) : bv (lowC c) = .int .u8 (c.toNat : Int) := by
  unfold lowC bv
  rw [if_neg]
  rintro ⟨h1, h2⟩
  have h1' := UInt8.le_iff_toNat_le.1 h1
  have h2' := UInt8.le_iff_toNat_le.1 h2
  have e1 : (65 : UInt8).toNat = 65 := rfl
  have e2 : (90 : UInt8).toNat = 90 := rfl
  omega
set_option maxHeartbeats 4000000 in
theorem rlower_any (s : ByteArray) (w : World) (hs : s.size ≤ mostB) :
    Calls Tryz.prog 67 #[.string s] w fun e w' => e = .returned (.string (onB lowL s)) ∧ Below w.heap.size w w' := by
  unfold mostB at hs
  obtain ⟨R, hR⟩ : ∃ R, onB lowL s = R := ⟨_, rfl⟩
  rw [hR]
  have HR := Lib.hid hR
  clear hR
  have hB0 := below_al (Below.refl w.heap.size w) (.cells #[] 5)
  have hY0 := Bys.nil w w.heap.size (Nat.le_refl _)
  go_enter Tryz.func67, Tryz.ntmps67
  go_wp2
  go_loopw [3, 4] (fun v i wr => ∃ k : Nat, k ≤ s.size ∧ i = .int .i64 k ∧ Bys wr w.heap.size v (lowL (s.data.toList.take k)) ∧ Below w.heap.size w wr) (fun _ i _ => s.size - (intOf i).toNat)
  case atStart => exact ⟨0, Nat.zero_le _, rfl, hY0, hB0⟩
  case round =>
    obtain ⟨k, hk, rfl, hY, hB⟩ := hrel
    clear hB0 hY0
    by_cases hlt : k < s.size
    · have HT : Hid (lowL (s.data.toList.take (k + 1)) = lowL (s.data.toList.take k) ++ [lowC s[k]]) := by
        show lowL (s.data.toList.take (k + 1)) = _
        rw [take_byte s k hlt]
        unfold lowL
        rw [List.map_append]; rfl
      have hlen : (lowL (s.data.toList.take k)).length < 70000000000000 := by
        rw [low_len]
        have := List.length_take_le k s.data.toList
        omega
      have hle := hB.size
      have u1 : (s[k].toNat : Int) < 256 := by have := s[k].toNat_lt; omega
      by_cases h1 : 65 ≤ (s[k].toNat : Int) ∧ (s[k].toNat : Int) ≤ 90
      · obtain ⟨h1, h2⟩ := h1
        have HV := Lib.hid (lowC_yes h1 h2)
        go_wp2_with (at_builtin; refine wpList_pushU wr rfl (.tmp 24) (.tmp 26) rfl w.heap.size _ _ (lowC s[k]) _ HV _ rfl hY rfl hlen hle ?_; intro v' w' hY' hg
                     have hB' := below_pushU hB hY hg
                     clear hg)
        rw [← HT.out] at hY'
        go_roundw
        case rel => exact ⟨k + 1, by omega, by go_num, hY', hB'⟩
        case measure => simp [intOf]; omega
      · have h1' : (s[k].toNat : Int) < 65 ∨ 90 < (s[k].toNat : Int) := by omega
        have HV := Lib.hid (lowC_no h1')
        clear h1
        rcases h1' with h1 | h1
        · have d1 : decide (65 ≤ (s[k].toNat : Int)) = false := decide_eq_false (by omega)
          clear h1
          go_wp2_with (at_builtin; refine wpList_pushU wr rfl (.tmp 24) (.tmp 26) rfl w.heap.size _ _ (lowC s[k]) _ HV _ rfl hY rfl hlen hle ?_; intro v' w' hY' hg
                       have hB' := below_pushU hB hY hg
                       clear hg)
          rw [← HT.out] at hY'
          go_roundw
          case rel => exact ⟨k + 1, by omega, by go_num, hY', hB'⟩
          case measure => simp [intOf]; omega
        · have h2 : 65 ≤ (s[k].toNat : Int) := by omega
          have d1 : decide ((s[k].toNat : Int) ≤ 90) = false := decide_eq_false (by omega)
          clear h1
          go_wp2_with (at_builtin; refine wpList_pushU wr rfl (.tmp 24) (.tmp 26) rfl w.heap.size _ _ (lowC s[k]) _ HV _ rfl hY rfl hlen hle ?_; intro v' w' hY' hg
                       have hB' := below_pushU hB hY hg
                       clear hg)
          rw [← HT.out] at hY'
          go_roundw
          case rel => exact ⟨k + 1, by omega, by go_num, hY', hB'⟩
          case measure => simp [intOf]; omega
    · have htk : s.data.toList.take k = s.data.toList := List.take_of_length_le (by rw [size_list]; omega)
      rw [htk] at hY
      have hcv := bys_text hY
      have HE : Hid ((⟨(lowL s.data.toList).toArray⟩ : ByteArray) = R) := HR.out
      generalize (⟨(lowL s.data.toList).toArray⟩ : ByteArray) = r at hcv HE
      go_wp2
      go_ret
      obtain rfl := HE.out
      exact ⟨rfl, hB⟩
end Go.Proofs.YtdfcahdipalmkaaGreatDoor
namespace Go.Proofs.YtdfcahdipalmkaaGreatDoor
open Go.ChangeShapes Go.WideShapes Go.ChangeAt Go.RowKit
/-- The first cells of block h are these bytes, and may be written. -/
def Bts (w : World) (h : Nat) (l : List UInt8) : Prop := ∀ j c, l[j]? = some c → w.cell? ⟨h, j, none⟩ = some (bv c) ∧ w.frozen? ⟨h, j, none⟩ = false
theorem Bts.set {w : World} {h : Nat} {l : List UInt8} (hb : Bts w h l) (k : Nat) (c : UInt8) (u : Value) (hu : bv c = u) : Bts (w.setCell ⟨h, k, none⟩ u) h (l.set k c) := by
  intro j d hd
  subst hu
  by_cases e : j = k
  · subst e
    have hj : j < l.length := by
      have := (List.getElem?_eq_some_iff.1 hd).1
      simpa using this
    rw [List.getElem?_set_self hj] at hd
    obtain rfl := Option.some.inj hd
    obtain ⟨h1, h2⟩ := hb j _ (List.getElem?_eq_getElem hj)
    exact ⟨World.cell?_setCell_same w _ _ h1, by rw [World.frozen?_setCell]; exact h2⟩
  · rw [List.getElem?_set_ne (fun e' => e e'.symm)] at hd
    obtain ⟨h1, h2⟩ := hb j d hd
    exact ⟨(World.cell?_setCell_other w _ _ _ (fun e' => e (by injection e' with _ e' _; exact e'.symm))).trans h1, by rw [World.frozen?_setCell]; exact h2⟩
def lowTo (l : List UInt8) (k : Nat) : List UInt8 := lowL (l.take k) ++ l.drop k
theorem lowTo_at {l : List UInt8} {k : Nat} (h : k < l.length) : (lowTo l k)[k]? = some l[k] := by
  unfold lowTo
  rw [List.getElem?_append_right (by rw [low_len, List.length_take]; omega), low_len, List.length_take, show k - min k l.length = 0 by omega, List.getElem?_drop]
  exact List.getElem?_eq_getElem h
theorem lowTo_set {l : List UInt8} {k : Nat} (h : k < l.length) : (lowTo l k).set k (lowC l[k]) = lowTo l (k + 1) := by
  unfold lowTo
  have e : (lowL (l.take k)).length = k := by rw [low_len, List.length_take]; omega
  rw [List.set_append_right _ _ (by omega), e, Nat.sub_self, List.drop_eq_getElem_cons h, List.set_cons_zero, List.take_succ_eq_append_getElem h]
  unfold lowL
  rw [List.map_append]
  simp
theorem lowTo_same {l : List UInt8} {k : Nat} (h : k < l.length) (hc : lowC l[k] = l[k]) : lowTo l k = lowTo l (k + 1) := by
  rw [← lowTo_set h, hc]
  refine List.ext_getElem? fun j => ?_
  by_cases e : j = k
  · subst e
    have := lowTo_at h
    have hj := (List.getElem?_eq_some_iff.1 this).1
    rw [List.getElem?_set_self hj, this]
  · rw [List.getElem?_set_ne (fun e' => e e'.symm)]
theorem add_at (b j : Nat) : (⟨b, 0, none⟩ : Addr).add j = ⟨b, j, none⟩ := by unfold Addr.add; split <;> simp_all
set_option maxHeartbeats 4000000 in
theorem lower_any : LowerC := by
  intro s w hs
  unfold mostB at hs
  obtain ⟨R, hR⟩ : ∃ R, onB lowL s = R := ⟨_, rfl⟩
  rw [hR]
  have HR := Lib.hid hR
  clear hR
  have hcv := fun w => run_bytes_of_string (P := Tryz.prog) w 9 91 5 s Tryz.underlying9 Tryz.underlying91 Tryz.underlying5
  have hb0 : ∀ cap lo, s.size ≤ lo → Bts (w.drew.alloc (.cells (bytesRow s cap) 5 (lo, lo + 1))) w.heap.size (lowTo s.data.toList 0) := by
    intro cap lo hlo j c hc
    have hj : j < s.size := by
      have := (List.getElem?_eq_some_iff.1 hc).1
      simpa [lowTo, lowL] using this
    refine ⟨(World.cell?_alloc_mark w.drew _ _ _ j).trans ?_, (World.frozen?_alloc_mark w.drew _ _ _ _ j).trans ?_⟩
    · rw [bytesRow_at s cap j hj]
      have : (lowTo s.data.toList 0)[j]? = some s.data[j] := by
        simp only [lowTo, lowL, List.take_zero, List.map_nil, List.nil_append, List.drop_zero]
        rw [Array.getElem?_toList]
        exact Array.getElem?_eq_getElem hj
      rw [this] at hc
      obtain rfl := Option.some.inj hc
      rfl
    · rw [decide_eq_false (by omega)]; rfl
  have hrow : ∀ cap, s.size ≤ (bytesRow s cap).size := by intro cap; unfold bytesRow; simp
  have hB0 : ∀ o, Below w.heap.size w (w.drew.alloc o) := fun o => below_al (Below.refl _ _).drew o
  have hb1 := hb0 (grownCap w s.size 0 5) _ (hrow (grownCap w s.size 0 5))
  clear hb0 hrow
  go_enter Tryz.func60, Tryz.ntmps60
  go_wp2
  go_loopw [10] (fun i wr => ∃ k : Nat, k ≤ s.size ∧ i = .int .i64 k ∧ Bts wr w.heap.size (lowTo s.data.toList k) ∧ Below w.heap.size w wr) (fun i _ => s.size - (intOf i).toNat)
  case atStart => exact ⟨0, Nat.zero_le _, rfl, hb1, hB0 _⟩
  case round =>
    obtain ⟨k, hk, rfl, hY, hB⟩ := hrel
    clear hB0 hb1 hcv
    by_cases hlt : k < s.size
    · have hlt' : k < s.data.toList.length := by rw [size_list]; exact hlt
      have hat := hY k _ (lowTo_at hlt')
      have hc1 := hat.1
      have hf1 := hat.2
      unfold bv at hc1
      clear hat
      have HS := Lib.hid (lowTo_set hlt')
      have HM := lowTo_same hlt'
      obtain ⟨c, hce⟩ : ∃ c : UInt8, s.data.toList[k] = c := ⟨_, rfl⟩
      rw [hce] at hc1 HS HM
      have u1 : (c.toNat : Int) < 256 := by have := c.toNat_lt; omega
      by_cases h1 : 65 ≤ (c.toNat : Int) ∧ (c.toNat : Int) ≤ 90
      · obtain ⟨h1, h2⟩ := h1
        have hv := lowC_yes h1 h2
        have w1 : IntKind.u8.wrap ((c.toNat : Int) - 65) = (c.toNat : Int) - 65 := by unfold IntKind.wrap; simp only [IntKind.bits, IntKind.signed, Bool.false_and, Bool.false_eq_true, if_false]; omega
        have w2 : IntKind.u8.wrap ((c.toNat : Int) - 65 + 97) = (c.toNat : Int) + 32 := by unfold IntKind.wrap; simp only [IntKind.bits, IntKind.signed, Bool.false_and, Bool.false_eq_true, if_false]; omega
        clear HM
        go_wp2
        go_roundw
        case rel => exact ⟨k + 1, by omega, by go_num, by rw [← HS.out]; exact hY.set k _ _ hv, hB.setCell (p := ⟨w.heap.size, k, none⟩) (Nat.le_refl _) _⟩
        case measure => simp [intOf]; omega
      · have hsame : Hid (lowTo s.data.toList k = lowTo s.data.toList (k + 1)) := by
          show lowTo s.data.toList k = lowTo s.data.toList (k + 1)
          refine HM ?_
          have : ¬ (65 ≤ c ∧ c ≤ 90) := by
            rintro ⟨a, b⟩
            have a' := UInt8.le_iff_toNat_le.1 a
            have b' := UInt8.le_iff_toNat_le.1 b
            have e1 : (65 : UInt8).toNat = 65 := rfl
            have e2 : (90 : UInt8).toNat = 90 := rfl
            omega
          unfold lowC
          rw [if_neg this]
        rw [hsame.out] at hY
        have h1' : (c.toNat : Int) < 65 ∨ 90 < (c.toNat : Int) := by omega
        clear h1 HM HS
        rcases h1' with h1 | h1
        · have d1 : decide (65 ≤ (c.toNat : Int)) = false := decide_eq_false (by omega)
          clear h1
          go_wp2
          go_roundw
          case rel => exact ⟨k + 1, by omega, by go_num, hY, hB⟩
          case measure => simp [intOf]; omega
        · have h2 : 65 ≤ (c.toNat : Int) := by omega
          have d1 : decide ((c.toNat : Int) ≤ 90) = false := decide_eq_false (by omega)
          clear h1
          go_wp2
          go_roundw
          case rel => exact ⟨k + 1, by omega, by go_num, hY, hB⟩
          case measure => simp [intOf]; omega
    · obtain rfl : k = s.size := by omega
      have e : lowTo s.data.toList s.size = lowL s.data.toList := by
        unfold lowTo
        rw [List.take_of_length_le (by rw [size_list]; exact Nat.le_refl _), List.drop_of_length_le (by rw [size_list]; exact Nat.le_refl _), List.append_nil]
      rw [e] at hY
      have hln : (lowL s.data.toList).length = s.size := by rw [low_len, size_list]
      have hcb := fun cap => run_convert_bytes_back (P := Tryz.prog) wr 91 9 5 ⟨w.heap.size, 0, none⟩ cap (lowL s.data.toList) Tryz.underlying91 Tryz.underlying5 Tryz.underlying9 (fun j hj => by
        have := (hY j _ (List.getElem?_eq_getElem hj)).1
        rw [add_at]
        simpa [bv] using this)
      rw [hln] at hcb
      have HE : Hid ((⟨(lowL s.data.toList).toArray⟩ : ByteArray) = R) := HR.out
      generalize (⟨(lowL s.data.toList).toArray⟩ : ByteArray) = r at *
      clear hY e hln HR
      go_wp2
      go_ret
      obtain rfl := HE.out
      exact ⟨rfl, hB⟩
end Go.Proofs.YtdfcahdipalmkaaGreatDoor
