/- What the document's own Lower of layer 7 answers. Conditions: the text is not too long. -/
import Derived.Test.YthacboofbbfmlaaGreatDoorScanSpec
import Derived.Test.YthacboofbbfmlaaGreatDoorBytes
namespace Go.Proofs.YthacboofbbfmlaaGreatDoor
open Go.ChangeShapes Go.WideShapes Go.ChangeAt Go.RowKit
theorem take_byte (s : ByteArray) (k : Nat) (h : k < s.size) : s.data.toList.take (k + 1) = s.data.toList.take k ++ [s[k]] := by
  rw [List.take_succ_eq_append_getElem (by simpa using h)]; rfl
theorem lowC_yes {c : UInt8} (h1 : 65 ≤ (c.toNat : Int)) (h2 : (c.toNat : Int) ≤ 90) : bv (lowC c) = .int .u8 ((c.toNat : Int) + 32) := by
  unfold lowC bv
  have e : 65 ≤ c ∧ c ≤ 90 := ⟨UInt8.le_iff_toNat_le.2 (by show 65 ≤ c.toNat; omega), UInt8.le_iff_toNat_le.2 (by show c.toNat ≤ 90; omega)⟩
  rw [if_pos e, UInt8.toNat_add]
  have : (c.toNat + (32 : UInt8).toNat) % 2 ^ 8 = c.toNat + 32 := by show (c.toNat + 32) % 256 = _; omega
  rw [this]
  rfl
theorem lowC_no {c : UInt8} (h : (c.toNat : Int) < 65 ∨ 90 < (c.toNat : Int)) : bv (lowC c) = .int .u8 (c.toNat : Int) := by
  unfold lowC bv
  rw [if_neg]
  rintro ⟨h1, h2⟩
  have h1' := UInt8.le_iff_toNat_le.1 h1
  have h2' := UInt8.le_iff_toNat_le.1 h2
  have e1 : (65 : UInt8).toNat = 65 := rfl
  have e2 : (90 : UInt8).toNat = 90 := rfl
  omega
set_option maxHeartbeats 4000000 in
theorem rlower_any (s : ByteArray) (w : World) (hs : s.size ≤ mostB) :
    Calls Tryz.prog 23 #[.string s] w fun e w' => e = .returned (.string (onB lowL s)) ∧ Below w.heap.size w w' := by
  unfold mostB at hs
  obtain ⟨R, hR⟩ : ∃ R, onB lowL s = R := ⟨_, rfl⟩
  rw [hR]
  have HR := Lib.hid hR
  clear hR
  have hB0 := below_al (Below.refl w.heap.size w) (.cells #[] 5)
  have hY0 := Bys.nil w w.heap.size (Nat.le_refl _)
  go_enter Tryz.func23, Tryz.ntmps23
  go_wp2
  go_loopw [3, 4] (fun v i wr => ∃ k : Nat, k ≤ s.size ∧ i = .int .i64 k ∧ Bys wr w.heap.size v (lowL (s.data.toList.take k)) ∧ Below w.heap.size w wr) (fun _ i _ => s.size - (intOf i).toNat)
  case atStart => exact ⟨0, Nat.zero_le _, rfl, hY0, hB0⟩
  case round =>
    obtain ⟨k, hk, rfl, hY, hB⟩ := hrel
    clear hB0 hY0
    by_cases hlt : k < s.size
    · have HT : Hid (lowL (s.data.toList.take (k + 1)) = lowL (s.data.toList.take k) ++ [lowC s[k]]) := by
        show lowL (s.data.toList.take (k + 1)) = _
        rw [take_byte s k hlt]
        unfold lowL
        rw [List.map_append]; rfl
      have hlen : (lowL (s.data.toList.take k)).length < 70000000000000 := by
        rw [low_len]
        have := List.length_take_le k s.data.toList
        omega
      have hle := hB.size
      have u1 : (s[k].toNat : Int) < 256 := by have := s[k].toNat_lt; omega
      by_cases h1 : 65 ≤ (s[k].toNat : Int) ∧ (s[k].toNat : Int) ≤ 90
      · obtain ⟨h1, h2⟩ := h1
        have HV := Lib.hid (lowC_yes h1 h2)
        go_wp2_with (at_builtin; refine wpList_pushU wr rfl (.tmp 24) (.tmp 26) rfl w.heap.size _ _ (lowC s[k]) _ HV _ rfl hY rfl hlen hle ?_; intro v' w' hY' hg
                     have hB' := below_pushU hB hY hg
                     clear hg)
        rw [← HT.out] at hY'
        go_roundw
        case rel => exact ⟨k + 1, by omega, by go_num, hY', hB'⟩
        case measure => simp [intOf]; omega
      · have h1' : (s[k].toNat : Int) < 65 ∨ 90 < (s[k].toNat : Int) := by omega
        have HV := Lib.hid (lowC_no h1')
        clear h1
        rcases h1' with h1 | h1
        · have d1 : decide (65 ≤ (s[k].toNat : Int)) = false := decide_eq_false (by omega)
          clear h1
          go_wp2_with (at_builtin; refine wpList_pushU wr rfl (.tmp 24) (.tmp 26) rfl w.heap.size _ _ (lowC s[k]) _ HV _ rfl hY rfl hlen hle ?_; intro v' w' hY' hg
                       have hB' := below_pushU hB hY hg
                       clear hg)
          rw [← HT.out] at hY'
          go_roundw
          case rel => exact ⟨k + 1, by omega, by go_num, hY', hB'⟩
          case measure => simp [intOf]; omega
        · have h2 : 65 ≤ (s[k].toNat : Int) := by omega
          have d1 : decide ((s[k].toNat : Int) ≤ 90) = false := decide_eq_false (by omega)
          clear h1
          go_wp2_with (at_builtin; refine wpList_pushU wr rfl (.tmp 24) (.tmp 26) rfl w.heap.size _ _ (lowC s[k]) _ HV _ rfl hY rfl hlen hle ?_; intro v' w' hY' hg
                       have hB' := below_pushU hB hY hg
                       clear hg)
          rw [← HT.out] at hY'
          go_roundw
          case rel => exact ⟨k + 1, by omega, by go_num, hY', hB'⟩
          case measure => simp [intOf]; omega
    · have htk : s.data.toList.take k = s.data.toList := List.take_of_length_le (by rw [size_list]; omega)
      rw [htk] at hY
      have hcv := bys_text hY
      have HE : Hid ((⟨(lowL s.data.toList).toArray⟩ : ByteArray) = R) := HR.out
      generalize (⟨(lowL s.data.toList).toArray⟩ : ByteArray) = r at hcv HE
      go_wp2
      go_ret
      obtain rfl := HE.out
      exact ⟨rfl, hB⟩
end Go.Proofs.YthacboofbbfmlaaGreatDoor
