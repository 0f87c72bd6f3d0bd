/- The reference's Lower, Name and has. Conditions: as the theorems' premises say. -/
import Derived.Test.YteopighhhcikcaaGreatDoorRtA
import Derived.Test.YteopighhhcikcaaGreatDoorRx7Lower
import Derived.Test.YteopighhhcikcaaGreatDoorTokE
namespace Go.Proofs.YteopighhhcikcaaGreatDoor
open Go.ChangeShapes Go.WideShapes Go.ChangeAt Go.RowKit
namespace Rt
open Tok
set_option maxHeartbeats 4000000 in
theorem lowerB_any (s : ByteArray) (w : World) (hs : s.size ≤ mostB) :
    Calls Tryz.prog 59 #[.string s] w fun e w' => e = .returned (.string (onB lowL s)) ∧ Below w.heap.size w w' := by
  unfold mostB at hs
  obtain ⟨R, hR⟩ : ∃ R, onB lowL s = R := ⟨_, rfl⟩
  rw [hR]
  have HR := Lib.hid hR
  clear hR
  have hB0 := below_al (Below.refl w.heap.size w) (.cells #[] 5)
  have hY0 := Bys.nil w w.heap.size (Nat.le_refl _)
  go_enter Tryz.func59, Tryz.ntmps59
  go_wp2
  go_loopw [3, 4] (fun v i wr => ∃ k : Nat, k ≤ s.size ∧ i = .int .i64 k ∧ Bys wr w.heap.size v (lowL (s.data.toList.take k)) ∧ Below w.heap.size w wr) (fun _ i _ => s.size - (intOf i).toNat)
  case atStart => exact ⟨0, Nat.zero_le _, rfl, hY0, hB0⟩
  case round =>
    obtain ⟨k, hk, rfl, hY, hB⟩ := hrel
    clear hB0 hY0
    by_cases hlt : k < s.size
    · have HT : Hid (lowL (s.data.toList.take (k + 1)) = lowL (s.data.toList.take k) ++ [lowC s[k]]) := by
        show lowL (s.data.toList.take (k + 1)) = _
        rw [take_byte s k hlt]
        unfold lowL
        rw [List.map_append]; rfl
      have hlen : (lowL (s.data.toList.take k)).length < 70000000000000 := by
        rw [low_len]
        have := List.length_take_le k s.data.toList
        omega
      have hle := hB.size
      have u1 : (s[k].toNat : Int) < 256 := by have := s[k].toNat_lt; omega
      by_cases h1 : 65 ≤ (s[k].toNat : Int) ∧ (s[k].toNat : Int) ≤ 90
      · obtain ⟨h1, h2⟩ := h1
        have HV := Lib.hid (lowC_yes h1 h2)
        go_wp2_with (at_builtin; refine wpList_pushU wr rfl (.tmp 24) (.tmp 26) rfl w.heap.size _ _ (lowC s[k]) _ HV _ rfl hY rfl hlen hle ?_; intro v' w' hY' hg
                     have hB' := below_pushU hB hY hg
                     clear hg)
        rw [← HT.out] at hY'
        go_roundw
        case rel => exact ⟨k + 1, by omega, by go_num, hY', hB'⟩
        case measure => simp [intOf]; omega
      · have h1' : (s[k].toNat : Int) < 65 ∨ 90 < (s[k].toNat : Int) := by omega
        have HV := Lib.hid (lowC_no h1')
        clear h1
        rcases h1' with h1 | h1
        · have d1 : decide (65 ≤ (s[k].toNat : Int)) = false := decide_eq_false (by omega)
          clear h1
          go_wp2_with (at_builtin; refine wpList_pushU wr rfl (.tmp 24) (.tmp 26) rfl w.heap.size _ _ (lowC s[k]) _ HV _ rfl hY rfl hlen hle ?_; intro v' w' hY' hg
                       have hB' := below_pushU hB hY hg
                       clear hg)
          rw [← HT.out] at hY'
          go_roundw
          case rel => exact ⟨k + 1, by omega, by go_num, hY', hB'⟩
          case measure => simp [intOf]; omega
        · have h2 : 65 ≤ (s[k].toNat : Int) := by omega
          have d1 : decide ((s[k].toNat : Int) ≤ 90) = false := decide_eq_false (by omega)
          clear h1
          go_wp2_with (at_builtin; refine wpList_pushU wr rfl (.tmp 24) (.tmp 26) rfl w.heap.size _ _ (lowC s[k]) _ HV _ rfl hY rfl hlen hle ?_; intro v' w' hY' hg
                       have hB' := below_pushU hB hY hg
                       clear hg)
          rw [← HT.out] at hY'
          go_roundw
          case rel => exact ⟨k + 1, by omega, by go_num, hY', hB'⟩
          case measure => simp [intOf]; omega
    · have htk : s.data.toList.take k = s.data.toList := List.take_of_length_le (by rw [size_list]; omega)
      rw [htk] at hY
      have hcv := bys_text hY
      have HE : Hid ((⟨(lowL s.data.toList).toArray⟩ : ByteArray) = R) := HR.out
      generalize (⟨(lowL s.data.toList).toArray⟩ : ByteArray) = r at hcv HE
      go_wp2
      go_ret
      obtain rfl := HE.out
      exact ⟨rfl, hB⟩
theorem lower_any (l : List UInt8) (hl : l.length ≤ 1000000) (w : World) : Calls Tryz.prog 59 #[.string (toB l)] w fun e w' => e = .returned (.string (toB (lowL l))) ∧ Below w.heap.size w w' :=
  lowerB_any (toB l) w (by rw [toB_size]; exact hl)
theorem extract_list (s : ByteArray) (i j : Nat) : (s.extract i j).data.toList = (s.data.toList.take j).drop i := by
  rw [ByteArray.data_extract]
  simp [Array.toList_extract, List.extract_eq_take_drop, List.drop_take]
theorem ext_toB (l : List UInt8) (o n : Nat) : (toB l).extract o (o + n) = toB ((l.drop o).take n) := by
  refine bytes_inj ?_
  rw [extract_list]
  show (l.take (o + n)).drop o = (l.drop o).take n
  rw [List.take_drop]
theorem has_yes {l t : List UInt8} {o : Nat} : (((toB l).extract o (o + t.length)).toList == (toB t).toList) = true → t.isPrefixOf (l.drop o) = true := by
  intro h
  rw [ext_toB, toB_toList, toB_toList] at h
  have h := LawfulBEq.eq_of_beq h
  rw [List.isPrefixOf_iff_prefix]
  rw [← h]
  exact List.take_prefix _ _
theorem has_no {l t : List UInt8} {o : Nat} : t.isPrefixOf (l.drop o) = true → (((toB l).extract o (o + t.length)).toList == (toB t).toList) = true := by
  intro h
  rw [ext_toB, toB_toList, toB_toList]
  have h := List.isPrefixOf_iff_prefix.1 h
  rw [List.prefix_iff_eq_take] at h
  rw [← h]
  exact beq_self_eq_true _
theorem has_len {l t : List UInt8} {o : Nat} (h : t.isPrefixOf (l.drop o) = true) (ht : 0 < t.length) : o + t.length ≤ l.length := by
  have := (List.isPrefixOf_iff_prefix.1 h).length_le
  rw [List.length_drop] at this
  omega
set_option maxRecDepth 100000 in
set_option maxHeartbeats 4000000 in
theorem has_any (l t : List UInt8) (o : Nat) (hl : l.length ≤ 5000) (ht : 0 < t.length) (ht2 : t.length ≤ 10) (ho : o ≤ 20000) (w : World) :
    Calls Tryz.prog 62 #[.string (toB l), .int .i64 o, .string (toB t)] w fun e w' => e = .returned (.bool (t.isPrefixOf (l.drop o))) ∧ w = w' := by
  have hsz : (toB l).size = l.length := toB_size l
  have htz : (toB t).size = t.length := toB_size t
  obtain ⟨p, hp⟩ : ∃ p, p = o + t.length := ⟨_, rfl⟩
  have hop : (o : Int) + (t.length : Int) = (p : Int) := by omega
  have hb : p ≤ 20010 := by omega
  have hyes := @has_yes l t o
  have hno := @has_no l t o
  rw [← hp] at hyes hno
  by_cases h : p ≤ l.length
  · have h' : (p : Int) ≤ (l.length : Int) := by omega
    have o0 : (0 : Int) ≤ (o : Int) := Int.natCast_nonneg _
    have o1 : (o : Int) ≤ (p : Int) := by omega
    have o2 : o ≤ p := by omega
    have hR : (((toB l).extract o p).toList == (toB t).toList) = t.isPrefixOf (l.drop o) := by
      rw [Bool.eq_iff_iff]; exact ⟨hyes, hno⟩
    generalize t.isPrefixOf (l.drop o) = R at *
    generalize toB t = tb at *
    generalize toB l = s at *
    clear hyes hno hp ho hl ht ht2
    go_enter Tryz.func62, Tryz.ntmps62
    go_wp2
    all_goals
      go_ret
      exact ⟨by simp_all, rfl⟩
  · have h' : decide ((p : Int) ≤ (l.length : Int)) = false := decide_eq_false (by omega)
    have h'' : decide (p ≤ l.length) = false := decide_eq_false h
    have hR : t.isPrefixOf (l.drop o) = false := by
      cases e : t.isPrefixOf (l.drop o) with
      | false => rfl
      | true => have := has_len e ht; omega
    rw [hR]
    generalize toB t = tb at *
    generalize toB l = s at *
    clear hyes hno hp ho hl ht ht2 h hR
    go_enter Tryz.func62, Tryz.ntmps62
    go_wp2
    go_ret
    exact ⟨rfl, rfl⟩
end Rt
end Go.Proofs.YteopighhhcikcaaGreatDoor
