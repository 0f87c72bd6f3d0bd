/- The document's own answers of layer 8: ends. Conditions: none. -/
import Derived.Test.YtcacabpcobmgoaaGreatDoorRx8A
import Derived.Test.YtcacabpcobmgoaaGreatDoorTexts
import Derived.Test.YtcacabpcobmgoaaGreatDoorValProp
import Derived.Test.YtcacabpcobmgoaaGreatDoorValHc
import Derived.Test.YtcacabpcobmgoaaGreatDoorValNw
import Derived.Test.YtcacabpcobmgoaaGreatDoorValNd
import Derived.Lib.SlicesS
/- The document's own answers of layer 8: Passed, Words, May. Conditions: none. -/
namespace Go.Proofs.YtcacabpcobmgoaaGreatDoor
open Go.ChangeShapes Go.WideShapes Go.ChangeAt Go.RowKit
namespace Val
set_option maxHeartbeats 8000000 in
theorem rpassed_any (p : Int) (w : World) : Calls Tryz.prog 21 #[.int .i64 p] w fun e w' => e = .returned (.bool (decide (p = 16 ∨ p = 18 ∨ p = 19))) ∧ w = w' := by
  by_cases h1 : p = 16
  · subst h1
    go_enter Tryz.func21, Tryz.ntmps21
    go_wp2
    go_ret
    exact ⟨rfl, rfl⟩
  by_cases h2 : p = 18
  · subst h2
    go_enter Tryz.func21, Tryz.ntmps21
    go_wp2
    go_ret
    exact ⟨rfl, rfl⟩
  by_cases h3 : p = 19
  · subst h3
    go_enter Tryz.func21, Tryz.ntmps21
    go_wp2
    go_ret
    exact ⟨rfl, rfl⟩
  rw [decide_eq_false (show ¬ (p = 16 ∨ p = 18 ∨ p = 19) by omega)]
  have f1 : (p == 16) = false := beq_eq_false_iff_ne.2 h1
  have f2 : (p == 18) = false := beq_eq_false_iff_ne.2 h2
  have f3 : (p == 19) = false := beq_eq_false_iff_ne.2 h3
  clear h1 h2 h3
  go_enter Tryz.func21, Tryz.ntmps21
  go_wp2
  go_ret
  exact ⟨rfl, rfl⟩
/-- A list of texts in memory, as the call made it. -/
theorem reads_made (w : World) (ws : List (List UInt8)) (t : TypeId) : Reads (w.alloc (.cells (strs ws).toArray t)) (w.alloc (.cells (strs ws).toArray t)).heap.size 1 (some ⟨w.heap.size, 0, none⟩) ws.length (strs ws) := by
  refine ⟨by rw [strs_len']; omega, fun _ => ⟨_, rfl, by rw [size_al]; exact Nat.lt_succ_self _, fun j u hu => ?_⟩⟩
  have e : (⟨w.heap.size, 0, none⟩ : Addr).add j = ⟨w.heap.size, j, none⟩ := by unfold Addr.add; split <;> simp_all
  rw [e]
  have := (Blk.new w t (strs ws).toArray).cell j
  rw [this]
  simpa using hu
set_option maxHeartbeats 8000000 in
theorem rwords_any (p : Int) (w : World) : Calls Tryz.prog 33 #[.int .i64 p] w fun e w' => ∃ A n c, e = .returned (.slice A n c) ∧ Reads w' w'.heap.size 1 A n (strs (wordsP p)) ∧ Below w.heap.size w w' := by
  by_cases h1 : p = 1
  · subst h1
    go_enter Tryz.func33, Tryz.ntmps33
    go_wp2
    go_ret
    exact ⟨_, _, _, rfl, reads_made w (wordsP 1) 9, below_al (Below.refl _ _) _⟩
  by_cases h2 : p = 19
  · subst h2
    go_enter Tryz.func33, Tryz.ntmps33
    go_wp2
    go_ret
    exact ⟨_, _, _, rfl, reads_made w (wordsP 19) 9, below_al (Below.refl _ _) _⟩
  by_cases h3 : p = 22
  · subst h3
    go_enter Tryz.func33, Tryz.ntmps33
    go_wp2
    go_ret
    exact ⟨_, _, _, rfl, reads_made w (wordsP 22) 9, below_al (Below.refl _ _) _⟩
  by_cases h4 : p = 23
  · subst h4
    go_enter Tryz.func33, Tryz.ntmps33
    go_wp2
    go_ret
    exact ⟨_, _, _, rfl, reads_made w (wordsP 23) 9, below_al (Below.refl _ _) _⟩
  have e : wordsP p = [] := by unfold wordsP; rw [if_neg h1, if_neg h2, if_neg h3, if_neg h4]
  rw [e]
  have f1 : (p == 1) = false := beq_eq_false_iff_ne.2 h1
  have f2 : (p == 19) = false := beq_eq_false_iff_ne.2 h2
  have f3 : (p == 22) = false := beq_eq_false_iff_ne.2 h3
  have f4 : (p == 23) = false := beq_eq_false_iff_ne.2 h4
  clear h1 h2 h3 h4 e
  go_enter Tryz.func33, Tryz.ntmps33
  go_wp2
  go_ret
  exact ⟨_, _, _, rfl, reads_made w [] 9, below_al (Below.refl _ _) _⟩
end Val
end Go.Proofs.YtcacabpcobmgoaaGreatDoor
/- The document's own answers of layer 8: Prop, hex, May. Conditions: none. -/
namespace Go.Proofs.YtcacabpcobmgoaaGreatDoor
open Go.ChangeShapes Go.WideShapes Go.ChangeAt Go.RowKit
namespace Val
set_option maxHeartbeats 8000000 in
theorem rprop_any (s : ByteArray) (w : World) : Calls Tryz.prog 11 #[.string s] w fun e w' => e = .returned (.int .i64 (propP s.data.toList)) ∧ Below w.heap.size w w' := by
  obtain ⟨R, hR⟩ : ∃ R, R = propP s.data.toList := ⟨_, rfl⟩
  rw [← hR]
  have HR := Lib.hid hR
  clear hR
  have hB0 := Below.refl w.heap.size w
  go_enter Tryz.func11, Tryz.ntmps11
  go_wp2
  go_loopw [3] (fun i wr => ∃ k : Nat, 1 ≤ k ∧ k ≤ 27 ∧ i = .int .i64 k ∧ Hid (∀ j : Nat, 1 ≤ j → j < k → nameP (j : Int) ≠ s.data.toList) ∧ Below w.heap.size w wr) (fun i _ => 27 - (intOf i).toNat)
  case atStart => exact ⟨1, Nat.le_refl _, by omega, rfl, fun j _ h => absurd h (by omega), hB0⟩
  case round =>
    obtain ⟨k, hk1, hk, rfl, HK, hBr⟩ := hrel
    clear hB0
    by_cases hlt : k < 27
    · have c := fun w => rname_any (k : Int) w
      have hm := toB_eq (l := nameP (k : Int)) (s := s)
      have kl : (k : Int) ≤ 26 := by omega
      cases hb1 : ((toB (nameP (k : Int))).toList == s.toList) with
      | true =>
        have he := hm.1 hb1
        have hres : propP s.data.toList = (k : Int) := by rw [← he]; exact prop_name (by omega) (by omega)
        obtain rfl : R = (k : Int) := HR.out.trans hres
        clear hm he hres HK HR
        generalize toB (nameP (k : Int)) = a1 at *
        go_wp2_with (go_at_call 13; (with_reducible refine (c _).mono ?_); rintro e w1 ⟨rfl, hb⟩)
        go_ret
        exact ⟨rfl, below_next hBr hb⟩
      | false =>
        have hne : nameP (k : Int) ≠ s.data.toList := fun h => by rw [hm.2 h] at hb1; cases hb1
        have HK' : Hid (∀ j : Nat, 1 ≤ j → j < k + 1 → nameP (j : Int) ≠ s.data.toList) := by
          intro j h1 h2
          by_cases e : j = k
          · subst e; exact hne
          · exact HK.out j h1 (by omega)
        clear hm hne HK
        generalize toB (nameP (k : Int)) = a1 at *
        go_wp2_with (go_at_call 13; (with_reducible refine (c _).mono ?_); rintro e w1 ⟨rfl, hb⟩)
        go_roundw
        case rel => exact ⟨k + 1, by omega, by omega, by go_num, HK', below_next hBr hb⟩
        case measure => simp [intOf]; omega
    · obtain rfl : k = 27 := by omega
      obtain rfl : R = 0 := HR.out.trans (prop_none HK.out)
      go_wp2
      go_ret
      exact ⟨rfl, hBr⟩
/-- A digit's number; -1: it is none. -/
def hexI (c : UInt8) : Int := match hexD c with
  | some d => d
  | none => -1
theorem hexD_back : ∀ c : Fin 256, ∀ d, hexD (UInt8.ofFin c) = some d → hexC d = UInt8.ofFin c ∧ d < 16 := by
  intro c d h
  have : ∀ c : Fin 256, (match hexD (UInt8.ofFin c) with | some d => decide (hexC d = UInt8.ofFin c ∧ d < 16) | none => true) = true := by decide +kernel
  have := this c
  rw [h] at this
  exact of_decide_eq_true this
set_option maxRecDepth 100000 in
theorem hexc_at (d : Nat) (hd : d < 16) (w : World) : (Instr.index 9 (.string ⟨#[48, 49, 50, 51, 52, 53, 54, 55, 56, 57, 97, 98, 99, 100, 101, 102]⟩) (.int .i64 d)).run Tryz.prog w = .ok (.int .u8 ((hexC d).toNat : Int)) w := by
  match d, hd with
  | 0, _ => rfl
  | 1, _ => rfl
  | 2, _ => rfl
  | 3, _ => rfl
  | 4, _ => rfl
  | 5, _ => rfl
  | 6, _ => rfl
  | 7, _ => rfl
  | 8, _ => rfl
  | 9, _ => rfl
  | 10, _ => rfl
  | 11, _ => rfl
  | 12, _ => rfl
  | 13, _ => rfl
  | 14, _ => rfl
  | 15, _ => rfl
  | n + 16, h => exact absurd h (by omega)
set_option maxHeartbeats 8000000 in
theorem rhex_any (c : UInt8) (w : World) : Calls Tryz.prog 72 #[.int .u8 (c.toNat : Int)] w fun e w' => e = .returned (.int .i64 (hexI c)) ∧ w = w' := by
  obtain ⟨R, hR⟩ : ∃ R, R = hexI c := ⟨_, rfl⟩
  rw [← hR]
  have HR := Lib.hid hR
  clear hR
  go_enter Tryz.func72, Tryz.ntmps72
  go_wp2
  go_loop [4] (fun i => ∃ k : Nat, k ≤ 16 ∧ i = .int .i64 k ∧ Hid (∀ j : Nat, j < k → hexC j ≠ c)) (fun i => 16 - (intOf i).toNat)
  case atStart => exact ⟨0, by omega, rfl, fun j h => absurd h (by omega)⟩
  case round =>
    obtain ⟨k, hk, rfl, HK⟩ := hrel
    by_cases hlt : k < 16
    · have hx := fun w => hexc_at k hlt w
      have kl : (k : Int) < 16 := by omega
      by_cases he : hexC k = c
      · obtain rfl : R = (k : Int) := by
          rw [HR.out, ← he]
          unfold hexI
          rw [hexD_hexC ⟨k, hlt⟩]
        rw [he] at hx
        clear HK HR he
        go_wp2
        go_ret
        exact ⟨rfl, rfl⟩
      · have HK' : Hid (∀ j : Nat, j < k + 1 → hexC j ≠ c) := by
          intro j h2
          by_cases e : j = k
          · subst e; exact he
          · exact HK.out j (by omega)
        have hne : (((hexC k).toNat : Int) == (c.toNat : Int)) = false := beq_eq_false_iff_ne.2 (fun e => he (UInt8.toNat_inj.1 (by omega)))
        clear HK he
        generalize hexC k = d at *
        go_wp2
        go_round
        case rel => exact ⟨k + 1, by omega, by go_num, HK'⟩
        case measure => simp [intOf]; omega
    · obtain rfl : k = 16 := by omega
      obtain rfl : R = -1 := by
        rw [HR.out]
        unfold hexI
        cases h : hexD c with
        | none => rfl
        | some d =>
          obtain ⟨h1, h2⟩ := hexD_back c.toFin d h
          exact absurd h1 (HK.out d h2)
      go_wp2
      go_ret
      exact ⟨rfl, rfl⟩
end Val
end Go.Proofs.YtcacabpcobmgoaaGreatDoor
/- The document's own answers of layer 8: digits, ends. Conditions: the text is short, where so written. -/
namespace Go.Proofs.YtcacabpcobmgoaaGreatDoor
open Go.ChangeShapes Go.WideShapes Go.ChangeAt Go.RowKit
namespace Val
theorem hexI_fin : ∀ c : Fin 256, (if isDg (UInt8.ofFin c) = true then decide (hexI (UInt8.ofFin c) = (((UInt8.ofFin c).toNat - 48 : Nat) : Int)) else decide (hexI (UInt8.ofFin c) < 0 ∨ 9 < hexI (UInt8.ofFin c))) = true := by decide +kernel
theorem hexI_dg {c : UInt8} (h : isDg c = true) : hexI c = ((c.toNat - 48 : Nat) : Int) := by
  have := hexI_fin c.toFin
  rw [show UInt8.ofFin c.toFin = c from rfl, if_pos h] at this
  exact of_decide_eq_true this
theorem hexI_not {c : UInt8} (h : isDg c = false) : hexI c < 0 ∨ 9 < hexI c := by
  have := hexI_fin c.toFin
  rw [show UInt8.ofFin c.toFin = c from rfl, h, if_neg (by decide)] at this
  exact of_decide_eq_true this
def dgI (l : List UInt8) (n : Nat) : Int := if l.all isDg = true then ((l.foldl (fun n c => 10 * n + (c.toNat - 48)) n : Nat) : Int) else -1
theorem dgI_yes {c : UInt8} (h : isDg c = true) (l : List UInt8) (n : Nat) : dgI (c :: l) n = dgI l (10 * n + (c.toNat - 48)) := by
  unfold dgI
  rw [List.all_cons, h, Bool.true_and, List.foldl_cons]
theorem dgI_no {c : UInt8} (h : isDg c = false) (l : List UInt8) (n : Nat) : dgI (c :: l) n = -1 := by
  unfold dgI
  rw [List.all_cons, h, Bool.false_and, if_neg (by decide)]
set_option maxRecDepth 100000 in
set_option maxHeartbeats 8000000 in
theorem rdigits_any (s : ByteArray) (hs : s.size ≤ 9) (w : World) : Calls Tryz.prog 73 #[.string s] w fun e w' => e = .returned (.int .i64 (dgI s.data.toList 0)) ∧ w = w' := by
  obtain ⟨R, hR⟩ : ∃ R, R = dgI s.data.toList 0 := ⟨_, rfl⟩
  rw [← hR]
  have H0 : Hid (R = dgI (s.data.toList.drop 0) 0) := hR
  clear hR
  go_enter Tryz.func73, Tryz.ntmps73
  go_wp2
  go_loop [3, 4] (fun n i => ∃ k m : Nat, k ≤ s.size ∧ i = .int .i64 k ∧ n = .int .i64 m ∧ m < 10 ^ k ∧ Hid (R = dgI (s.data.toList.drop k) m)) (fun _ i => s.size - (intOf i).toNat)
  case atStart => exact ⟨0, 0, Nat.zero_le _, rfl, rfl, by decide, H0⟩
  case round =>
    obtain ⟨k, m, hk, rfl, rfl, hm, HI⟩ := hrel
    clear H0
    by_cases hkl : k < s.size
    · have HI' := HI.out
      rw [List.drop_eq_getElem_cons (l := s.data.toList) (i := k) (by rw [size_list]; exact hkl)] at HI'
      have hp : 10 ^ k ≤ 10 ^ 8 := Nat.pow_le_pow_right (by omega) (by omega)
      have hp2 : m < 100000000 := Nat.lt_of_lt_of_le hm hp
      have m0 : (0 : Int) ≤ (m : Int) := Int.natCast_nonneg _
      have m1 : (m : Int) < 100000000 := by omega
      have c1 := fun w => rhex_any s[k] w
      cases hd : isDg s[k] with
      | true =>
        have hv := hexI_dg hd
        generalize hexI s[k] = h at *
        rw [show s.data.toList[k]'(by rw [size_list]; exact hkl) = s[k] from rfl, dgI_yes hd] at HI'
        have hb : s[k].toNat - 48 < 10 := by
          have := hd
          rw [isDg_iff] at this
          have := of_decide_eq_true this
          omega
        have HI2 := Lib.hid HI'
        have hm2 : 10 * m + (s[k].toNat - 48) < 10 ^ (k + 1) := by rw [Nat.pow_succ]; omega
        have HM := Lib.hid hm2
        clear HI HI' hd hp hm2 hm hp2
        generalize s[k].toNat - 48 = d at *
        have d0 : (0 : Int) ≤ h := by omega
        have d1 : h < 10 := by omega
        have n0 : ¬ h < 0 := by omega
        have n9 : ¬ 9 < h := by omega
        have HV := Lib.hid hv
        clear hv hb
        obtain ⟨M, hM⟩ : ∃ M : Int, M = (m : Int) := ⟨_, rfl⟩
        have HQ := Lib.hid hM
        rw [← hM] at m0 m1 ⊢
        clear hM
        go_wp2_with (go_at_call 72; (with_reducible refine (c1 _).mono ?_); rintro e w1 ⟨rfl, rfl⟩)
        go_round
        case rel => exact ⟨k + 1, 10 * m + d, by omega, by go_num, by rw [HV.out, HQ.out]; go_num, HM.out, HI2⟩
        case measure => simp [intOf]; omega
      | false =>
        have hx := hexI_not hd
        rw [show s.data.toList[k]'(by rw [size_list]; exact hkl) = s[k] from rfl, dgI_no hd] at HI'
        subst HI'
        clear HI hd hp hm
        generalize hexI s[k] = h at *
        rcases hx with hx | hx
        · go_wp2_with (go_at_call 72; (with_reducible refine (c1 _).mono ?_); rintro e w1 ⟨rfl, rfl⟩)
          go_ret
          exact ⟨rfl, rfl⟩
        · have hn : ¬ h < 0 := by omega
          go_wp2_with (go_at_call 72; (with_reducible refine (c1 _).mono ?_); rintro e w1 ⟨rfl, rfl⟩)
          go_ret
          exact ⟨rfl, rfl⟩
    · obtain rfl : k = s.size := by omega
      have HI' := HI.out
      rw [List.drop_of_length_le (by rw [size_list]; exact Nat.le_refl _)] at HI'
      obtain rfl : R = (m : Int) := HI'
      clear HI hm
      go_wp2
      go_ret
      exact ⟨rfl, rfl⟩
end Val
end Go.Proofs.YtcacabpcobmgoaaGreatDoor
namespace Go.Proofs.YtcacabpcobmgoaaGreatDoor
open Go.ChangeShapes Go.WideShapes Go.ChangeAt Go.RowKit
namespace Val
def endV (r : Option (List UInt8)) : Value := match r with
  | some t => .tuple #[.string (toB t), .bool true]
  | none => .tuple #[.string ⟨#[]⟩, .bool false]
theorem ext_from (s : ByteArray) (n : Nat) (_h : n ≤ s.size) : (s.extract n s.size).data.toList = s.data.toList.drop n := by
  rw [ByteArray.data_extract, Array.toList_extract, List.extract_eq_take_drop]
  rw [List.take_of_length_le]
  rw [List.length_drop, size_list]
  exact Nat.le_refl _
theorem ext_to (s : ByteArray) (n : Nat) : (s.extract 0 n).data.toList = s.data.toList.take n := by
  rw [ByteArray.data_extract, Array.toList_extract, List.extract_eq_take_drop]
  simp
set_option maxRecDepth 100000 in
set_option maxHeartbeats 8000000 in
theorem rends_any (s e : ByteArray) (hs : s.size ≤ mostB) (he : e.size ≤ mostB) (w : World) : Calls Tryz.prog 46 #[.string s, .string e] w fun r w' => r = .returned (endV (cutEnd e.data.toList s.data.toList)) ∧ w = w' := by
  unfold mostB at hs he
  by_cases hlt : s.size < e.size
  · have ec : cutEnd e.data.toList s.data.toList = none := by
      unfold cutEnd
      rw [if_neg (fun q => by have := q.2; rw [size_list, size_list] at this; omega)]
    rw [ec]
    unfold endV
    have n0 : (s.size : Int) - (e.size : Int) < 0 := by omega
    clear ec
    go_enter Tryz.func46, Tryz.ntmps46
    go_wp2
    go_ret2
    exact ⟨rfl, rfl⟩
  · obtain ⟨n, hn⟩ : ∃ n, n = s.size - e.size := ⟨_, rfl⟩
    have hni : (s.size : Int) - (e.size : Int) = (n : Int) := by omega
    have n0 : (0 : Int) ≤ (n : Int) := Int.natCast_nonneg _
    have n1 : (n : Int) ≤ (s.size : Int) := by omega
    have h1 := ext_from s n (by omega)
    have h2 := ext_to s n
    have ec : cutEnd e.data.toList s.data.toList = if s.data.toList.drop n = e.data.toList then some (s.data.toList.take n) else none := by
      unfold cutEnd
      rw [size_list, size_list, ← hn]
      by_cases q : s.data.toList.drop n = e.data.toList
      · rw [if_pos ⟨q, by omega⟩, if_pos q]
      · rw [if_neg (fun z => q z.1), if_neg q]
    rw [ec, ← h1, ← h2]
    have et : toB (s.extract 0 n).data.toList = s.extract 0 n := rfl
    have hbq := (Lib.bytes_beq_iff (s.extract n s.size) e)
    have hbf := (Lib.bytes_beq_false_iff (s.extract n s.size) e)
    by_cases q : (s.extract n s.size).data.toList = e.data.toList
    · rw [if_pos q]
      have q2 : s.extract n s.size = e := bytes_inj q
      have q3 := hbq.2 q2
      unfold endV
      simp only [et]
      clear hbq hbf q q2 h1 h2 ec et hn
      go_enter Tryz.func46, Tryz.ntmps46
      go_wp2
      go_ret2
      exact ⟨rfl, rfl⟩
    · rw [if_neg q]
      have q3 := hbf.2 (fun z => q (by rw [z]))
      unfold endV
      clear hbq hbf q h1 h2 ec et hn
      go_enter Tryz.func46, Tryz.ntmps46
      go_wp2
      go_ret2
      exact ⟨rfl, rfl⟩
end Val
end Go.Proofs.YtcacabpcobmgoaaGreatDoor
