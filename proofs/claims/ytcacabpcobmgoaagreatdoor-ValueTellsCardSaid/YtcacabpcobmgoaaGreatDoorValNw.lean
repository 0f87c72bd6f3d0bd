/- What readNumber and readWith, of package value, answer. Conditions: the text isn't too long; the tables are laid. -/
import Derived.Test.YtcacabpcobmgoaaGreatDoorValRd
/- Numbers' texts: what readDigits and Cut tell, held against the document's reading. Conditions: none. -/
namespace Go.Proofs.YtcacabpcobmgoaaGreatDoor
namespace Val
theorem isDg_iff (c : UInt8) : isDg c = decide (48 ≤ c.toNat ∧ c.toNat ≤ 57) := by
  unfold isDg
  rw [Bool.eq_iff_iff]
  simp only [Bool.and_eq_true, decide_eq_true_eq, UInt8.le_iff_toNat_le]
  exact Iff.rfl
theorem dgv_10_is (c : UInt8) : dgv 10 c = if isDg c = true then some (c.toNat - 48) else none := by
  rw [isDg_iff]
  unfold dgv
  by_cases h : 48 ≤ c.toNat ∧ c.toNat ≤ 57
  · rw [if_pos h, decide_eq_true h, if_pos rfl]
  · rw [if_neg h, decide_eq_false h]
    have : (if false = true then some (c.toNat - 48) else none) = (none : Option Nat) := rfl
    rw [this]
    exact if_neg (by unfold loB; omega)
theorem puV_10 : ∀ (l : List UInt8) (n : Nat), puV 10 l n = if l.all isDg = true then some (l.foldl (fun n c => 10 * n + (c.toNat - 48)) n) else none := by
  intro l
  induction l with
  | nil => intro n; rfl
  | cons c l ih =>
    intro n
    rw [List.all_cons, List.foldl_cons, puV, dgv_10_is]
    cases hc : isDg c with
    | true => simp only [if_true, Bool.true_and]; rw [ih]; rw [Nat.mul_comm n 10]
    | false => simp
theorem rdF_is (most : Nat) (l : List UInt8) : rdF most l = if okD most l = true then some (valD l) else none := by
  unfold rdF okD valD
  by_cases hl : l.length ≤ most
  · rw [if_pos hl, decide_eq_true hl, Bool.and_true]
    unfold puF
    cases l with
    | nil => rfl
    | cons c l =>
      rw [if_neg (by simp), puV_10]
      simp
  · rw [if_neg hl, decide_eq_false hl, Bool.and_false, Bool.false_and]
    simp
theorem index_one (c : UInt8) : ∀ l : List UInt8, Lib.index l [c] = if c ∈ l then ((l.takeWhile (· != c)).length : Int) else -1 := by
  intro l
  induction l with
  | nil => rfl
  | cons b l ih =>
    by_cases hb : b = c
    · subst hb
      simp [Lib.index, List.isPrefixOf]
    · have h1 : (c == b) = false := by rw [beq_eq_false_iff_ne]; exact fun e => hb e.symm
      have h2 : (b != c) = true := by simpa using hb
      have h3 : (c ∈ b :: l) = (c ∈ l) := by rw [List.mem_cons]; exact propext ⟨fun e => e.resolve_left (fun e => hb e.symm), Or.inr⟩
      rw [Lib.index, ih]
      simp only [List.isPrefixOf, h1, Bool.false_and, Bool.false_eq_true, if_false, List.takeWhile_cons, h2, if_true, h3, List.length_cons]
      by_cases hm : c ∈ l
      · simp only [if_pos hm]
        have : (((l.takeWhile (· != c)).length : Int) == -1) = false := by rw [beq_eq_false_iff_ne]; omega
        rw [this]
        simp
      · simp only [if_neg hm]
        rfl
theorem cut_one (c : UInt8) (l : List UInt8) : Lib.cut l [c] = if c ∈ l then (l.takeWhile (· != c), (l.dropWhile (· != c)).tail, true) else (l, [], false) := by
  unfold Lib.cut
  rw [index_one]
  by_cases hm : c ∈ l
  · rw [if_pos hm, if_pos hm, if_pos (by omega)]
    have e := List.takeWhile_append_dropWhile (p := (· != c)) (l := l)
    have h1 : l.take (l.takeWhile (· != c)).length = l.takeWhile (· != c) := by
      generalize l.takeWhile (· != c) = a at *
      generalize l.dropWhile (· != c) = b at *
      subst e
      exact List.take_left
    have h2 : l.drop ((l.takeWhile (· != c)).length + 1) = (l.dropWhile (· != c)).tail := by
      generalize l.takeWhile (· != c) = a at *
      generalize l.dropWhile (· != c) = b at *
      subst e
      rw [← List.drop_drop, List.drop_left, List.drop_one]
    exact Prod.ext h1 (Prod.ext h2 rfl)
  · rw [if_neg hm, if_neg hm, if_neg (by omega)]
theorem take_all {c : UInt8} : ∀ {l : List UInt8}, c ∉ l → l.takeWhile (· != c) = l ∧ l.dropWhile (· != c) = [] := by
  intro l
  induction l with
  | nil => intro _; exact ⟨rfl, rfl⟩
  | cons b l ih =>
    intro h
    rw [List.mem_cons, not_or] at h
    have hb : (b != c) = true := by rw [bne_iff_ne]; exact fun e => h.1 e.symm
    obtain ⟨h1, h2⟩ := ih h.2
    rw [List.takeWhile_cons, List.dropWhile_cons, if_pos hb, if_pos hb, h1]
    exact ⟨rfl, h2⟩
theorem drop_some {c : UInt8} : ∀ {l : List UInt8}, c ∈ l → l.dropWhile (· != c) ≠ [] := by
  intro l
  induction l with
  | nil => intro h; cases h
  | cons b l ih =>
    intro h
    rw [List.dropWhile_cons]
    split
    · rename_i hb
      rw [bne_iff_ne] at hb
      exact ih ((List.mem_cons.1 h).resolve_left (fun e => hb e.symm))
    · exact List.cons_ne_nil _ _
theorem no_dot {c : UInt8} {l : List UInt8} (h : c ∉ l) : l.takeWhile (· != c) = l ∧ l.dropWhile (· != c) = [] := by
  exact take_all h
/-- What stands ahead of the dot, and behind it, as the code has them. -/
theorem behind_is (d : List UInt8) : (if (Lib.cut d [46]).2.2 = true then (Lib.cut d [46]).2.1 else [48]) = behindDot d ∧ (Lib.cut d [46]).1 = d.takeWhile (· != 46) := by
  rw [cut_one]
  by_cases hm : (46 : UInt8) ∈ d
  · rw [if_pos hm]
    refine ⟨?_, rfl⟩
    simp only [if_true]
    unfold behindDot
    cases hd : d.dropWhile (· != 46) with
    | nil => exact absurd hd (drop_some hm)
    | cons x t => rfl
  · obtain ⟨h1, h2⟩ := no_dot hm
    rw [if_neg hm]
    refine ⟨?_, h1.symm⟩
    simp only [Bool.false_eq_true, if_false]
    unfold behindDot
    rw [h2]
/-- Without its sign. -/
def bareL (l : List UInt8) : List UInt8 := Lib.trimPrefix l [45]
theorem numL_is (l : List UInt8) : numL l = Option.map (fun n : Nat => if Lib.hasPrefix l [45] = true then -(n : Int) else (n : Int)) (numU (bareL l)) := by
  unfold bareL Lib.trimPrefix Lib.hasPrefix
  cases l with
  | nil => rfl
  | cons c t =>
    by_cases hc : c = 45
    · subst hc
      have : List.isPrefixOf [45] ((45 : UInt8) :: t) = true := by simp [List.isPrefixOf]
      rw [numL_neg, this]
      simp
    · have : List.isPrefixOf [45] (c :: t) = false := by
        simp only [List.isPrefixOf, Bool.and_true]
        rw [beq_eq_false_iff_ne]
        exact fun e => hc e.symm
      rw [numL_pos t hc, this]
      simp
theorem part_up (p k : Nat) (hk : k ≤ 6) : p * 10 ^ (6 - k) * 64 / 1000000 = 64 * p / 10 ^ k := by
  have e : (1000000 : Nat) = 10 ^ k * 10 ^ (6 - k) := by rw [← Nat.pow_add, show k + (6 - k) = 6 by omega]
  rw [e, show p * 10 ^ (6 - k) * 64 = 64 * p * 10 ^ (6 - k) by rw [Nat.mul_comm _ 64, Nat.mul_assoc]]
  exact Nat.mul_div_mul_right _ _ (Nat.pow_pos (by omega))
theorem numU_none {d : List UInt8} (h : rdF 9 (d.takeWhile (· != 46)) = none ∨ rdF 6 (behindDot d) = none) : numU d = none := by
  unfold numU
  rw [rdF_is, rdF_is] at h
  rw [if_neg]
  intro e
  rw [Bool.and_eq_true] at e
  rw [if_pos e.1, if_pos e.2] at h
  rcases h with h | h <;> cases h
theorem numU_some {d : List UInt8} {n p : Nat} (h1 : rdF 9 (d.takeWhile (· != 46)) = some n) (h2 : rdF 6 (behindDot d) = some p) :
    numU d = some (64 * n + 64 * p / 10 ^ (behindDot d).length) ∧ (behindDot d).length ≤ 6 ∧ p < 10 ^ (behindDot d).length := by
  have hp : (behindDot d).length ≤ 6 ∧ p < 10 ^ (behindDot d).length := by
    unfold rdF at h2
    split at h2
    · rename_i hl
      refine ⟨hl, ?_⟩
      unfold puF at h2
      split at h2
      · cases h2
      · have := puV_lt (by omega) _ 0 p 0 (by omega) (fun c d => dgv_10) h2
        rwa [Nat.zero_add] at this
    · cases h2
  refine ⟨?_, hp⟩
  rw [rdF_is] at h1 h2
  unfold numU
  by_cases e1 : okD 9 (d.takeWhile (· != 46)) = true
  · by_cases e2 : okD 6 (behindDot d) = true
    · rw [if_pos e1] at h1
      rw [if_pos e2] at h2
      injection h1 with h1
      injection h2 with h2
      rw [if_pos (by rw [e1, e2]; rfl), h1, h2]
    · rw [if_neg e2] at h2; cases h2
  · rw [if_neg e1] at h1; cases h1
end Val
end Go.Proofs.YtcacabpcobmgoaaGreatDoor
namespace Go.Proofs.YtcacabpcobmgoaaGreatDoor
open Go.ChangeShapes Go.WideShapes Go.ChangeAt Go.RowKit
namespace Val
def nmV : Option Int → Value
  | some n => .tuple #[.int .i64 n, .bool true]
  | none => .tuple #[.int .i64 0, .bool false]
theorem ten_pow (p j : Nat) : p * 10 ^ (j + 1) = p * 10 ^ j * 10 := by rw [Nat.pow_succ, Nat.mul_assoc]
theorem cutB (s : ByteArray) (w : World) (hs : s.size ≤ mostB) (hT : Tabs w) : Calls Tryz.prog 70 #[.string s, .string ⟨#[46]⟩] w fun e w' =>
    e = .returned (.tuple #[.string (toB (Lib.cut s.data.toList [46]).1), .string (toB (Lib.cut s.data.toList [46]).2.1), .bool (Lib.cut s.data.toList [46]).2.2]) ∧ ∃ n, w' = w.drewN n := by
  unfold mostB at hs
  obtain ⟨m, hm⟩ := hT.len
  exact Tryz.strings_Cut s ⟨#[46]⟩ m w (by omega) hm
theorem cutPre (s : ByteArray) (c : UInt8) (w : World) : Calls Tryz.prog 68 #[.string s, .string ⟨#[c]⟩] w fun e w' =>
    e = .returned (.tuple #[.string (toB (Lib.trimPrefix s.data.toList [c])), .bool (Lib.hasPrefix s.data.toList [c])]) ∧ w = w' :=
  (Tryz.strings_CutPrefix s ⟨#[c]⟩ w).mono fun _ _ h => ⟨h.1, h.2.symm⟩
theorem toB_list (l : List UInt8) : (toB l).data.toList = l := rfl
theorem tp_len (l p : List UInt8) : (Lib.trimPrefix l p).length ≤ l.length := by unfold Lib.trimPrefix; split <;> simp
theorem cut_len (l : List UInt8) : (Lib.cut l [46]).1.length ≤ l.length ∧ (Lib.cut l [46]).2.1.length ≤ l.length := by
  rw [cut_one]
  split
  · exact ⟨(List.takeWhile_prefix _).length_le, by simp only [List.length_tail]; have := (List.dropWhile_suffix (p := (· != (46 : UInt8))) (l := l)).length_le; omega⟩
  · exact ⟨Nat.le_refl _, Nat.zero_le _⟩
set_option maxHeartbeats 16000000 in
set_option maxRecDepth 100000 in
theorem readNumber_any (s : ByteArray) (hs : s.size ≤ mostB) (w : World) (hT : Tabs w) : Calls Tryz.prog 42 #[.string s] w fun e w' => e = .returned (nmV (numL s.data.toList)) ∧ Below w.heap.size w w' := by
  have hs' : s.data.toList.length ≤ mostB := by rw [← Lib.size_eq]; exact hs
  have c1 := fun w => cutPre s 45 w
  obtain ⟨hb1, hb2⟩ := behind_is (bareL s.data.toList)
  have hN := numL_is s.data.toList
  obtain ⟨d, hd⟩ : ∃ d, d = bareL s.data.toList := ⟨_, rfl⟩
  have hdl : d.length ≤ mostB := by rw [hd]; exact Nat.le_trans (tp_len _ _) hs'
  have hd' : Lib.trimPrefix s.data.toList [45] = d := by rw [hd]; rfl
  rw [hd'] at c1
  rw [← hd] at hb1 hb2 hN
  clear hd hd'
  have c2 := fun w hT => cutB (toB d) w (by rw [toB_size]; exact hdl) hT
  rw [toB_list] at c2
  obtain ⟨ca, cb⟩ := cut_len d
  generalize Lib.hasPrefix s.data.toList [45] = neg at *
  generalize (Lib.cut d [46]).1 = a at *
  generalize (Lib.cut d [46]).2.1 = b at *
  generalize (Lib.cut d [46]).2.2 = has at *
  generalize numL s.data.toList = R at *
  have c3 : ∀ w, Tabs w → Calls Tryz.prog 71 #[.string (toB a), .int .i64 9] w fun e w' => e = .returned (rdV (rdF 9 (d.takeWhile (· != 46)))) ∧ Below w.heap.size w w' := by
    intro w hT
    rw [← hb2]
    exact readDigits_any (toB a) 9 (by omega) (by rw [toB_size]; exact Nat.le_trans ca hdl) w hT
  have hbl : (behindDot d).length ≤ mostB := by
    rw [← hb1]
    unfold mostB at *
    split
    · omega
    · simp
  have c4 : ∀ w, Tabs w → Calls Tryz.prog 71 #[.string (toB (behindDot d)), .int .i64 6] w fun e w' => e = .returned (rdV (rdF 6 (behindDot d))) ∧ Below w.heap.size w w' :=
    fun w hT => readDigits_any (toB (behindDot d)) 6 (by omega) (by rw [toB_size]; exact hbl) w hT
  have hU0 := fun h => numU_none (d := d) h
  have hU1 := fun n p h1 h2 => numU_some (d := d) (n := n) (p := p) h1 h2
  have hsz := toB_size (behindDot d)
  have hlt := fun n (h : rdF 9 (d.takeWhile (· != 46)) = some n) => rd_lt h (by omega)
  generalize rdF 9 (d.takeWhile (· != 46)) = ra at *
  generalize rdF 6 (behindDot d) = rb at *
  obtain ⟨bd, hbd⟩ : ∃ bd, bd = behindDot d := ⟨_, rfl⟩
  rw [← hbd] at hb1 c4 hU1 hsz
  clear hbl ca hs' hs hdl cb hbd hb2
  have hlit : toB [48] = ⟨#[48]⟩ := rfl
  cases ra with
  | none =>
    have hR : R = none := by rw [hN, hU0 (.inl rfl)]; rfl
    subst hR
    unfold nmV
    simp only [rdV] at c3
    cases rb with
    | none =>
      simp only [rdV] at c4
      cases has with
      | true =>
        have hb1 : b = bd := hb1
        subst hb1
        clear hsz hU0 hU1 hN hlt
        go_enter Tryz.func42, Tryz.ntmps42
        go_wp2_with (first
          | (go_at_call 68; (with_reducible refine (c1 _).mono ?_); rintro e w1 ⟨rfl, rfl⟩)
          | (go_at_call 70; (with_reducible refine (c2 _ hT).mono ?_); rintro e w2 ⟨rfl, q, rfl⟩
             have hB2 := below_dr (Below.refl w.heap.size w) q
             have hT2 := hT.at_ hB2)
          | (go_at_call 71; (with_reducible refine (c3 _ hT2).mono ?_); rintro e w3 ⟨rfl, hb3⟩
             have hB3 := below_next hB2 hb3
             have hT3 := hT2.at_ hb3)
          | (go_at_call 71; (with_reducible refine (c4 _ hT3).mono ?_); rintro e w4 ⟨rfl, hb4⟩
             have hB4 := below_next hB3 hb4))
        go_ret2
        exact ⟨rfl, hB4⟩
      | false =>
        have hb1 : [48] = bd := hb1
        subst hb1
        rw [hlit] at c4
        clear hsz hU0 hU1 hN hlt
        go_enter Tryz.func42, Tryz.ntmps42
        go_wp2_with (first
          | (go_at_call 68; (with_reducible refine (c1 _).mono ?_); rintro e w1 ⟨rfl, rfl⟩)
          | (go_at_call 70; (with_reducible refine (c2 _ hT).mono ?_); rintro e w2 ⟨rfl, q, rfl⟩
             have hB2 := below_dr (Below.refl w.heap.size w) q
             have hT2 := hT.at_ hB2)
          | (go_at_call 71; (with_reducible refine (c3 _ hT2).mono ?_); rintro e w3 ⟨rfl, hb3⟩
             have hB3 := below_next hB2 hb3
             have hT3 := hT2.at_ hb3)
          | (go_at_call 71; (with_reducible refine (c4 _ hT3).mono ?_); rintro e w4 ⟨rfl, hb4⟩
             have hB4 := below_next hB3 hb4))
        go_ret2
        exact ⟨rfl, hB4⟩
    | some p =>
      simp only [rdV] at c4
      cases has with
      | true =>
        have hb1 : b = bd := hb1
        subst hb1
        clear hsz hU0 hU1 hN hlt
        go_enter Tryz.func42, Tryz.ntmps42
        go_wp2_with (first
          | (go_at_call 68; (with_reducible refine (c1 _).mono ?_); rintro e w1 ⟨rfl, rfl⟩)
          | (go_at_call 70; (with_reducible refine (c2 _ hT).mono ?_); rintro e w2 ⟨rfl, q, rfl⟩
             have hB2 := below_dr (Below.refl w.heap.size w) q
             have hT2 := hT.at_ hB2)
          | (go_at_call 71; (with_reducible refine (c3 _ hT2).mono ?_); rintro e w3 ⟨rfl, hb3⟩
             have hB3 := below_next hB2 hb3
             have hT3 := hT2.at_ hb3)
          | (go_at_call 71; (with_reducible refine (c4 _ hT3).mono ?_); rintro e w4 ⟨rfl, hb4⟩
             have hB4 := below_next hB3 hb4))
        go_ret2
        exact ⟨rfl, hB4⟩
      | false =>
        have hb1 : [48] = bd := hb1
        subst hb1
        rw [hlit] at c4
        clear hsz hU0 hU1 hN hlt
        go_enter Tryz.func42, Tryz.ntmps42
        go_wp2_with (first
          | (go_at_call 68; (with_reducible refine (c1 _).mono ?_); rintro e w1 ⟨rfl, rfl⟩)
          | (go_at_call 70; (with_reducible refine (c2 _ hT).mono ?_); rintro e w2 ⟨rfl, q, rfl⟩
             have hB2 := below_dr (Below.refl w.heap.size w) q
             have hT2 := hT.at_ hB2)
          | (go_at_call 71; (with_reducible refine (c3 _ hT2).mono ?_); rintro e w3 ⟨rfl, hb3⟩
             have hB3 := below_next hB2 hb3
             have hT3 := hT2.at_ hb3)
          | (go_at_call 71; (with_reducible refine (c4 _ hT3).mono ?_); rintro e w4 ⟨rfl, hb4⟩
             have hB4 := below_next hB3 hb4))
        go_ret2
        exact ⟨rfl, hB4⟩
  | some n =>
    simp only [rdV] at c3
    cases rb with
    | none =>
      have hR : R = none := by rw [hN, hU0 (.inr rfl)]; rfl
      subst hR
      unfold nmV
      simp only [rdV] at c4
      cases has with
      | true =>
        have hb1 : b = bd := hb1
        subst hb1
        clear hsz hU0 hU1 hN hlt
        go_enter Tryz.func42, Tryz.ntmps42
        go_wp2_with (first
          | (go_at_call 68; (with_reducible refine (c1 _).mono ?_); rintro e w1 ⟨rfl, rfl⟩)
          | (go_at_call 70; (with_reducible refine (c2 _ hT).mono ?_); rintro e w2 ⟨rfl, q, rfl⟩
             have hB2 := below_dr (Below.refl w.heap.size w) q
             have hT2 := hT.at_ hB2)
          | (go_at_call 71; (with_reducible refine (c3 _ hT2).mono ?_); rintro e w3 ⟨rfl, hb3⟩
             have hB3 := below_next hB2 hb3
             have hT3 := hT2.at_ hb3)
          | (go_at_call 71; (with_reducible refine (c4 _ hT3).mono ?_); rintro e w4 ⟨rfl, hb4⟩
             have hB4 := below_next hB3 hb4))
        go_ret2
        exact ⟨rfl, hB4⟩
      | false =>
        have hb1 : [48] = bd := hb1
        subst hb1
        rw [hlit] at c4
        clear hsz hU0 hU1 hN hlt
        go_enter Tryz.func42, Tryz.ntmps42
        go_wp2_with (first
          | (go_at_call 68; (with_reducible refine (c1 _).mono ?_); rintro e w1 ⟨rfl, rfl⟩)
          | (go_at_call 70; (with_reducible refine (c2 _ hT).mono ?_); rintro e w2 ⟨rfl, q, rfl⟩
             have hB2 := below_dr (Below.refl w.heap.size w) q
             have hT2 := hT.at_ hB2)
          | (go_at_call 71; (with_reducible refine (c3 _ hT2).mono ?_); rintro e w3 ⟨rfl, hb3⟩
             have hB3 := below_next hB2 hb3
             have hT3 := hT2.at_ hb3)
          | (go_at_call 71; (with_reducible refine (c4 _ hT3).mono ?_); rintro e w4 ⟨rfl, hb4⟩
             have hB4 := below_next hB3 hb4))
        go_ret2
        exact ⟨rfl, hB4⟩
    | some p =>
      simp only [rdV] at c4
      cases has with
      | true =>
        have hb1 : b = bd := hb1
        subst hb1
        obtain ⟨hu, hk6, hpk⟩ := hU1 n p rfl rfl
        have hn9 := hlt n rfl
        have hp6 : p < 1000000 := Nat.lt_of_lt_of_le hpk (Nat.le_trans (Nat.pow_le_pow_right (by omega) hk6) (by decide))
        have hfin := part_up p (b.length) hk6
        have hpj : ∀ j, j ≤ 6 - (b.length) → p * 10 ^ j < 1000000 := by
          intro j hj
          have h1 : p * 10 ^ j < 10 ^ (b.length) * 10 ^ j := Nat.mul_lt_mul_of_pos_right hpk (Nat.pow_pos (by omega))
          rw [← Nat.pow_add] at h1
          exact Nat.lt_of_lt_of_le h1 (Nat.le_trans (Nat.pow_le_pow_right (by omega) (by omega)) (by decide : (10 : Nat) ^ 6 ≤ 1000000))
        rw [hu] at hN
        simp only [Option.map_some] at hN
        have HN := Lib.hid hN
        clear hN hu hlt hU0 hU1
        obtain ⟨L, hL⟩ : ∃ L, L = b.length := ⟨_, rfl⟩
        rw [← hL] at hk6 hpk hfin hpj hsz HN
        have hlim : IntKind.i64.wrap (6 - (L : Int)) = ((6 - L : Nat) : Int) := by rw [IntKind.wrap_i64]; omega
        clear hL
        go_enter Tryz.func42, Tryz.ntmps42
        go_wp2_with (first
          | (go_at_call 68; (with_reducible refine (c1 _).mono ?_); rintro e w1 ⟨rfl, rfl⟩)
          | (go_at_call 70; (with_reducible refine (c2 _ hT).mono ?_); rintro e w2 ⟨rfl, q, rfl⟩
             have hB2 := below_dr (Below.refl w.heap.size w) q
             have hT2 := hT.at_ hB2)
          | (go_at_call 71; (with_reducible refine (c3 _ hT2).mono ?_); rintro e w3 ⟨rfl, hb3⟩
             have hB3 := below_next hB2 hb3
             have hT3 := hT2.at_ hb3)
          | (go_at_call 71; (with_reducible refine (c4 _ hT3).mono ?_); rintro e w4 ⟨rfl, hb4⟩
             have hB4 := below_next hB3 hb4))
        go_loop [45, 11] (fun i pv => ∃ j : Nat, j ≤ 6 - L ∧ i = .int .i64 j ∧ pv = .int .i64 ((p * 10 ^ j : Nat) : Int)) (fun i _ => 6 - L - (intOf i).toNat)
        case atStart => exact ⟨0, Nat.zero_le _, rfl, by simp⟩
        case round =>
          obtain ⟨j, hj, rfl, rfl⟩ := hrel
          have h6 := hpj j hj
          by_cases hlt : j < 6 - L
          · have h7 := hpj (j + 1) hlt
            have HT := Lib.hid (ten_pow p j)
            clear hfin hpj hpk
            generalize p * 10 ^ j = P at *
            have P0 : (0 : Int) ≤ (P : Int) := Int.natCast_nonneg _
            have P1 : (P : Int) < 1000000 := by omega
            have jl : (j : Int) < ((6 - L : Nat) : Int) := by omega
            go_wp2
            go_round
            case rel => exact ⟨j + 1, by omega, by go_num, by rw [HT.out]; congr 1⟩
            case measure => simp [intOf]; omega
          · obtain rfl : j = 6 - L := by omega
            have HF := Lib.hid hfin
            clear hfin hpj hpk
            generalize p * 10 ^ (6 - L) = P at *
            have P0 : (0 : Int) ≤ (P : Int) := Int.natCast_nonneg _
            have P1 : (P : Int) < 1000000 := by omega
            have n0 : (0 : Int) ≤ (n : Int) := Int.natCast_nonneg _
            have n1 : (n : Int) < 1000000000 := by omega
            have hd1 : (0 : Int) ≤ (P : Int) * 64 / 1000000 := by omega
            have hd2 : (P : Int) * 64 / 1000000 ≤ 64 := by omega
            have hval : ((64 * n + 64 * p / 10 ^ L : Nat) : Int) = (n : Int) * 64 + (P : Int) * 64 / 1000000 := by
              rw [← HF.out]
              omega
            have HV := Lib.hid hval
            clear hval h6 hp6
            cases neg
            all_goals
              go_wp2
              go_ret2
              rw [HN.out]
              simp only [Bool.false_eq_true, if_false, if_true, HV.out]
              exact ⟨rfl, hB4⟩
      | false =>
        have hb1 : [48] = bd := hb1
        subst hb1
        rw [hlit] at c4
        obtain ⟨hu, hk6, hpk⟩ := hU1 n p rfl rfl
        have hn9 := hlt n rfl
        have hp6 : p < 1000000 := Nat.lt_of_lt_of_le hpk (Nat.le_trans (Nat.pow_le_pow_right (by omega) hk6) (by decide))
        have hfin := part_up p (([48] : List UInt8).length) hk6
        have hpj : ∀ j, j ≤ 6 - (([48] : List UInt8).length) → p * 10 ^ j < 1000000 := by
          intro j hj
          have h1 : p * 10 ^ j < 10 ^ (([48] : List UInt8).length) * 10 ^ j := Nat.mul_lt_mul_of_pos_right hpk (Nat.pow_pos (by omega))
          rw [← Nat.pow_add] at h1
          exact Nat.lt_of_lt_of_le h1 (Nat.le_trans (Nat.pow_le_pow_right (by omega) (by omega)) (by decide : (10 : Nat) ^ 6 ≤ 1000000))
        rw [hu] at hN
        simp only [Option.map_some] at hN
        have HN := Lib.hid hN
        clear hN hu hlt hU0 hU1
        obtain ⟨L, hL⟩ : ∃ L, L = ([48] : List UInt8).length := ⟨_, rfl⟩
        have hL1 : L = 1 := hL
        have HN0 := HN
        clear HN
        have HN := Lib.hid (show R = _ from HN0.out)
        clear HN0
        rw [← hL] at hk6 hpk hfin hpj
        have hlim : IntKind.i64.wrap (6 - (L : Int)) = ((6 - L : Nat) : Int) := by rw [IntKind.wrap_i64]; omega
        clear hL
        subst hL1
        go_enter Tryz.func42, Tryz.ntmps42
        go_wp2_with (first
          | (go_at_call 68; (with_reducible refine (c1 _).mono ?_); rintro e w1 ⟨rfl, rfl⟩)
          | (go_at_call 70; (with_reducible refine (c2 _ hT).mono ?_); rintro e w2 ⟨rfl, q, rfl⟩
             have hB2 := below_dr (Below.refl w.heap.size w) q
             have hT2 := hT.at_ hB2)
          | (go_at_call 71; (with_reducible refine (c3 _ hT2).mono ?_); rintro e w3 ⟨rfl, hb3⟩
             have hB3 := below_next hB2 hb3
             have hT3 := hT2.at_ hb3)
          | (go_at_call 71; (with_reducible refine (c4 _ hT3).mono ?_); rintro e w4 ⟨rfl, hb4⟩
             have hB4 := below_next hB3 hb4))
        go_loop [45, 11] (fun i pv => ∃ j : Nat, j ≤ 6 - 1 ∧ i = .int .i64 j ∧ pv = .int .i64 ((p * 10 ^ j : Nat) : Int)) (fun i _ => 6 - 1 - (intOf i).toNat)
        case atStart => exact ⟨0, Nat.zero_le _, rfl, by simp⟩
        case round =>
          obtain ⟨j, hj, rfl, rfl⟩ := hrel
          have h6 := hpj j hj
          by_cases hlt : j < 6 - 1
          · have h7 := hpj (j + 1) hlt
            have HT := Lib.hid (ten_pow p j)
            clear hfin hpj hpk
            generalize p * 10 ^ j = P at *
            have P0 : (0 : Int) ≤ (P : Int) := Int.natCast_nonneg _
            have P1 : (P : Int) < 1000000 := by omega
            have jl : (j : Int) < 5 := by omega
            go_wp2
            go_round
            case rel => exact ⟨j + 1, by omega, by go_num, by rw [HT.out]; congr 1⟩
            case measure => simp [intOf]; omega
          · obtain rfl : j = 6 - 1 := by omega
            have HF := Lib.hid hfin
            clear hfin hpj hpk
            generalize p * 10 ^ (6 - 1) = P at *
            have P0 : (0 : Int) ≤ (P : Int) := Int.natCast_nonneg _
            have P1 : (P : Int) < 1000000 := by omega
            have n0 : (0 : Int) ≤ (n : Int) := Int.natCast_nonneg _
            have n1 : (n : Int) < 1000000000 := by omega
            have hd1 : (0 : Int) ≤ (P : Int) * 64 / 1000000 := by omega
            have hd2 : (P : Int) * 64 / 1000000 ≤ 64 := by omega
            have hval : ((64 * n + 64 * p / 10 ^ 1 : Nat) : Int) = (n : Int) * 64 + (P : Int) * 64 / 1000000 := by
              rw [← HF.out]
              omega
            have HV := Lib.hid hval
            clear hval h6 hp6
            cases neg
            all_goals
              go_wp2
              go_ret2
              rw [HN.out, show ([48] : List UInt8).length = 1 from rfl]
              simp only [Bool.false_eq_true, if_false, if_true, HV.out]
              exact ⟨rfl, hB4⟩
end Val
end Go.Proofs.YtcacabpcobmgoaaGreatDoor
