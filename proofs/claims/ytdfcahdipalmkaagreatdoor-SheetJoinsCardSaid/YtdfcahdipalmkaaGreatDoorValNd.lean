/- What readColor answers. Conditions: the text isn't too long, and has no capitals; the tables are laid. -/
import Derived.Test.YtdfcahdipalmkaaGreatDoorValRd
import Derived.Maps.Own
import Derived.Maps.OwnOps
import Derived.Maps.OwnSet
import Derived.Maps.Views
import Derived.Below
/- What readNumber and readWith, of package value, answer. Conditions: the text isn't too long; the tables are laid. -/
namespace Go.Proofs.YtdfcahdipalmkaaGreatDoor
namespace Val
theorem isDg_iff (c : UInt8) : isDg c = decide (48 ≤ c.toNat ∧ c.toNat ≤ 57) := by
  unfold isDg
  rw [Bool.eq_iff_iff]
  simp only [Bool.and_eq_true, decide_eq_true_eq, UInt8.le_iff_toNat_le]
  exact Iff.rfl
theorem dgv_10_is (c : UInt8) : dgv 10 c = if isDg c = true then some (c.toNat - 48) else none := by
  rw [isDg_iff]
  unfold dgv
  by_cases h : 48 ≤ c.toNat ∧ c.toNat ≤ 57
  · rw [if_pos h, decide_eq_true h, if_pos rfl]
  · rw [if_neg h, decide_eq_false h]
    have : (if false = true then some (c.toNat - 48) else none) = (none : Option Nat) := rfl
    rw [this]
    exact if_neg (by unfold loB; omega)
theorem puV_10 : ∀ (l : List UInt8) (n : Nat), puV 10 l n = if l.all isDg = true then some (l.foldl (fun n c => 10 * n + (c.toNat - 48)) n) else none := by
  intro l
  induction l with
  | nil => intro n; rfl
  | cons c l ih =>
    intro n
    rw [List.all_cons, List.foldl_cons, puV, dgv_10_is]
    cases hc : isDg c with
    | true => simp only [if_true, Bool.true_and]; rw [ih]; rw [Nat.mul_comm n 10]
    | false => simp
theorem rdF_is (most : Nat) (l : List UInt8) : rdF most l = if okD most l = true then some (valD l) else none := by
  unfold rdF okD valD
  by_cases hl : l.length ≤ most
  · rw [if_pos hl, decide_eq_true hl, Bool.and_true]
    unfold puF
    cases l with
    | nil => rfl
    | cons c l =>
      rw [if_neg (by simp), puV_10]
      simp
  · rw [if_neg hl, decide_eq_false hl, Bool.and_false, Bool.false_and]
    simp
theorem index_one (c : UInt8) : ∀ l : List UInt8, Lib.index l [c] = if c ∈ l then ((l.takeWhile (· != c)).length : Int) else -1 := by
  intro l
  induction l with
  | nil => rfl
  | cons b l ih =>
    by_cases hb : b = c
    · subst hb
      simp [Lib.index, List.isPrefixOf]
    · have h1 : (c == b) = false := by rw [beq_eq_false_iff_ne]; exact fun e => hb e.symm
      have h2 : (b != c) = true := by simpa using hb
      have h3 : (c ∈ b :: l) = (c ∈ l) := by rw [List.mem_cons]; exact propext ⟨fun e => e.resolve_left (fun e => hb e.symm), Or.inr⟩
      rw [Lib.index, ih]
      simp only [List.isPrefixOf, h1, Bool.false_and, Bool.false_eq_true, if_false, List.takeWhile_cons, h2, if_true, h3, List.length_cons]
      by_cases hm : c ∈ l
      · simp only [if_pos hm]
        have : (((l.takeWhile (· != c)).length : Int) == -1) = false := by rw [beq_eq_false_iff_ne]; omega
        rw [this]
        simp
      · simp only [if_neg hm]
        rfl
theorem cut_one (c : UInt8) (l : List UInt8) : Lib.cut l [c] = if c ∈ l then (l.takeWhile (· != c), (l.dropWhile (· != c)).tail, true) else (l, [], false) := by
  unfold Lib.cut
  rw [index_one]
  by_cases hm : c ∈ l
  · rw [if_pos hm, if_pos hm, if_pos (by omega)]
    have e := List.takeWhile_append_dropWhile (p := (· != c)) (l := l)
    have h1 : l.take (l.takeWhile (· != c)).length = l.takeWhile (· != c) := by
      generalize l.takeWhile (· != c) = a at *
      generalize l.dropWhile (· != c) = b at *
      subst e
      exact List.take_left
    have h2 : l.drop ((l.takeWhile (· != c)).length + 1) = (l.dropWhile (· != c)).tail := by
      generalize l.takeWhile (· != c) = a at *
      generalize l.dropWhile (· != c) = b at *
      subst e
      rw [← List.drop_drop, List.drop_left, List.drop_one]
    exact Prod.ext h1 (Prod.ext h2 rfl)
  · rw [if_neg hm, if_neg hm, if_neg (by omega)]
theorem take_all {c : UInt8} : ∀ {l : List UInt8}, c ∉ l → l.takeWhile (· != c) = l ∧ l.dropWhile (· != c) = [] := by
  intro l
  induction l with
  | nil => intro _; exact ⟨rfl, rfl⟩
  | cons b l ih =>
    intro h
    rw [List.mem_cons, not_or] at h
    have hb : (b != c) = true := by rw [bne_iff_ne]; exact fun e => h.1 e.symm
    obtain ⟨h1, h2⟩ := ih h.2
    rw [List.takeWhile_cons, List.dropWhile_cons, if_pos hb, if_pos hb, h1]
    exact ⟨rfl, h2⟩
theorem drop_some {c : UInt8} : ∀ {l : List UInt8}, c ∈ l → l.dropWhile (· != c) ≠ [] := by
  intro l
  induction l with
  | nil => intro h; cases h
  | cons b l ih =>
    intro h
    rw [List.dropWhile_cons]
    split
    · rename_i hb
      rw [bne_iff_ne] at hb
      exact ih ((List.mem_cons.1 h).resolve_left (fun e => hb e.symm))
    · exact List.cons_ne_nil _ _
theorem no_dot {c : UInt8} {l : List UInt8} (h : c ∉ l) : l.takeWhile (· != c) = l ∧ l.dropWhile (· != c) = [] := by
  exact take_all h
/-- What stands ahead of the dot, and behind it, as the code has them. -/
theorem behind_is (d : List UInt8) : (if (Lib.cut d [46]).2.2 = true then (Lib.cut d [46]).2.1 else [48]) = behindDot d ∧ (Lib.cut d [46]).1 = d.takeWhile (· != 46) := by
  rw [cut_one]
  by_cases hm : (46 : UInt8) ∈ d
  · rw [if_pos hm]
    refine ⟨?_, rfl⟩
    simp only [if_true]
    unfold behindDot
    cases hd : d.dropWhile (· != 46) with
    | nil => exact absurd hd (drop_some hm)
    | cons x t => rfl
  · obtain ⟨h1, h2⟩ := no_dot hm
    rw [if_neg hm]
    refine ⟨?_, h1.symm⟩
    simp only [Bool.false_eq_true, if_false]
    unfold behindDot
    rw [h2]
/-- Without its sign. -/
def bareL (l : List UInt8) : List UInt8 := Lib.trimPrefix l [45]
theorem numL_is (l : List UInt8) : numL l = Option.map (fun n : Nat => if Lib.hasPrefix l [45] = true then -(n : Int) else (n : Int)) (numU (bareL l)) := by
  unfold bareL Lib.trimPrefix Lib.hasPrefix
  cases l with
  | nil => rfl
  | cons c t =>
    by_cases hc : c = 45
    · subst hc
      have : List.isPrefixOf [45] ((45 : UInt8) :: t) = true := by simp [List.isPrefixOf]
      rw [numL_neg, this]
      simp
    · have : List.isPrefixOf [45] (c :: t) = false := by
        simp only [List.isPrefixOf, Bool.and_true]
        rw [beq_eq_false_iff_ne]
        exact fun e => hc e.symm
      rw [numL_pos t hc, this]
      simp
theorem part_up (p k : Nat) (hk : k ≤ 6) : p * 10 ^ (6 - k) * 64 / 1000000 = 64 * p / 10 ^ k := by
  have e : (1000000 : Nat) = 10 ^ k * 10 ^ (6 - k) := by rw [← Nat.pow_add, show k + (6 - k) = 6 by omega]
  rw [e, show p * 10 ^ (6 - k) * 64 = 64 * p * 10 ^ (6 - k) by rw [Nat.mul_comm _ 64, Nat.mul_assoc]]
  exact Nat.mul_div_mul_right _ _ (Nat.pow_pos (by omega))
theorem numU_none {d : List UInt8} (h : rdF 9 (d.takeWhile (· != 46)) = none ∨ rdF 6 (behindDot d) = none) : numU d = none := by
  unfold numU
  rw [rdF_is, rdF_is] at h
  rw [if_neg]
  intro e
  rw [Bool.and_eq_true] at e
  rw [if_pos e.1, if_pos e.2] at h
  rcases h with h | h <;> cases h
theorem numU_some {d : List UInt8} {n p : Nat} (h1 : rdF 9 (d.takeWhile (· != 46)) = some n) (h2 : rdF 6 (behindDot d) = some p) :
    numU d = some (64 * n + 64 * p / 10 ^ (behindDot d).length) ∧ (behindDot d).length ≤ 6 ∧ p < 10 ^ (behindDot d).length := by
  have hp : (behindDot d).length ≤ 6 ∧ p < 10 ^ (behindDot d).length := by
    unfold rdF at h2
    split at h2
    · rename_i hl
      refine ⟨hl, ?_⟩
      unfold puF at h2
      split at h2
      · cases h2
      · have := puV_lt (by omega) _ 0 p 0 (by omega) (fun c d => dgv_10) h2
        rwa [Nat.zero_add] at this
    · cases h2
  refine ⟨?_, hp⟩
  rw [rdF_is] at h1 h2
  unfold numU
  by_cases e1 : okD 9 (d.takeWhile (· != 46)) = true
  · by_cases e2 : okD 6 (behindDot d) = true
    · rw [if_pos e1] at h1
      rw [if_pos e2] at h2
      injection h1 with h1
      injection h2 with h2
      rw [if_pos (by rw [e1, e2]; rfl), h1, h2]
    · rw [if_neg e2] at h2; cases h2
  · rw [if_neg e1] at h1; cases h1
end Val
end Go.Proofs.YtdfcahdipalmkaaGreatDoor
namespace Go.Proofs.YtdfcahdipalmkaaGreatDoor
open Go.ChangeShapes Go.WideShapes Go.ChangeAt Go.RowKit
namespace Val
def nmV : Option Int → Value
  | some n => .tuple #[.int .i64 n, .bool true]
  | none => .tuple #[.int .i64 0, .bool false]
theorem ten_pow (p j : Nat) : p * 10 ^ (j + 1) = p * 10 ^ j * 10 := by rw [Nat.pow_succ, Nat.mul_assoc]
theorem cutB (s : ByteArray) (w : World) (hs : s.size ≤ mostB) (hT : Tabs w) : Calls Tryz.prog 50 #[.string s, .string ⟨#[46]⟩] w fun e w' =>
    e = .returned (.tuple #[.string (toB (Lib.cut s.data.toList [46]).1), .string (toB (Lib.cut s.data.toList [46]).2.1), .bool (Lib.cut s.data.toList [46]).2.2]) ∧ ∃ n, w' = w.drewN n := by
  unfold mostB at hs
  obtain ⟨m, hm⟩ := hT.len
  exact Tryz.strings_Cut s ⟨#[46]⟩ m w (by omega) hm
theorem cutPre (s : ByteArray) (c : UInt8) (w : World) : Calls Tryz.prog 181 #[.string s, .string ⟨#[c]⟩] w fun e w' =>
    e = .returned (.tuple #[.string (toB (Lib.trimPrefix s.data.toList [c])), .bool (Lib.hasPrefix s.data.toList [c])]) ∧ w = w' :=
  (Tryz.strings_CutPrefix s ⟨#[c]⟩ w).mono fun _ _ h => ⟨h.1, h.2.symm⟩
theorem toB_list (l : List UInt8) : (toB l).data.toList = l := rfl
theorem tp_len (l p : List UInt8) : (Lib.trimPrefix l p).length ≤ l.length := by unfold Lib.trimPrefix; split <;> simp
theorem cut_len (l : List UInt8) : (Lib.cut l [46]).1.length ≤ l.length ∧ (Lib.cut l [46]).2.1.length ≤ l.length := by
  rw [cut_one]
  split
  · exact ⟨(List.takeWhile_prefix _).length_le, by simp only [List.length_tail]; have := (List.dropWhile_suffix (p := (· != (46 : UInt8))) (l := l)).length_le; omega⟩
  · exact ⟨Nat.le_refl _, Nat.zero_le _⟩
set_option maxHeartbeats 16000000 in
set_option maxRecDepth 100000 in
theorem readNumber_any (s : ByteArray) (hs : s.size ≤ mostB) (w : World) (hT : Tabs w) : Calls Tryz.prog 158 #[.string s] w fun e w' => e = .returned (nmV (numL s.data.toList)) ∧ Below w.heap.size w w' := by
  have hs' : s.data.toList.length ≤ mostB := by rw [← Lib.size_eq]; exact hs
  have c1 := fun w => cutPre s 45 w
  obtain ⟨hb1, hb2⟩ := behind_is (bareL s.data.toList)
  have hN := numL_is s.data.toList
  obtain ⟨d, hd⟩ : ∃ d, d = bareL s.data.toList := ⟨_, rfl⟩
  have hdl : d.length ≤ mostB := by rw [hd]; exact Nat.le_trans (tp_len _ _) hs'
  have hd' : Lib.trimPrefix s.data.toList [45] = d := by rw [hd]; rfl
  rw [hd'] at c1
  rw [← hd] at hb1 hb2 hN
  clear hd hd'
  have c2 := fun w hT => cutB (toB d) w (by rw [toB_size]; exact hdl) hT
  rw [toB_list] at c2
  obtain ⟨ca, cb⟩ := cut_len d
  generalize Lib.hasPrefix s.data.toList [45] = neg at *
  generalize (Lib.cut d [46]).1 = a at *
  generalize (Lib.cut d [46]).2.1 = b at *
  generalize (Lib.cut d [46]).2.2 = has at *
  generalize numL s.data.toList = R at *
  have c3 : ∀ w, Tabs w → Calls Tryz.prog 183 #[.string (toB a), .int .i64 9] w fun e w' => e = .returned (rdV (rdF 9 (d.takeWhile (· != 46)))) ∧ Below w.heap.size w w' := by
    intro w hT
    rw [← hb2]
    exact readDigits_any (toB a) 9 (by omega) (by rw [toB_size]; exact Nat.le_trans ca hdl) w hT
  have hbl : (behindDot d).length ≤ mostB := by
    rw [← hb1]
    unfold mostB at *
    split
    · omega
    · simp
  have c4 : ∀ w, Tabs w → Calls Tryz.prog 183 #[.string (toB (behindDot d)), .int .i64 6] w fun e w' => e = .returned (rdV (rdF 6 (behindDot d))) ∧ Below w.heap.size w w' :=
    fun w hT => readDigits_any (toB (behindDot d)) 6 (by omega) (by rw [toB_size]; exact hbl) w hT
  have hU0 := fun h => numU_none (d := d) h
  have hU1 := fun n p h1 h2 => numU_some (d := d) (n := n) (p := p) h1 h2
  have hsz := toB_size (behindDot d)
  have hlt := fun n (h : rdF 9 (d.takeWhile (· != 46)) = some n) => rd_lt h (by omega)
  generalize rdF 9 (d.takeWhile (· != 46)) = ra at *
  generalize rdF 6 (behindDot d) = rb at *
  obtain ⟨bd, hbd⟩ : ∃ bd, bd = behindDot d := ⟨_, rfl⟩
  rw [← hbd] at hb1 c4 hU1 hsz
  clear hbl ca hs' hs hdl cb hbd hb2
  have hlit : toB [48] = ⟨#[48]⟩ := rfl
  cases ra with
  | none =>
    have hR : R = none := by rw [hN, hU0 (.inl rfl)]; rfl
    subst hR
    unfold nmV
    simp only [rdV] at c3
    cases rb with
    | none =>
      simp only [rdV] at c4
      cases has with
      | true =>
        have hb1 : b = bd := hb1
        subst hb1
        clear hsz hU0 hU1 hN hlt
        go_enter Tryz.func158, Tryz.ntmps158
        go_wp2_with (first
          | (go_at_call 181; (with_reducible refine (c1 _).mono ?_); rintro e w1 ⟨rfl, rfl⟩)
          | (go_at_call 50; (with_reducible refine (c2 _ hT).mono ?_); rintro e w2 ⟨rfl, q, rfl⟩
             have hB2 := below_dr (Below.refl w.heap.size w) q
             have hT2 := hT.at_ hB2)
          | (go_at_call 183; (with_reducible refine (c3 _ hT2).mono ?_); rintro e w3 ⟨rfl, hb3⟩
             have hB3 := below_next hB2 hb3
             have hT3 := hT2.at_ hb3)
          | (go_at_call 183; (with_reducible refine (c4 _ hT3).mono ?_); rintro e w4 ⟨rfl, hb4⟩
             have hB4 := below_next hB3 hb4))
        go_ret2
        exact ⟨rfl, hB4⟩
      | false =>
        have hb1 : [48] = bd := hb1
        subst hb1
        rw [hlit] at c4
        clear hsz hU0 hU1 hN hlt
        go_enter Tryz.func158, Tryz.ntmps158
        go_wp2_with (first
          | (go_at_call 181; (with_reducible refine (c1 _).mono ?_); rintro e w1 ⟨rfl, rfl⟩)
          | (go_at_call 50; (with_reducible refine (c2 _ hT).mono ?_); rintro e w2 ⟨rfl, q, rfl⟩
             have hB2 := below_dr (Below.refl w.heap.size w) q
             have hT2 := hT.at_ hB2)
          | (go_at_call 183; (with_reducible refine (c3 _ hT2).mono ?_); rintro e w3 ⟨rfl, hb3⟩
             have hB3 := below_next hB2 hb3
             have hT3 := hT2.at_ hb3)
          | (go_at_call 183; (with_reducible refine (c4 _ hT3).mono ?_); rintro e w4 ⟨rfl, hb4⟩
             have hB4 := below_next hB3 hb4))
        go_ret2
        exact ⟨rfl, hB4⟩
    | some p =>
      simp only [rdV] at c4
      cases has with
      | true =>
        have hb1 : b = bd := hb1
        subst hb1
        clear hsz hU0 hU1 hN hlt
        go_enter Tryz.func158, Tryz.ntmps158
        go_wp2_with (first
          | (go_at_call 181; (with_reducible refine (c1 _).mono ?_); rintro e w1 ⟨rfl, rfl⟩)
          | (go_at_call 50; (with_reducible refine (c2 _ hT).mono ?_); rintro e w2 ⟨rfl, q, rfl⟩
             have hB2 := below_dr (Below.refl w.heap.size w) q
             have hT2 := hT.at_ hB2)
          | (go_at_call 183; (with_reducible refine (c3 _ hT2).mono ?_); rintro e w3 ⟨rfl, hb3⟩
             have hB3 := below_next hB2 hb3
             have hT3 := hT2.at_ hb3)
          | (go_at_call 183; (with_reducible refine (c4 _ hT3).mono ?_); rintro e w4 ⟨rfl, hb4⟩
             have hB4 := below_next hB3 hb4))
        go_ret2
        exact ⟨rfl, hB4⟩
      | false =>
        have hb1 : [48] = bd := hb1
        subst hb1
        rw [hlit] at c4
        clear hsz hU0 hU1 hN hlt
        go_enter Tryz.func158, Tryz.ntmps158
        go_wp2_with (first
          | (go_at_call 181; (with_reducible refine (c1 _).mono ?_); rintro e w1 ⟨rfl, rfl⟩)
          | (go_at_call 50; (with_reducible refine (c2 _ hT).mono ?_); rintro e w2 ⟨rfl, q, rfl⟩
             have hB2 := below_dr (Below.refl w.heap.size w) q
             have hT2 := hT.at_ hB2)
          | (go_at_call 183; (with_reducible refine (c3 _ hT2).mono ?_); rintro e w3 ⟨rfl, hb3⟩
             have hB3 := below_next hB2 hb3
             have hT3 := hT2.at_ hb3)
          | (go_at_call 183; (with_reducible refine (c4 _ hT3).mono ?_); rintro e w4 ⟨rfl, hb4⟩
             have hB4 := below_next hB3 hb4))
        go_ret2
        exact ⟨rfl, hB4⟩
  | some n =>
    simp only [rdV] at c3
    cases rb with
    | none =>
      have hR : R = none := by rw [hN, hU0 (.inr rfl)]; rfl
      subst hR
      unfold nmV
      simp only [rdV] at c4
      cases has with
      | true =>
        have hb1 : b = bd := hb1
        subst hb1
        clear hsz hU0 hU1 hN hlt
        go_enter Tryz.func158, Tryz.ntmps158
        go_wp2_with (first
          | (go_at_call 181; (with_reducible refine (c1 _).mono ?_); rintro e w1 ⟨rfl, rfl⟩)
          | (go_at_call 50; (with_reducible refine (c2 _ hT).mono ?_); rintro e w2 ⟨rfl, q, rfl⟩
             have hB2 := below_dr (Below.refl w.heap.size w) q
             have hT2 := hT.at_ hB2)
          | (go_at_call 183; (with_reducible refine (c3 _ hT2).mono ?_); rintro e w3 ⟨rfl, hb3⟩
             have hB3 := below_next hB2 hb3
             have hT3 := hT2.at_ hb3)
          | (go_at_call 183; (with_reducible refine (c4 _ hT3).mono ?_); rintro e w4 ⟨rfl, hb4⟩
             have hB4 := below_next hB3 hb4))
        go_ret2
        exact ⟨rfl, hB4⟩
      | false =>
        have hb1 : [48] = bd := hb1
        subst hb1
        rw [hlit] at c4
        clear hsz hU0 hU1 hN hlt
        go_enter Tryz.func158, Tryz.ntmps158
        go_wp2_with (first
          | (go_at_call 181; (with_reducible refine (c1 _).mono ?_); rintro e w1 ⟨rfl, rfl⟩)
          | (go_at_call 50; (with_reducible refine (c2 _ hT).mono ?_); rintro e w2 ⟨rfl, q, rfl⟩
             have hB2 := below_dr (Below.refl w.heap.size w) q
             have hT2 := hT.at_ hB2)
          | (go_at_call 183; (with_reducible refine (c3 _ hT2).mono ?_); rintro e w3 ⟨rfl, hb3⟩
             have hB3 := below_next hB2 hb3
             have hT3 := hT2.at_ hb3)
          | (go_at_call 183; (with_reducible refine (c4 _ hT3).mono ?_); rintro e w4 ⟨rfl, hb4⟩
             have hB4 := below_next hB3 hb4))
        go_ret2
        exact ⟨rfl, hB4⟩
    | some p =>
      simp only [rdV] at c4
      cases has with
      | true =>
        have hb1 : b = bd := hb1
        subst hb1
        obtain ⟨hu, hk6, hpk⟩ := hU1 n p rfl rfl
        have hn9 := hlt n rfl
        have hp6 : p < 1000000 := Nat.lt_of_lt_of_le hpk (Nat.le_trans (Nat.pow_le_pow_right (by omega) hk6) (by decide))
        have hfin := part_up p (b.length) hk6
        have hpj : ∀ j, j ≤ 6 - (b.length) → p * 10 ^ j < 1000000 := by
          intro j hj
          have h1 : p * 10 ^ j < 10 ^ (b.length) * 10 ^ j := Nat.mul_lt_mul_of_pos_right hpk (Nat.pow_pos (by omega))
          rw [← Nat.pow_add] at h1
          exact Nat.lt_of_lt_of_le h1 (Nat.le_trans (Nat.pow_le_pow_right (by omega) (by omega)) (by decide : (10 : Nat) ^ 6 ≤ 1000000))
        rw [hu] at hN
        simp only [Option.map_some] at hN
        have HN := Lib.hid hN
        clear hN hu hlt hU0 hU1
        obtain ⟨L, hL⟩ : ∃ L, L = b.length := ⟨_, rfl⟩
        rw [← hL] at hk6 hpk hfin hpj hsz HN
        have hlim : IntKind.i64.wrap (6 - (L : Int)) = ((6 - L : Nat) : Int) := by rw [IntKind.wrap_i64]; omega
        clear hL
        go_enter Tryz.func158, Tryz.ntmps158
        go_wp2_with (first
          | (go_at_call 181; (with_reducible refine (c1 _).mono ?_); rintro e w1 ⟨rfl, rfl⟩)
          | (go_at_call 50; (with_reducible refine (c2 _ hT).mono ?_); rintro e w2 ⟨rfl, q, rfl⟩
             have hB2 := below_dr (Below.refl w.heap.size w) q
             have hT2 := hT.at_ hB2)
          | (go_at_call 183; (with_reducible refine (c3 _ hT2).mono ?_); rintro e w3 ⟨rfl, hb3⟩
             have hB3 := below_next hB2 hb3
             have hT3 := hT2.at_ hb3)
          | (go_at_call 183; (with_reducible refine (c4 _ hT3).mono ?_); rintro e w4 ⟨rfl, hb4⟩
             have hB4 := below_next hB3 hb4))
        go_loop [45, 11] (fun i pv => ∃ j : Nat, j ≤ 6 - L ∧ i = .int .i64 j ∧ pv = .int .i64 ((p * 10 ^ j : Nat) : Int)) (fun i _ => 6 - L - (intOf i).toNat)
        case atStart => exact ⟨0, Nat.zero_le _, rfl, by simp⟩
        case round =>
          obtain ⟨j, hj, rfl, rfl⟩ := hrel
          have h6 := hpj j hj
          by_cases hlt : j < 6 - L
          · have h7 := hpj (j + 1) hlt
            have HT := Lib.hid (ten_pow p j)
            clear hfin hpj hpk
            generalize p * 10 ^ j = P at *
            have P0 : (0 : Int) ≤ (P : Int) := Int.natCast_nonneg _
            have P1 : (P : Int) < 1000000 := by omega
            have jl : (j : Int) < ((6 - L : Nat) : Int) := by omega
            go_wp2
            go_round
            case rel => exact ⟨j + 1, by omega, by go_num, by rw [HT.out]; congr 1⟩
            case measure => simp [intOf]; omega
          · obtain rfl : j = 6 - L := by omega
            have HF := Lib.hid hfin
            clear hfin hpj hpk
            generalize p * 10 ^ (6 - L) = P at *
            have P0 : (0 : Int) ≤ (P : Int) := Int.natCast_nonneg _
            have P1 : (P : Int) < 1000000 := by omega
            have n0 : (0 : Int) ≤ (n : Int) := Int.natCast_nonneg _
            have n1 : (n : Int) < 1000000000 := by omega
            have hd1 : (0 : Int) ≤ (P : Int) * 64 / 1000000 := by omega
            have hd2 : (P : Int) * 64 / 1000000 ≤ 64 := by omega
            have hval : ((64 * n + 64 * p / 10 ^ L : Nat) : Int) = (n : Int) * 64 + (P : Int) * 64 / 1000000 := by
              rw [← HF.out]
              omega
            have HV := Lib.hid hval
            clear hval h6 hp6
            cases neg
            all_goals
              go_wp2
              go_ret2
              rw [HN.out]
              simp only [Bool.false_eq_true, if_false, if_true, HV.out]
              exact ⟨rfl, hB4⟩
      | false =>
        have hb1 : [48] = bd := hb1
        subst hb1
        rw [hlit] at c4
        obtain ⟨hu, hk6, hpk⟩ := hU1 n p rfl rfl
        have hn9 := hlt n rfl
        have hp6 : p < 1000000 := Nat.lt_of_lt_of_le hpk (Nat.le_trans (Nat.pow_le_pow_right (by omega) hk6) (by decide))
        have hfin := part_up p (([48] : List UInt8).length) hk6
        have hpj : ∀ j, j ≤ 6 - (([48] : List UInt8).length) → p * 10 ^ j < 1000000 := by
          intro j hj
          have h1 : p * 10 ^ j < 10 ^ (([48] : List UInt8).length) * 10 ^ j := Nat.mul_lt_mul_of_pos_right hpk (Nat.pow_pos (by omega))
          rw [← Nat.pow_add] at h1
          exact Nat.lt_of_lt_of_le h1 (Nat.le_trans (Nat.pow_le_pow_right (by omega) (by omega)) (by decide : (10 : Nat) ^ 6 ≤ 1000000))
        rw [hu] at hN
        simp only [Option.map_some] at hN
        have HN := Lib.hid hN
        clear hN hu hlt hU0 hU1
        obtain ⟨L, hL⟩ : ∃ L, L = ([48] : List UInt8).length := ⟨_, rfl⟩
        have hL1 : L = 1 := hL
        have HN0 := HN
        clear HN
        have HN := Lib.hid (show R = _ from HN0.out)
        clear HN0
        rw [← hL] at hk6 hpk hfin hpj
        have hlim : IntKind.i64.wrap (6 - (L : Int)) = ((6 - L : Nat) : Int) := by rw [IntKind.wrap_i64]; omega
        clear hL
        subst hL1
        go_enter Tryz.func158, Tryz.ntmps158
        go_wp2_with (first
          | (go_at_call 181; (with_reducible refine (c1 _).mono ?_); rintro e w1 ⟨rfl, rfl⟩)
          | (go_at_call 50; (with_reducible refine (c2 _ hT).mono ?_); rintro e w2 ⟨rfl, q, rfl⟩
             have hB2 := below_dr (Below.refl w.heap.size w) q
             have hT2 := hT.at_ hB2)
          | (go_at_call 183; (with_reducible refine (c3 _ hT2).mono ?_); rintro e w3 ⟨rfl, hb3⟩
             have hB3 := below_next hB2 hb3
             have hT3 := hT2.at_ hb3)
          | (go_at_call 183; (with_reducible refine (c4 _ hT3).mono ?_); rintro e w4 ⟨rfl, hb4⟩
             have hB4 := below_next hB3 hb4))
        go_loop [45, 11] (fun i pv => ∃ j : Nat, j ≤ 6 - 1 ∧ i = .int .i64 j ∧ pv = .int .i64 ((p * 10 ^ j : Nat) : Int)) (fun i _ => 6 - 1 - (intOf i).toNat)
        case atStart => exact ⟨0, Nat.zero_le _, rfl, by simp⟩
        case round =>
          obtain ⟨j, hj, rfl, rfl⟩ := hrel
          have h6 := hpj j hj
          by_cases hlt : j < 6 - 1
          · have h7 := hpj (j + 1) hlt
            have HT := Lib.hid (ten_pow p j)
            clear hfin hpj hpk
            generalize p * 10 ^ j = P at *
            have P0 : (0 : Int) ≤ (P : Int) := Int.natCast_nonneg _
            have P1 : (P : Int) < 1000000 := by omega
            have jl : (j : Int) < 5 := by omega
            go_wp2
            go_round
            case rel => exact ⟨j + 1, by omega, by go_num, by rw [HT.out]; congr 1⟩
            case measure => simp [intOf]; omega
          · obtain rfl : j = 6 - 1 := by omega
            have HF := Lib.hid hfin
            clear hfin hpj hpk
            generalize p * 10 ^ (6 - 1) = P at *
            have P0 : (0 : Int) ≤ (P : Int) := Int.natCast_nonneg _
            have P1 : (P : Int) < 1000000 := by omega
            have n0 : (0 : Int) ≤ (n : Int) := Int.natCast_nonneg _
            have n1 : (n : Int) < 1000000000 := by omega
            have hd1 : (0 : Int) ≤ (P : Int) * 64 / 1000000 := by omega
            have hd2 : (P : Int) * 64 / 1000000 ≤ 64 := by omega
            have hval : ((64 * n + 64 * p / 10 ^ 1 : Nat) : Int) = (n : Int) * 64 + (P : Int) * 64 / 1000000 := by
              rw [← HF.out]
              omega
            have HV := Lib.hid hval
            clear hval h6 hp6
            cases neg
            all_goals
              go_wp2
              go_ret2
              rw [HN.out, show ([48] : List UInt8).length = 1 from rfl]
              simp only [Bool.false_eq_true, if_false, if_true, HV.out]
              exact ⟨rfl, hB4⟩
end Val
end Go.Proofs.YtdfcahdipalmkaaGreatDoor
namespace Go.Proofs.YtdfcahdipalmkaaGreatDoor
open Go.ChangeShapes Go.WideShapes Go.ChangeAt Go.RowKit Go.Maps
namespace Val
theorem cutEnd_is (e l : List UInt8) : cutEnd e l = if Lib.hasSuffix l e = true then some (Lib.trimSuffix l e) else none := by
  unfold cutEnd Lib.trimSuffix
  have h := Lib.hasSuffix_of_drop l e
  by_cases hs : Lib.hasSuffix l e = true
  · rw [hs, Bool.and_eq_true, decide_eq_true_eq, beq_iff_eq] at h
    rw [if_pos ⟨h.2, h.1⟩, if_pos hs, if_pos hs]
  · rw [if_neg hs, if_neg]
    rintro ⟨h1, h2⟩
    apply hs
    rw [← h, Bool.and_eq_true, decide_eq_true_eq, beq_iff_eq]
    exact ⟨h2, h1⟩
set_option maxHeartbeats 4000000 in
theorem readWith_any (e s : ByteArray) (hs : s.size ≤ mostB) (w : World) (hT : Tabs w) : Calls Tryz.prog 155 #[.string e, .string s] w fun r w' => r = .returned (nmV ((cutEnd e.data.toList s.data.toList).bind numL)) ∧ Below w.heap.size w w' := by
  have c1 := fun w => Tryz.strings_CutSuffix s e w (by unfold mostB at hs; omega)
  rw [cutEnd_is]
  have c2 := fun w hT => readNumber_any (toB (Lib.trimSuffix s.data.toList e.data.toList)) (by rw [toB_size]; have := Lib.trimSuffix_le s.data.toList e.data.toList; rw [← Lib.size_eq] at this; omega) w hT
  rw [toB_list] at c2
  have e1 : (⟨(Lib.trimSuffix s.data.toList e.data.toList).toArray⟩ : ByteArray) = toB (Lib.trimSuffix s.data.toList e.data.toList) := rfl
  rw [e1] at c1
  clear e1
  generalize Lib.trimSuffix s.data.toList e.data.toList = t at *
  generalize Lib.hasSuffix s.data.toList e.data.toList = b at *
  cases b with
  | false =>
    rw [if_neg (by decide)]
    simp only [Option.bind_none, nmV]
    go_enter Tryz.func155, Tryz.ntmps155
    go_wp2_with (go_at_call 61; (with_reducible refine (c1 _).mono ?_); rintro e w1 ⟨rfl, rfl⟩)
    go_ret2
    exact ⟨rfl, Below.refl _ _⟩
  | true =>
    rw [if_pos rfl]
    simp only [Option.bind_some]
    cases hn : numL t with
    | none =>
      rw [hn] at c2
      simp only [nmV] at c2 ⊢
      go_enter Tryz.func155, Tryz.ntmps155
      go_wp2_with (first
        | (go_at_call 61; (with_reducible refine (c1 _).mono ?_); rintro e w1 ⟨rfl, rfl⟩)
        | (go_at_call 158; (with_reducible refine (c2 _ hT).mono ?_); rintro e w2 ⟨rfl, hb⟩))
      go_ret2
      exact ⟨rfl, hb⟩
    | some n =>
      rw [hn] at c2
      simp only [nmV] at c2 ⊢
      go_enter Tryz.func155, Tryz.ntmps155
      go_wp2_with (first
        | (go_at_call 61; (with_reducible refine (c1 _).mono ?_); rintro e w1 ⟨rfl, rfl⟩)
        | (go_at_call 158; (with_reducible refine (c2 _ hT).mono ?_); rintro e w2 ⟨rfl, hb⟩))
      go_ret2
      exact ⟨rfl, hb⟩
/-! ### hexadecimal -/
theorem loB_fin : ∀ c : Fin 256, lowC (UInt8.ofFin c) = UInt8.ofFin c → dgv 16 (UInt8.ofFin c) = hexD (UInt8.ofFin c) := by decide +kernel
theorem hex_is {c : UInt8} (h : lowC c = c) : dgv 16 c = hexD c := loB_fin c.toFin h
theorem puV_hex : ∀ (l : List UInt8) (n : Nat), lowL l = l → puV 16 l n = hexV l n := by
  intro l
  induction l with
  | nil => intro n _; rfl
  | cons c l ih =>
    intro n h
    have h1 := List.cons.inj (show lowC c :: lowL l = c :: l from h)
    rw [puV, hexV, hex_is h1.1]
    cases hexD c with
    | none => rfl
    | some d => simp only; rw [ih _ h1.2, Nat.mul_comm n 16]
/-! ### colors -/
abbrev colD0 : DataW Nat := .map []
abbrev colD1 : DataW Nat := colD0.put (.string [98, 108, 97, 99, 107]) (.lit (.int .i64 0))
abbrev colD2 : DataW Nat := colD1.put (.string [119, 104, 105, 116, 101]) (.lit (.int .i64 16777215))
abbrev colD3 : DataW Nat := colD2.put (.string [114, 101, 100]) (.lit (.int .i64 16711680))
abbrev colD4 : DataW Nat := colD3.put (.string [103, 114, 101, 101, 110]) (.lit (.int .i64 32768))
abbrev colD5 : DataW Nat := colD4.put (.string [98, 108, 117, 101]) (.lit (.int .i64 255))
end Val
end Go.Proofs.YtdfcahdipalmkaaGreatDoor
/- What colors and readColor answer. Conditions: the text isn't too long, and has no capitals; the tables are laid. -/
namespace Go.Proofs.YtdfcahdipalmkaaGreatDoor
open Go.ChangeShapes Go.WideShapes Go.ChangeAt Go.RowKit Go.Maps
namespace Val
theorem lawS : Keyed Tryz.prog 9 := string_keyed Tryz.underlying9
theorem zeroL (w : World) : (zeroValue 2).run Tryz.prog w = .ok (.int .i64 0) w := by kernel_rfl
/-- An entry of a map's literal: as a store. -/
theorem wpList_insert_own {H : Type} {P : Program} (w : World) {ops : Array Oper} {rest : List Oper} {o : Oper} {a : Act} {Q : Exit → Act → World → Prop}
    (hg : o.guard = none) (m x v : Operand) (t : TypeId) (hop : o.op = Op.insert t m x v)
    (k e : TypeId) (K : Keyed P k) (ht : P.underlying t = some (.map k e)) (R : Value → Option (DataW H × List MemPlace)) (b n : Nat) (D : DataW H)
    (hm : a.eval m = .map (some b)) (hown : w.ownsMap P k R b n D) (hn : n < maxLen) (key val : Value) (kl : Lit) (hx : a.eval x = key) (hv : a.eval v = val) (hkey : keyOf P k key = some kl)
    (d : DataW H) (ps : List MemPlace) (hval : R val = some (d, ps))
    (hK : ∀ w', w'.ownsMap P k R b (n + 1) (D.put kl d) → w.grownBy w' (some b) → wpList P ops Q rest (a.put o.dst undef) w') :
    wpList P ops Q (o :: rest) a w := by
  refine wpList_plain hg fun K' hK' => ?_
  obtain ⟨w', hrun, r1, r2⟩ := hown.update K ht hn hkey hval
  unfold Oper.wp
  simp [execOp, hop, hm, hx, hv, hrun, Result.andThen]
  exact hK' _ _ (hK w' r1 r2)
theorem wfc {n : Int} (h0 : 0 ≤ n) (h1 : n ≤ 16777215) : (Lit.int .i64 n).wf = true := WalkArith.wf_i64 (by omega)
theorem key_of (l : List UInt8) (h : l.length ≤ 10) : keyOf Tryz.prog 9 (.string ⟨l.toArray⟩) = some (.string l) :=
  WideMaps.keyOf_string_mk Tryz.underlying9 (s := ⟨l.toArray⟩) (by show l.length ≤ maxLen; unfold maxLen; omega)
set_option maxRecDepth 100000 in
set_option maxHeartbeats 4000000 in
theorem colors_any (w : World) : Calls Tryz.prog 180 #[] w fun e w' => e = .returned (.map (some w.heap.size)) ∧ w'.ownsMap Tryz.prog 9 (plainElem Tryz.prog 2) w.heap.size 5 colD5 ∧ Below w.heap.size w w' := by
  have hmm := @run_makeMap Tryz.prog
  have h0 : (w.alloc (.map #[] 0)).ownsMap Tryz.prog 9 (plainElem Tryz.prog 2) w.heap.size 0 colD0 := World.ownsMap_made _ _ _ _
  have b0 : Below w.heap.size w (w.alloc (.map #[] 0)) := (Below.refl _ _).alloc (Nat.le_refl _) _
  go_enter Tryz.func180, Tryz.ntmps180
  go_wp2_with (first
    | (refine wpList_insert_own _ rfl _ _ _ 213 rfl 9 2 lawS Tryz.underlying213 _ w.heap.size 0 _ rfl h0 (by unfold maxLen; omega) _ _ _ rfl rfl (key_of [98, 108, 97, 99, 107] (by decide)) _ [] (plainElem_int Tryz.underlying2 (wfc (by omega) (by omega))) ?_; intro w1 h1 g1
       have b1 := b0.grown g1 b0.size (fun j hj => by cases hj; exact Nat.le_refl _))
    | (refine wpList_insert_own _ rfl _ _ _ 213 rfl 9 2 lawS Tryz.underlying213 _ w.heap.size 1 _ rfl h1 (by unfold maxLen; omega) _ _ _ rfl rfl (key_of [119, 104, 105, 116, 101] (by decide)) _ [] (plainElem_int Tryz.underlying2 (wfc (by omega) (by omega))) ?_; intro w2 h2 g2
       have b2 := b1.grown g2 b1.size (fun j hj => by cases hj; exact Nat.le_refl _))
    | (refine wpList_insert_own _ rfl _ _ _ 213 rfl 9 2 lawS Tryz.underlying213 _ w.heap.size 2 _ rfl h2 (by unfold maxLen; omega) _ _ _ rfl rfl (key_of [114, 101, 100] (by decide)) _ [] (plainElem_int Tryz.underlying2 (wfc (by omega) (by omega))) ?_; intro w3 h3 g3
       have b3 := b2.grown g3 b2.size (fun j hj => by cases hj; exact Nat.le_refl _))
    | (refine wpList_insert_own _ rfl _ _ _ 213 rfl 9 2 lawS Tryz.underlying213 _ w.heap.size 3 _ rfl h3 (by unfold maxLen; omega) _ _ _ rfl rfl (key_of [103, 114, 101, 101, 110] (by decide)) _ [] (plainElem_int Tryz.underlying2 (wfc (by omega) (by omega))) ?_; intro w4 h4 g4
       have b4 := b3.grown g4 b3.size (fun j hj => by cases hj; exact Nat.le_refl _))
    | (refine wpList_insert_own _ rfl _ _ _ 213 rfl 9 2 lawS Tryz.underlying213 _ w.heap.size 4 _ rfl h4 (by unfold maxLen; omega) _ _ _ rfl rfl (key_of [98, 108, 117, 101] (by decide)) _ [] (plainElem_int Tryz.underlying2 (wfc (by omega) (by omega))) ?_; intro w5 h5 g5
       have b5 := b4.grown g5 b4.size (fun j hj => by cases hj; exact Nat.le_refl _))
    | go_in)
  go_ret
  exact ⟨rfl, h5, b5⟩
theorem ne_key {a b : List UInt8} (h : ¬ a = b) : (Lit.string a) ≠ (Lit.string b) := fun e => h (by injection e)
/-- What is asked of colors' map. -/
theorem col_at (l : List UInt8) : has colD5 (.string l) = (colorsT.lookup l).isSome ∧ colD5.atKey (.string l) (.lit (.int .i64 0)) = .lit (.int .i64 (((colorsT.lookup l).getD 0 : Nat) : Int)) := by
  have m0 : IsMap colD0 := isMap_empty
  have m1 : IsMap colD1 := m0.put _ _
  have m2 : IsMap colD2 := m1.put _ _
  have m3 : IsMap colD3 := m2.put _ _
  have m4 : IsMap colD4 := m3.put _ _
  have hk : ∀ l, WideAt.IsKeyLit (.string l) := fun _ => trivial
  unfold colorsT
  by_cases e5 : l = [98, 108, 117, 101]
  · subst e5
    exact ⟨has_put_same m4 (hk _) _, atKey_put_same m4 (hk _) _ _⟩
  rw [has_put_other (ne_key e5), atKey_put_other (ne_key e5)]
  by_cases e4 : l = [103, 114, 101, 101, 110]
  · subst e4
    exact ⟨has_put_same m3 (hk _) _, atKey_put_same m3 (hk _) _ _⟩
  rw [has_put_other (ne_key e4), atKey_put_other (ne_key e4)]
  by_cases e3 : l = [114, 101, 100]
  · subst e3
    exact ⟨has_put_same m2 (hk _) _, atKey_put_same m2 (hk _) _ _⟩
  rw [has_put_other (ne_key e3), atKey_put_other (ne_key e3)]
  by_cases e2 : l = [119, 104, 105, 116, 101]
  · subst e2
    exact ⟨has_put_same m1 (hk _) _, atKey_put_same m1 (hk _) _ _⟩
  rw [has_put_other (ne_key e2), atKey_put_other (ne_key e2)]
  by_cases e1 : l = [98, 108, 97, 99, 107]
  · subst e1
    exact ⟨has_put_same m0 (hk _) _, atKey_put_same m0 (hk _) _ _⟩
  rw [has_put_other (ne_key e1), atKey_put_other (ne_key e1)]
  have q : ∀ a : List UInt8, ¬ l = a → (l == a) = false := fun a h => by rw [beq_eq_false_iff_ne]; exact h
  simp only [List.lookup, q _ e1, q _ e2, q _ e3, q _ e4, q _ e5]
  exact ⟨rfl, rfl⟩
end Val
end Go.Proofs.YtdfcahdipalmkaaGreatDoor
namespace Go.Proofs.YtdfcahdipalmkaaGreatDoor
open Go.ChangeShapes Go.WideShapes Go.ChangeAt Go.RowKit Go.Maps
namespace Val
def okV (r : Option Int) (e : Ending) : Prop := match r with
  | some n => e = .returned (.tuple #[.int .i64 n, .bool true])
  | none => ∃ n, e = .returned (.tuple #[.int .i64 n, .bool false])
theorem low_tail {l t : List UInt8} {c : UInt8} (h : lowL l = l) (e : l = c :: t) : lowL t = t := by
  subst e
  exact (List.cons.inj (show lowC c :: lowL t = c :: t from h)).2
theorem color_else {l : List UInt8} (hl : lowL l = l) (h : colorsT.lookup l = none) :
    colorL l = if Lib.hasPrefix l [35] = true ∧ (Lib.trimPrefix l [35]).length = 6 then puF 16 (Lib.trimPrefix l [35]) else none := by
  unfold colorL
  rw [h]
  simp only
  cases l with
  | nil => rw [if_neg (by rintro ⟨q, _⟩; revert q; decide)]
  | cons c t =>
    simp only
    have ht := low_tail hl rfl
    by_cases hc : c = 35
    · subst hc
      have hp : Lib.hasPrefix ((35 : UInt8) :: t) [35] = true := by simp [Lib.hasPrefix, List.isPrefixOf]
      have ht2 : Lib.trimPrefix ((35 : UInt8) :: t) [35] = t := by unfold Lib.trimPrefix; rw [if_pos hp]; rfl
      rw [ht2, hp]
      by_cases h6 : t.length = 6
      · rw [if_pos ⟨rfl, h6⟩, if_pos ⟨rfl, h6⟩]
        unfold puF
        rw [if_neg (by rintro rfl; cases h6), puV_hex _ _ ht]
      · rw [if_neg (fun q => h6 q.2), if_neg (fun q => h6 q.2)]
    · have hp : Lib.hasPrefix (c :: t) [35] = false := by
        simp only [Lib.hasPrefix, List.isPrefixOf, Bool.and_true]
        rw [beq_eq_false_iff_ne]
        exact fun e => hc e.symm
      rw [hp, if_neg (fun q => hc q.1), if_neg (fun q => by cases q.1)]
theorem hex_lt {t : List UInt8} {n : Nat} (h6 : t.length = 6) (h : puF 16 t = some n) : n < 16777216 := by
  unfold puF at h
  split at h
  · cases h
  · have := puV_lt (by omega) t 0 n 0 (by omega) (fun c d => dgv_16) h
    rw [h6] at this
    exact this
set_option maxRecDepth 100000 in
set_option maxHeartbeats 8000000 in
theorem readColor_any (s : ByteArray) (hs : s.size ≤ mostB) (hl : lowL s.data.toList = s.data.toList) (w : World) (hT : Tabs w) :
    Calls Tryz.prog 156 #[.string s] w fun e w' => okV (Option.map (fun n : Nat => (n : Int)) (colorL s.data.toList)) e ∧ Below w.heap.size w w' := by
  have c1 := fun w => colors_any w
  have hcol := col_at s.data.toList
  have hkey := WideMaps.keyOf_string_mk (P := Tryz.prog) Tryz.underlying9 (s := s) (by unfold mostB at hs; unfold maxLen; omega)
  have c2 := fun w => cutPre s 35 w
  cases hk : colorsT.lookup s.data.toList with
  | some n =>
    have e : colorL s.data.toList = some n := by unfold colorL; rw [hk]
    rw [e]
    rw [hk] at hcol
    obtain ⟨hc1, hc2⟩ := hcol
    simp only [Option.isSome_some, Option.getD_some] at hc1 hc2
    clear e hk hl
    simp only [Option.map_some, okV]
    go_enter Tryz.func156, Tryz.ntmps156
    go_wp2_with (first
      | (go_at_call 180; (with_reducible refine (c1 _).mono ?_); rintro e w1 ⟨rfl, hown, hb⟩)
      | (at_lookup; refine wpList_lookup_own_ok_int _ rfl _ _ 213 rfl 9 2 .i64 lawS Tryz.underlying213 Tryz.underlying2 (zeroL _) w.heap.size 5 colD5 rfl hown _ _ rfl hkey ?_
         intro c hat hwc
         obtain rfl : (n : Int) = c := by rw [hc2] at hat; injection hat with h; injection h
         rw [hc1]
         clear hat hwc)
      | go_in)
    go_ret2
    exact ⟨rfl, hb⟩
  | none =>
    rw [color_else hl hk]
    rw [hk] at hcol
    obtain ⟨hc1, _⟩ := hcol
    simp only [Option.isSome_none] at hc1
    have hsz := toB_size (Lib.trimPrefix s.data.toList [35])
    have c3 := fun h w hT => pub_16 (toB (Lib.trimPrefix s.data.toList [35])) h w hT
    have hlt := fun n h6 h => hex_lt (t := Lib.trimPrefix s.data.toList [35]) (n := n) h6 h
    rw [toB_list] at c3
    generalize puF 16 (Lib.trimPrefix s.data.toList [35]) = r at *
    generalize Lib.trimPrefix s.data.toList [35] = t at *
    generalize Lib.hasPrefix s.data.toList [35] = b at *
    obtain ⟨d, hd⟩ : ∃ d, d = toB t := ⟨_, rfl⟩
    rw [← hd] at c2 c3 hsz
    clear hd hk hl hs
    cases b with
    | false =>
      rw [if_neg (fun q => by cases q.1)]
      simp only [Option.map_none, okV]
      clear c3 hlt
      go_enter Tryz.func156, Tryz.ntmps156
      go_wp2_with (first
        | (go_at_call 180; (with_reducible refine (c1 _).mono ?_); rintro e w1 ⟨rfl, hown, hb⟩)
        | (go_at_call 181; (with_reducible refine (c2 _).mono ?_); rintro e w2 ⟨rfl, rfl⟩)
        | (at_lookup; refine wpList_lookup_own_ok_int _ rfl _ _ 213 rfl 9 2 .i64 lawS Tryz.underlying213 Tryz.underlying2 (zeroL _) w.heap.size 5 colD5 rfl hown _ _ rfl hkey ?_
           intro c hat hwc
           rw [hc1]
           clear hat hwc)
        | go_in)
      go_ret2
      exact ⟨⟨_, rfl⟩, hb⟩
    | true =>
      by_cases h6 : t.length = 6
      · rw [if_pos ⟨rfl, h6⟩]
        have hd6 : d.size = 6 := by omega
        have c3 := fun w hT => c3 (by omega) w hT
        cases r with
        | some n =>
          have hn := hlt n h6 rfl
          simp only [pubP] at c3
          simp only [Option.map_some, okV]
          have hn0 : (0 : Int) ≤ (n : Int) := Int.natCast_nonneg _
          have hn1 : (n : Int) < 16777216 := by omega
          clear hlt hn hsz h6
          go_enter Tryz.func156, Tryz.ntmps156
          go_wp2_with (first
            | (go_at_call 180; (with_reducible refine (c1 _).mono ?_); rintro e w1 ⟨rfl, hown, hb⟩
               have hT1 := hT.at_ hb)
            | (go_at_call 181; (with_reducible refine (c2 _).mono ?_); rintro e w2 ⟨rfl, rfl⟩)
            | (go_at_call 182; (with_reducible refine (c3 _ hT1).mono ?_); rintro e w3 ⟨rfl, hb3⟩
               have hB3 := below_next hb hb3)
            | (at_lookup; refine wpList_lookup_own_ok_int _ rfl _ _ 213 rfl 9 2 .i64 lawS Tryz.underlying213 Tryz.underlying2 (zeroL _) w.heap.size 5 colD5 rfl hown _ _ rfl hkey ?_
               intro c hat hwc
               rw [hc1]
               clear hat hwc)
            | go_in)
          go_quiet (fail)
          go_wp2
          go_ret2
          exact ⟨rfl, below_dr hB3 _⟩
        | none =>
          simp only [pubP] at c3
          simp only [Option.map_none, okV]
          clear hlt hsz h6
          go_enter Tryz.func156, Tryz.ntmps156
          go_wp2_with (first
            | (go_at_call 180; (with_reducible refine (c1 _).mono ?_); rintro e w1 ⟨rfl, hown, hb⟩
               have hT1 := hT.at_ hb)
            | (go_at_call 181; (with_reducible refine (c2 _).mono ?_); rintro e w2 ⟨rfl, rfl⟩)
            | (go_at_call 182; (with_reducible refine (c3 _ hT1).mono ?_); rintro e w3 ⟨⟨tp, p, rfl⟩, hb3⟩
               have hB3 := below_next hb hb3)
            | (at_lookup; refine wpList_lookup_own_ok_int _ rfl _ _ 213 rfl 9 2 .i64 lawS Tryz.underlying213 Tryz.underlying2 (zeroL _) w.heap.size 5 colD5 rfl hown _ _ rfl hkey ?_
               intro c hat hwc
               rw [hc1]
               clear hat hwc)
            | go_in)
          go_quiet (fail)
          go_wp2
          go_ret2
          exact ⟨⟨_, rfl⟩, below_dr hB3 _⟩
      · rw [if_neg (fun q => h6 q.2)]
        simp only [Option.map_none, okV]
        have hd6 : ¬ d.size = 6 := by omega
        clear c3 hlt hsz h6
        go_enter Tryz.func156, Tryz.ntmps156
        go_wp2_with (first
          | (go_at_call 180; (with_reducible refine (c1 _).mono ?_); rintro e w1 ⟨rfl, hown, hb⟩)
          | (go_at_call 181; (with_reducible refine (c2 _).mono ?_); rintro e w2 ⟨rfl, rfl⟩)
          | (at_lookup; refine wpList_lookup_own_ok_int _ rfl _ _ 213 rfl 9 2 .i64 lawS Tryz.underlying213 Tryz.underlying2 (zeroL _) w.heap.size 5 colD5 rfl hown _ _ rfl hkey ?_
             intro c hat hwc
             rw [hc1]
             clear hat hwc)
          | go_in)
        go_ret2
        exact ⟨⟨_, rfl⟩, hb⟩
end Val
end Go.Proofs.YtdfcahdipalmkaaGreatDoor
