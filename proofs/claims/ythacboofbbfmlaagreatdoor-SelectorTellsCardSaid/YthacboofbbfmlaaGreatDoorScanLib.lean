/- Stripped and trimmed, by what Go's own Cut and Trim tell. Conditions: none. -/
import Derived.Test.YthacboofbbfmlaaGreatDoorScanMath
import Derived.Test.YthacboofbbfmlaaGreatDoorRx7Trim
import Derived.Lib.IndexMore
import Derived.Lib.SlTrimSet
namespace Go.Proofs.YthacboofbbfmlaaGreatDoor
theorem cut_nil (sep : List UInt8) (h : sep ≠ []) : Lib.cut [] sep = ([], [], false) := by
  unfold Lib.cut Lib.index
  cases sep with
  | nil => exact absurd rfl h
  | cons a t => rfl
theorem cut_cons (b : UInt8) (l sep : List UInt8) : Lib.cut (b :: l) sep = if sep.isPrefixOf (b :: l) then ([], (b :: l).drop sep.length, true) else if (Lib.cut l sep).2.2 then (b :: (Lib.cut l sep).1, (Lib.cut l sep).2.1, true) else (b :: l, [], false) := by
  have hge := Lib.index_ge l sep
  by_cases hp : sep.isPrefixOf (b :: l) = true
  · have e : Lib.index (b :: l) sep = 0 := by rw [Lib.index, if_pos hp]
    rw [if_pos hp]
    unfold Lib.cut
    rw [e, if_pos (Int.le_refl 0)]
    simp
  · rw [if_neg hp]
    by_cases hi : Lib.index l sep = -1
    · have e : Lib.index (b :: l) sep = -1 := by rw [Lib.index, if_neg hp, if_pos (by rw [hi]; rfl)]
      unfold Lib.cut
      rw [e, hi]
      rfl
    · have h0 : 0 ≤ Lib.index l sep := by omega
      have e : Lib.index (b :: l) sep = Lib.index l sep + 1 := by rw [Lib.index, if_neg hp, if_neg (by simpa using hi)]
      unfold Lib.cut
      rw [e, if_pos (by omega : (0 : Int) ≤ Lib.index l sep + 1), if_pos h0]
      have e2 : (Lib.index l sep + 1).toNat = (Lib.index l sep).toNat + 1 := by omega
      rw [if_pos rfl, e2, List.take_succ_cons, show (Lib.index l sep).toNat + 1 + sep.length = ((Lib.index l sep).toNat + sep.length) + 1 by omega, List.drop_succ_cons]
theorem pre_two (a b c d : UInt8) (t : List UInt8) : [a, b].isPrefixOf (c :: d :: t) = decide (a = c ∧ b = d) := by
  simp [List.isPrefixOf]
  by_cases h1 : a = c <;> by_cases h2 : b = d <;> simp [h1, h2]
theorem pre_short (a b c : UInt8) : [a, b].isPrefixOf [c] = false := by simp [List.isPrefixOf]
theorem behind_cut : ∀ l : List UInt8, behind l = (Lib.cut l [42, 47]).2.1
  | [] => by rw [cut_nil _ (by simp)]; rfl
  | [a] => by rw [cut_cons, pre_short, cut_nil _ (by simp)]; rfl
  | a :: b :: t => by
    rw [cut_cons, pre_two, behind]
    by_cases h : a = 42 ∧ b = 47
    · obtain ⟨rfl, rfl⟩ := h
      simp
    · rw [if_neg h, behind_cut (b :: t)]
      have : ¬ (decide (42 = a ∧ 47 = b) = true) := by
        intro e
        have := of_decide_eq_true e
        exact h ⟨this.1.symm, this.2.symm⟩
      rw [if_neg this]
      cases hf : (Lib.cut (b :: t) [42, 47]).2.2 with
      | true => rfl
      | false =>
        have : (Lib.cut (b :: t) [42, 47]).2.1 = [] := by
          unfold Lib.cut at hf ⊢
          split at hf
          · cases hf
          · rename_i h0; rw [if_neg h0]
        rw [this]; rfl
theorem strip_cut (n : Nat) : ∀ l : List UInt8, l.length ≤ n → stripL l = if (Lib.cut l [47, 42]).2.2 then (Lib.cut l [47, 42]).1 ++ 32 :: stripL (Lib.cut (Lib.cut l [47, 42]).2.1 [42, 47]).2.1 else l := by
  induction n with
  | zero =>
    intro l h
    obtain rfl : l = [] := List.eq_nil_of_length_eq_zero (by omega)
    rw [cut_nil _ (by simp), stripL_nil]; rfl
  | succ n ih =>
    intro l h
    match l with
    | [] => rw [cut_nil _ (by simp), stripL_nil]; rfl
    | [a] => rw [cut_cons, pre_short, cut_nil _ (by simp), stripL_one]; rfl
    | a :: b :: t =>
      rw [cut_cons, pre_two]
      by_cases hc : a = 47 ∧ b = 42
      · obtain ⟨rfl, rfl⟩ := hc
        rw [stripL_remark, behind_cut]
        simp
      · have : ¬ (decide (47 = a ∧ 42 = b) = true) := by
          intro e
          have := of_decide_eq_true e
          exact hc ⟨this.1.symm, this.2.symm⟩
        rw [if_neg this, stripL_other t hc, ih (b :: t) (by simp only [List.length_cons] at h ⊢; omega)]
        cases hf : (Lib.cut (b :: t) [47, 42]).2.2 with
        | true => simp
        | false => simp
theorem cut_len (l sep : List UInt8) : (Lib.cut l sep).1.length ≤ l.length ∧ (Lib.cut l sep).2.1.length ≤ l.length := by
  unfold Lib.cut
  split
  · simp only [List.length_take, List.length_drop]; omega
  · simp
theorem cut_miss (l sep : List UInt8) (h : (Lib.cut l sep).2.2 = false) : (Lib.cut l sep).1 = l := by
  unfold Lib.cut at h ⊢
  split
  · rename_i h0; rw [if_pos h0] at h; cases h
  · rfl
theorem cut_both (l sep : List UInt8) (hs : sep ≠ []) (h : (Lib.cut l sep).2.2 = true) : (Lib.cut l sep).1.length + sep.length + (Lib.cut l sep).2.1.length = l.length := by
  induction l with
  | nil => rw [cut_nil _ hs] at h; cases h
  | cons b l ih =>
    rw [cut_cons] at h ⊢
    by_cases hp : sep.isPrefixOf (b :: l) = true
    · rw [if_pos hp] at h ⊢
      have := List.IsPrefix.length_le (List.isPrefixOf_iff_prefix.1 hp)
      simp only [List.length_nil, List.length_drop]
      omega
    · rw [if_neg hp] at h ⊢
      by_cases hf : (Lib.cut l sep).2.2 = true
      · rw [if_pos hf]
        have := ih hf
        simp only [List.length_cons]; omega
      · rw [if_neg hf] at h; cases h
/-! ### trimmed -/
def rdrop (p : UInt8 → Bool) (l : List UInt8) : List UInt8 := (l.reverse.dropWhile p).reverse
theorem rdrop_cons (p : UInt8 → Bool) (a : UInt8) (t : List UInt8) : rdrop p (a :: t) = if rdrop p t = [] ∧ p a = true then [] else a :: rdrop p t := by
  unfold rdrop
  rw [List.reverse_cons, List.dropWhile_append]
  cases hd : t.reverse.dropWhile p with
  | nil =>
    rw [if_pos (by rfl)]
    cases hp : p a <;> simp [List.dropWhile, hp]
  | cons c u => simp
theorem drop_rdrop (p : UInt8 → Bool) (l : List UInt8) : (rdrop p l).dropWhile p = rdrop p (l.dropWhile p) := by
  induction l with
  | nil => rfl
  | cons a t ih =>
    rw [rdrop_cons]
    cases hp : p a with
    | true =>
      rw [List.dropWhile_cons, if_pos hp]
      by_cases h0 : rdrop p t = []
      · rw [if_pos ⟨h0, rfl⟩, ← ih, h0]
      · rw [if_neg (fun h => h0 h.1), List.dropWhile_cons, if_pos hp, ih]
    | false =>
      rw [if_neg (fun h => by cases h.2), List.dropWhile_cons, if_neg (by rw [hp]; simp), List.dropWhile_cons, if_neg (by rw [hp]; simp), rdrop_cons, if_neg (fun h => by rw [hp] at h; cases h.2)]
theorem blank_set : (fun c => ([32, 9, 10, 13] : List UInt8).contains c) = isBlank := by
  funext c
  have : ∀ c : Fin 256, ([32, 9, 10, 13] : List UInt8).contains (UInt8.ofFin c) = isBlank (UInt8.ofFin c) := by decide +kernel
  exact this c.toFin
theorem trim_set (l : List UInt8) : Lib.trimS l [32, 9, 10, 13] = trimL l := by
  unfold Lib.trimS Lib.trimLeftS Lib.trimRightS
  rw [blank_set]
  exact drop_rdrop isBlank l
end Go.Proofs.YthacboofbbfmlaaGreatDoor
