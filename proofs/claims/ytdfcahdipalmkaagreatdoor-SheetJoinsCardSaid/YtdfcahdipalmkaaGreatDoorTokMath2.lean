/- The plain mathematics of what is signed, and of what is read of it. Conditions: none. -/
import Derived.Test.YtdfcahdipalmkaaGreatDoorTokMath
namespace Go.Proofs.YtdfcahdipalmkaaGreatDoor
namespace Tok
open Rep (tellL sgn tellL_no tellL_yes sgn_not tellL_nil)
/-- What is put for a byte. -/
def sgC (q : Bool) (c : UInt8) : List UInt8 :=
  if c = 38 then [38, 97, 109, 112, 59] else if c = 60 then [38, 108, 116, 59] else if c = 62 then [38, 103, 116, 59] else if c = 34 ∧ q = true then [38, 113, 117, 111, 116, 59] else [c]
def signL (q : Bool) : List UInt8 → List UInt8
  | [] => []
  | c :: t => sgC q c ++ signL q t
theorem signL_app (q : Bool) (a b : List UInt8) : signL q (a ++ b) = signL q a ++ signL q b := by
  induction a with
  | nil => rfl
  | cons c t ih => show sgC q c ++ signL q (t ++ b) = (sgC q c ++ signL q t) ++ signL q b; rw [ih, List.append_assoc]
theorem sgC_not (q : Bool) (c d : UInt8) (hd : d = 60 ∨ d = 62 ∨ (d = 34 ∧ q = true)) : d ∉ sgC q c := by
  unfold sgC
  intro h
  split at h
  · rcases hd with rfl | rfl | ⟨rfl, -⟩ <;> revert h <;> decide
  · split at h
    · rcases hd with rfl | rfl | ⟨rfl, -⟩ <;> revert h <;> decide
    · split at h
      · rcases hd with rfl | rfl | ⟨rfl, -⟩ <;> revert h <;> decide
      · split at h
        · rcases hd with rfl | rfl | ⟨rfl, -⟩ <;> revert h <;> decide
        · rename_i h1 h2 h3 h4
          rw [List.mem_singleton] at h
          subst h
          rcases hd with h | h | h
          · exact h2 h
          · exact h3 h
          · exact h4 h
theorem signL_not (q : Bool) (l : List UInt8) (d : UInt8) (hd : d = 60 ∨ d = 62 ∨ (d = 34 ∧ q = true)) : d ∉ signL q l := by
  induction l with
  | nil => intro h; cases h
  | cons c t ih =>
    intro h
    rcases List.mem_append.1 (show d ∈ sgC q c ++ signL q t from h) with h | h
    · exact sgC_not q c d hd h
    · exact ih h
theorem sgC_len (q : Bool) (c : UInt8) : 1 ≤ (sgC q c).length ∧ (sgC q c).length ≤ 6 := by
  unfold sgC
  split
  · decide
  · split
    · decide
    · split
      · decide
      · split <;> simp
theorem signL_len (q : Bool) (l : List UInt8) : l.length ≤ (signL q l).length ∧ (signL q l).length ≤ 6 * l.length := by
  induction l with
  | nil => exact ⟨Nat.le_refl _, Nat.le_refl _⟩
  | cons c t ih =>
    have := sgC_len q c
    rw [show signL q (c :: t) = sgC q c ++ signL q t from rfl, List.length_append, List.length_cons]
    omega
theorem tell_sgC (q : Bool) (c : UInt8) (r : List UInt8) : tellL (sgC q c ++ r) = c :: tellL r := by
  unfold sgC
  split
  · rename_i h; subst h
    exact tellL_yes (c := 38) (t := 97 :: 109 :: 112 :: 59 :: r) (x := (38, 5)) (by simp [sgn, List.isPrefixOf])
  · split
    · rename_i h; subst h
      exact tellL_yes (c := 38) (t := 108 :: 116 :: 59 :: r) (x := (60, 4)) (by simp [sgn, List.isPrefixOf])
    · split
      · rename_i h; subst h
        exact tellL_yes (c := 38) (t := 103 :: 116 :: 59 :: r) (x := (62, 4)) (by simp [sgn, List.isPrefixOf])
      · split
        · rename_i h; obtain ⟨rfl, -⟩ := h
          exact tellL_yes (c := 38) (t := 113 :: 117 :: 111 :: 116 :: 59 :: r) (x := (34, 6)) (by simp [sgn, List.isPrefixOf])
        · rename_i h1 _ _ _
          exact tellL_no (sgn_not r h1)
/-- What is signed tells what it was. -/
theorem tell_sign (q : Bool) (l : List UInt8) : tellL (signL q l) = l := by
  induction l with
  | nil => rfl
  | cons c t ih => rw [show signL q (c :: t) = sgC q c ++ signL q t from rfl, tell_sgC, ih]
theorem tell_ne {l : List UInt8} (h : l ≠ []) : tellL l ≠ [] := by
  cases l with
  | nil => exact absurd rfl h
  | cons c t =>
    cases hs : sgn (c :: t) with
    | none => rw [tellL_no hs]; exact List.cons_ne_nil _ _
    | some x => rw [tellL_yes hs]; exact List.cons_ne_nil _ _
theorem firstP_no {c : UInt8} (t : List UInt8) (h : c ≠ 60) : firstP (c :: t) = none := by
  have h1 : openP (c :: t) = none := by
    unfold openP
    split
    · rename_i e; injection e with e; exact absurd e h
    · rfl
  have h2 : shutP (c :: t) = none := by
    unfold shutP
    split
    · rename_i e; injection e with e; exact absurd e h
    · rfl
  unfold firstP
  rw [h1, h2]
theorem readF_text (l : List UInt8) : ∀ u : List UInt8, 60 ∉ l → readF u l = txtP (u ++ l) := by
  induction l with
  | nil => intro u _; rw [List.append_nil]; rfl
  | cons c t ih =>
    intro u h
    rw [readF_miss (firstP_no t (fun e => h (by rw [e]; exact List.mem_cons_self))), ih (u ++ [c]) (fun e => h (List.mem_cons_of_mem _ e))]
    simp
theorem readF_texts (l r : List UInt8) : ∀ u : List UInt8, 60 ∉ l → readF u (l ++ r) = readF (u ++ l) r := by
  induction l with
  | nil => intro u _; rw [List.append_nil]; rfl
  | cons c t ih =>
    intro u h
    rw [List.cons_append, readF_miss (firstP_no _ (fun e => h (by rw [e]; exact List.mem_cons_self))), ih (u ++ [c]) (fun e => h (List.mem_cons_of_mem _ e))]
    simp
/-- What is signed is one text, or none. -/
theorem read_sign (q : Bool) (l : List UInt8) : readP (signL q l) = if l = [] then [] else [⟨3, [], l, []⟩] := by
  unfold readP
  rw [readF_text _ _ (signL_not q l 60 (.inl rfl)), List.nil_append]
  unfold txtP
  cases l with
  | nil => rfl
  | cons c t =>
    have h := (signL_len q (c :: t)).1
    rw [if_neg (by intro e; rw [e] at h; simp at h), if_neg (List.cons_ne_nil _ _), tell_sign]
/-! ### names -/
theorem isL_low (c : UInt8) : isL (lowC c) = isL c := by
  have : ∀ c : Fin 256, isL (lowC (UInt8.ofNat c.val)) = isL (UInt8.ofNat c.val) := by decide +kernel
  have h := this ⟨c.toNat, c.toNat_lt⟩
  simpa using h
theorem isN_low (c : UInt8) : isN c = true → isN (lowC c) = true := by
  have : ∀ c : Fin 256, isN (UInt8.ofNat c.val) = true → isN (lowC (UInt8.ofNat c.val)) = true := by decide +kernel
  have h := this ⟨c.toNat, c.toNat_lt⟩
  simpa using h
theorem inNm_low (k : Nat) (c : UInt8) (h : inNm k c = true) : inNm k (lowC c) = true := by
  unfold inNm at *
  rw [isL_low]
  simp only [Bool.or_eq_true, Bool.and_eq_true] at *
  rcases h with h | ⟨h1, h2⟩
  · exact .inl h
  · exact .inr ⟨h1, isN_low c h2⟩
/-- A text all of whose bytes look like a name is one ats long. -/
theorem nm_all (l : List UInt8) (h : ∀ (j : Nat) (hj : j < l.length), inNm j l[j] = true) : nm l = l.length :=
  (nm_uniq l l.length (Nat.le_refl _) h (fun h => absurd h (Nat.lt_irrefl _))).symm
theorem nm_take (l : List UInt8) : nm (lowL (l.take (nm l))) = nm l := by
  have hl : (lowL (l.take (nm l))).length = nm l := by rw [low_len, List.length_take]; have := nm_le l; omega
  have := nm_all (lowL (l.take (nm l))) (fun j hj => by
    rw [hl] at hj
    have h := inNm_low j _ (nm_at l j hj)
    have e : (lowL (l.take (nm l)))[j]'(by rw [hl]; exact hj) = lowC (l[j]'(by have := nm_le l; omega)) := by
      unfold lowL
      rw [List.getElem_map, List.getElem_take]
    rw [e]
    exact h)
  rw [this, hl]
/-- Is a text a name, and told? -/
def nameB (l : List UInt8) : Bool := nameP l = some (l, [])
theorem nameP_name {l n r : List UInt8} (h : nameP l = some (n, r)) : nameB n = true := by
  unfold nameP at h
  split at h
  · cases h
  · rename_i hc
    injection h with h
    injection h with h1 h2
    have hn := nm_take l
    rw [h1] at hn
    have hl : n.length = nm l := by rw [← h1, low_len, List.length_take]; have := nm_le l; omega
    unfold nameB
    rw [decide_eq_true_iff]
    unfold nameP
    rw [hn, if_neg hc, List.take_of_length_le (by omega), List.drop_of_length_le (by omega)]
    rw [← h1, low_low]
theorem nameB_def (l : List UInt8) : nameB l = true ↔ (0 < nm l ∧ nm l ≤ 20 ∧ nm l = l.length ∧ lowL l = l) := by
  unfold nameB
  rw [decide_eq_true_iff]
  unfold nameP
  have hle := nm_le l
  constructor
  · intro h
    split at h
    · cases h
    · rename_i hc
      injection h with h
      injection h with h1 h2
      have h3 : nm l = l.length := by
        have := congrArg List.length h2
        rw [List.length_drop] at this
        simp at this
        omega
      refine ⟨by omega, by omega, h3, ?_⟩
      rw [List.take_of_length_le (by omega)] at h1
      exact h1
  · rintro ⟨h1, h2, h3, h4⟩
    rw [if_neg (by omega), List.take_of_length_le (by omega), List.drop_of_length_le (by omega), h4]
end Tok
end Go.Proofs.YtdfcahdipalmkaaGreatDoor
