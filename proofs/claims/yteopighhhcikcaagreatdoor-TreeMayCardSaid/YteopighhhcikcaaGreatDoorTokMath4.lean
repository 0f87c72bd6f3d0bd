/- The plain mathematics of tokens: how many there are at the most. Conditions: none. -/
import Derived.Test.YteopighhhcikcaaGreatDoorTokMath3
namespace Go.Proofs.YteopighhhcikcaaGreatDoor
namespace Tok
theorem addA_len (ats : List At) (a : At) : (addA ats a).length ≤ ats.length + 1 := by
  unfold addA
  split
  · omega
  · simp
theorem attrsP_cnt (n : Nat) : ∀ (ats : List At) (l : List UInt8), l.length ≤ n → (attrsP ats l).1.length + (attrsP ats l).2.length ≤ ats.length + l.length := by
  induction n with
  | zero =>
    intro ats l h
    cases ha : attrP l with
    | none => rw [attrsP_none ha]; exact Nat.le_refl _
    | some x => obtain ⟨a, r⟩ := x; have := attrP_len ha; omega
  | succ n ih =>
    intro ats l h
    cases ha : attrP l with
    | none => rw [attrsP_none ha]; exact Nat.le_refl _
    | some x =>
      obtain ⟨a, r⟩ := x
      have h1 := attrP_len ha
      rw [attrsP_some ha]
      have := ih (addA ats a) r (by omega)
      have := addA_len ats a
      omega
theorem firstP_cnt {l b : List UInt8} {t : T} (h : firstP l = some (t, b)) : t.attrs.length ≤ l.length := by
  unfold firstP at h
  split at h
  · rename_i x hx
    injection h with h
    subst h
    unfold openP at hx
    split at hx
    · split at hx
      · cases hx
      · rename_i n r hn
        split at hx
        · cases hx
        · injection hx with hx
          injection hx with h1 h2
          subst h1
          have h3 := (nameP_len hn).1
          have h5 := attrsP_cnt r.length [] r (Nat.le_refl _)
          simp only [List.length_cons, List.length_nil] at *
          omega
    · cases hx
  · unfold shutP at h
    split at h
    · split at h
      · cases h
      · split at h
        · cases h
        · injection h with h
          injection h with h1 h2
          subst h1
          exact Nat.zero_le _
    · cases h
theorem txtP_cnt (u : List UInt8) : (txtP u).length ≤ 1 ∧ ∀ t ∈ txtP u, t.attrs.length = 0 := by
  unfold txtP
  split
  · exact ⟨Nat.zero_le _, fun t h => by cases h⟩
  · exact ⟨Nat.le_refl _, fun t h => by rw [List.mem_singleton] at h; subst h; rfl⟩
theorem readF_cnt (n : Nat) : ∀ (u l : List UInt8), l.length ≤ n → (readF u l).length ≤ 2 * l.length + 1 ∧ ∀ t ∈ readF u l, t.attrs.length ≤ l.length := by
  induction n with
  | zero =>
    intro u l h
    obtain rfl : l = [] := List.eq_nil_of_length_eq_zero (by omega)
    have := txtP_cnt u
    exact ⟨this.1, fun t ht => Nat.le_of_eq (this.2 t ht)⟩
  | succ n ih =>
    intro u l h
    have hu := txtP_cnt u
    cases hf : firstP l with
    | none =>
      cases l with
      | nil => exact ⟨by have := hu.1; rw [readF_nil]; omega, fun t ht => Nat.le_of_eq (hu.2 t ht)⟩
      | cons c t =>
        rw [readF_miss hf]
        rw [List.length_cons] at h ⊢
        have := ih (u ++ [c]) t (by omega)
        exact ⟨by omega, fun x hx => by have := this.2 x hx; omega⟩
    | some x =>
      obtain ⟨x, b⟩ := x
      have h1 := firstP_len hf
      have h2 := firstP_cnt hf
      have := ih [] b (by omega)
      rw [readF_hit hf]
      refine ⟨by rw [List.length_append, List.length_cons]; omega, fun t ht => ?_⟩
      rcases List.mem_append.1 ht with ht | ht
      · have := hu.2 t ht; omega
      · rcases List.mem_cons.1 ht with rfl | ht
        · exact h2
        · have := this.2 t ht; omega
theorem readP_cnt (l : List UInt8) : (readP l).length ≤ 2 * l.length + 1 ∧ ∀ t ∈ readP l, t.attrs.length ≤ l.length := readF_cnt l.length [] l (Nat.le_refl _)
end Tok
end Go.Proofs.YteopighhhcikcaaGreatDoor
