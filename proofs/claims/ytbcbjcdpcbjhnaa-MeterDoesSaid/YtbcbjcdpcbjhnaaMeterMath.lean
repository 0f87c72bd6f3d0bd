/- The plain mathematics of a meter: what a take answers and leaves. Conditions: none. -/
import Derived.WalkKit
namespace Go.Proofs.Ytbcbjcdpcbjhnaa
/-- A meter may be: so much taken of a limit, over or not. -/
def mtr (lim t : Int) (o : Bool) : Prop := 0 ≤ t ∧ t ≤ lim ∧ lim ≤ 1099511627776 ∧ (o = true → t = lim)
def takeB (lim t : Int) (o : Bool) (n : Int) : Bool := !o && (decide (0 ≤ n) && decide (n ≤ lim - t))
def takeT (lim t : Int) (o : Bool) (n : Int) : Int := if o = true ∨ n < 0 then t else if lim - t < n then lim else t + n
def takeO (lim t : Int) (o : Bool) (n : Int) : Bool := o || (decide (0 ≤ n) && decide (lim - t < n))
/-- The four ways of a take. -/
theorem take_ways (lim t : Int) (o : Bool) (n : Int) :
    (o = true ∧ takeB lim t o n = false ∧ takeT lim t o n = t ∧ takeO lim t o n = true) ∨
    (o = false ∧ n < 0 ∧ takeB lim t o n = false ∧ takeT lim t o n = t ∧ takeO lim t o n = false) ∨
    (o = false ∧ 0 ≤ n ∧ lim - t < n ∧ takeB lim t o n = false ∧ takeT lim t o n = lim ∧ takeO lim t o n = true) ∨
    (o = false ∧ 0 ≤ n ∧ n ≤ lim - t ∧ takeB lim t o n = true ∧ takeT lim t o n = t + n ∧ takeO lim t o n = false) := by
  unfold takeB takeT takeO
  cases o with
  | true => exact Or.inl ⟨rfl, rfl, by rw [if_pos (Or.inl rfl)], rfl⟩
  | false =>
    right
    by_cases h : n < 0
    · exact Or.inl ⟨rfl, h, by simp; omega, by rw [if_pos (Or.inr h)], by simp; omega⟩
    · by_cases h2 : lim - t < n
      · exact Or.inr (Or.inl ⟨rfl, by omega, h2, by simp; omega, by rw [if_neg (by simp; omega), if_pos h2], by simp; omega⟩)
      · exact Or.inr (Or.inr ⟨rfl, by omega, by omega, by simp; omega, by rw [if_neg (by simp; omega), if_neg h2], by simp; omega⟩)
theorem mtr_take {lim t : Int} {o : Bool} (h : mtr lim t o) (n : Int) : mtr lim (takeT lim t o n) (takeO lim t o n) := by
  obtain ⟨h1, h2, h3, h4⟩ := h
  rcases take_ways lim t o n with ⟨a, _, e, f⟩ | ⟨a, b, _, e, f⟩ | ⟨a, b, c, _, e, f⟩ | ⟨a, b, c, _, e, f⟩ <;> rw [e, f]
  · exact ⟨h1, h2, h3, fun _ => h4 a⟩
  · exact ⟨h1, h2, h3, fun h => by cases h⟩
  · exact ⟨by omega, by omega, h3, fun _ => rfl⟩
  · exact ⟨by omega, by omega, h3, fun h => by cases h⟩
theorem mtr_new {lim : Int} (h1 : 0 ≤ lim) (h2 : lim ≤ 1099511627776) : mtr lim 0 false := ⟨by omega, h1, h2, fun h => by cases h⟩
/-- Of parts that aren't below 0: what is taken, and over or not, hangs on their sum alone. -/
theorem take_parts {lim t s n : Int} {o : Bool} (hs : 0 ≤ s) (hn : 0 ≤ n) (ht : t = takeT lim 0 false s) (ho : o = takeO lim 0 false s) :
    takeT lim t o n = takeT lim 0 false (s + n) ∧ takeO lim t o n = takeO lim 0 false (s + n) := by
  rcases take_ways lim 0 false s with ⟨a, _⟩ | ⟨_, b, _⟩ | ⟨_, b, c, _, e, f⟩ | ⟨_, b, c, _, e, f⟩
  · cases a
  · omega
  · rw [ht, ho, e, f]
    rcases take_ways lim 0 false (s + n) with ⟨a, _⟩ | ⟨_, b2, _⟩ | ⟨_, b2, c2, _, e2, f2⟩ | ⟨_, b2, c2, _, e2, f2⟩
    · cases a
    · omega
    · rw [e2, f2]; unfold takeT takeO; exact ⟨by rw [if_pos (Or.inl rfl)], rfl⟩
    · omega
  · rw [ht, ho, e, f]
    have k1 := take_ways lim (0 + s) false n
    have k2 := take_ways lim 0 false (s + n)
    rcases k1 with ⟨a, _⟩ | ⟨_, b1, _⟩ | ⟨_, b1, c1, _, e1, f1⟩ | ⟨_, b1, c1, _, e1, f1⟩ <;> rcases k2 with ⟨a, _⟩ | ⟨_, b2, _⟩ | ⟨_, b2, c2, _, e2, f2⟩ | ⟨_, b2, c2, _, e2, f2⟩ <;>
      first | (exact absurd ‹false = true› (by decide)) | omega | (rw [e1, f1, e2, f2]; exact ⟨by omega, rfl⟩)
end Go.Proofs.Ytbcbjcdpcbjhnaa
