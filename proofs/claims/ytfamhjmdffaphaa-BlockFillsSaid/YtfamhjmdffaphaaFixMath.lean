/- The plain mathematics of clamped numbers: what a number counts as, and whether it is exact. Conditions: none. -/
import Derived.WalkKit
namespace Go.Proofs.Ytfamhjmdffaphaa
/-- What a number counts as. -/
def cl (n : Int) : Int := if 1099511627776 < n then 1099511627776 else if n < -1099511627776 then -1099511627776 else n
/-- Whether it is that. -/
def ok (n : Int) : Bool := decide (-1099511627776 ≤ n ∧ n ≤ 1099511627776)
theorem cl_lo (n : Int) : -1099511627776 ≤ cl n := by unfold cl; split <;> (try split) <;> omega
theorem cl_hi (n : Int) : cl n ≤ 1099511627776 := by unfold cl; split <;> (try split) <;> omega
theorem ok_cl {n : Int} (h : ok n = true) : cl n = n := by
  have := of_decide_eq_true h
  unfold cl; split <;> (try split) <;> omega
theorem ok_iff {n : Int} : ok n = true ↔ (-1099511627776 ≤ n ∧ n ≤ 1099511627776) := by unfold ok; exact decide_eq_true_iff
theorem cl_mono {a b : Int} (h : a ≤ b) : cl a ≤ cl b := by unfold cl; repeat' split <;> omega
theorem cl_eq (n : Int) : (1099511627776 < n ∧ cl n = 1099511627776 ∧ ok n = false) ∨ (n < -1099511627776 ∧ cl n = -1099511627776 ∧ ok n = false) ∨ (-1099511627776 ≤ n ∧ n ≤ 1099511627776 ∧ cl n = n ∧ ok n = true) := by
  unfold cl ok
  by_cases h1 : 1099511627776 < n
  · exact Or.inl ⟨h1, if_pos h1, by simp; omega⟩
  · by_cases h2 : n < -1099511627776
    · exact Or.inr (Or.inl ⟨h2, by rw [if_neg h1, if_pos h2], by simp; omega⟩)
    · exact Or.inr (Or.inr ⟨by omega, by omega, by rw [if_neg h1, if_neg h2], by simp; omega⟩)
def add2 (a b : Int) : Int := cl (cl a + cl b)
def addOk (a b : Int) : Bool := ok a && (ok b && ok (cl a + cl b))
def sub2 (a b : Int) : Int := cl (cl a - cl b)
def subOk (a b : Int) : Bool := ok a && (ok b && ok (cl a - cl b))
def px2 (a : Int) : Int := cl (cl a * 64)
def pxOk (a : Int) : Bool := ok a && ok (cl a * 64)
/-- The product by 64, towards 0. -/
def prod (a b : Int) : Int := (a * b).tdiv 64
def mul2 (a b : Int) : Int := cl (prod (cl a) (cl b))
def mulOk (a b : Int) : Bool := ok a && (ok b && ok (prod (cl a) (cl b)))
/-- May num be a part of den? -/
def mayPart (num den : Int) : Bool := decide (0 ≤ num ∧ num ≤ 1048576 ∧ 1 ≤ den ∧ den ≤ 1048576)
def part2 (a num den : Int) : Int := if mayPart num den = true then cl ((cl a * num).tdiv den) else 0
def partOk (a num den : Int) : Bool := if mayPart num den = true then ok a && ok ((cl a * num).tdiv den) else false
/-- One number more in a sum. -/
def sumStep (s : Int × Bool) (x : Int) : Int × Bool := (add2 s.1 x, s.2 && addOk s.1 x)
def sumL (l : List Int) : Int × Bool := l.foldl sumStep (0, true)
theorem sumL_snoc (l : List Int) (x : Int) : sumL (l ++ [x]) = sumStep (sumL l) x := by simp [sumL, List.foldl_append]
theorem cl_cl (n : Int) : cl (cl n) = cl n := by
  rcases cl_eq n with ⟨_, h, _⟩ | ⟨_, h, _⟩ | ⟨_, _, h, h2⟩
  · rw [h]; decide
  · rw [h]; decide
  · rw [h, h]
theorem ok_cl_t (n : Int) : ok (cl n) = true := ok_iff.2 ⟨cl_lo n, cl_hi n⟩
theorem sumL_bd (l : List Int) : -1099511627776 ≤ (sumL l).1 ∧ (sumL l).1 ≤ 1099511627776 := by
  rcases List.eq_nil_or_concat l with rfl | ⟨a, x, rfl⟩
  · decide
  · rw [List.concat_eq_append, sumL_snoc]; exact ⟨cl_lo _, cl_hi _⟩
end Go.Proofs.Ytfamhjmdffaphaa
