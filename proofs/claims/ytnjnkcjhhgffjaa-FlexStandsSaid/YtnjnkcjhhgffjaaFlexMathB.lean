/- More of the plain mathematics of shares: what all weigh, and shares one by one. Conditions: none. -/
import Derived.Test.YtnjnkcjhhgffjaaFlexMath
namespace Go.Proofs.Ytnjnkcjhhgffjaa
theorem FIt.fit.fg {x : FIt} (h : x.fit) : 0 ≤ x.g ∧ x.g ≤ 6400 := ⟨h.2.2.2.2.1, h.2.2.2.2.2.1⟩
theorem FIt.fit.fs {x : FIt} (h : x.fit) : 0 ≤ x.s ∧ x.s ≤ 6400 := ⟨h.2.2.2.2.2.2.1, h.2.2.2.2.2.2.2⟩
theorem FIt.fit.fb {x : FIt} (h : x.fit) : 0 ≤ x.b ∧ x.b ≤ 1099511627776 := ⟨h.1, h.2.1⟩
theorem FIt.fit.fe {x : FIt} (h : x.fit) : 0 ≤ x.e ∧ x.e ≤ 1099511627776 := ⟨h.2.2.1, h.2.2.2.1⟩
theorem weigh_snoc (f : FIt → Int) {P : List FP} {k : Nat} {p : FP} (h : P[k]? = some p) : weighF f (P.take (k + 1)) = weighF f (P.take k) + (if p.2 = true then 0 else f p.1) := by
  rw [List.take_add_one, h]; unfold weighF; rw [List.map_append, List.sum_append]; simp
theorem weigh_bd {f : FIt → Int} : ∀ {P : List FP}, (∀ p ∈ P, 0 ≤ f p.1 ∧ f p.1 ≤ 6400) → 0 ≤ weighF f P ∧ weighF f P ≤ 6400 * P.length
  | [], _ => by simp [weighF]
  | p :: P, h => by
    have ih := weigh_bd (f := f) (P := P) (fun q hq => h q (List.mem_cons_of_mem _ hq))
    have h0 := h p (List.mem_cons_self)
    have e : weighF f (p :: P) = (if p.2 = true then 0 else f p.1) + weighF f P := by simp [weighF]
    rw [e, List.length_cons]
    split <;> omega
theorem shareOk_snoc (all D : Int) (f : FIt → Int) {P : List FP} {k : Nat} {p : FP} (h : P[k]? = some p) : shareOkF all D f (P.take (k + 1)) = (shareOkF all D f (P.take k) && (p.2 || partOk all (f p.1) D)) := by
  rw [List.take_add_one, h]; unfold shareOkF; rw [List.all_append]; simp
theorem map_snoc {α β : Type} (f : α → β) {P : List α} {k : Nat} {p : α} (h : P[k]? = some p) : (P.take (k + 1)).map f = (P.take k).map f ++ [f p] := by
  rw [List.take_add_one, h, List.map_append]; rfl
/-- A list that is written place by place: the next place. -/
theorem fill_next {α : Type} (a : List α) (x y : α) (m : Nat) : (a ++ List.replicate (m + 1) y).set a.length x = (a ++ [x]) ++ List.replicate m y := by
  rw [List.set_append_right _ _ (Nat.le_refl _), Nat.sub_self, List.replicate_succ, List.set_cons_zero, List.append_assoc]
  rfl
end Go.Proofs.Ytnjnkcjhhgffjaa
