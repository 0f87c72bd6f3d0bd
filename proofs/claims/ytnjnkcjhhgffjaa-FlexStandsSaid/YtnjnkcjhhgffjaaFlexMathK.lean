/- The plain mathematics of insertion, place by place. Conditions: none. -/
import Derived.Test.YtnjnkcjhhgffjaaFlexMathB
namespace Go.Proofs.Ytnjnkcjhhgffjaa
def cmpI (a b : Int) : Int := if a < b then -1 else if b < a then 1 else 0
theorem cmpI_lt (a b : Int) : decide (cmpI a b < 0) = decide (a < b) := by
  unfold cmpI
  split
  · rename_i h; simp [h]
  · rename_i h
    split <;> simp [h]
/-- The number at a place. -/
def atL (l : List Int) (x : Int) : Int := l.getD x.toNat 0
def ltL (l : List Int) (x y : Int) : Bool := decide (atL l x < atL l y)
def swapL (D : List Int) (j : Nat) : List Int := (D.set (j + 1) (D.getD j 0)).set j (D.getD (j + 1) 0)
/-- The number at j + 1 goes down as far as it is less. -/
def bub (l : List Int) (a : Nat) : Nat → List Int → List Int
  | 0, D => D
  | j + 1, D => if a < j + 1 ∧ ltL l (D.getD (j + 1) 0) (D.getD j 0) = true then bub l a j (swapL D j) else D
def insTo (l : List Int) (a : Nat) (D : List Int) : Nat → List Int
  | 0 => D
  | m + 1 => bub l a (a + 1 + m) (insTo l a D m)
theorem swapL_len (D : List Int) (j : Nat) : (swapL D j).length = D.length := by unfold swapL; simp
theorem bub_len (l : List Int) (a : Nat) : ∀ (j : Nat) (D : List Int), (bub l a j D).length = D.length
  | 0, _ => rfl
  | j + 1, D => by
    unfold bub
    split
    · rw [bub_len l a j, swapL_len]
    · rfl
theorem insTo_len (l : List Int) (a : Nat) (D : List Int) : ∀ m : Nat, (insTo l a D m).length = D.length
  | 0 => rfl
  | m + 1 => by unfold insTo; rw [bub_len, insTo_len l a D m]
def Within (n : Nat) (D : List Int) : Prop := ∀ x ∈ D, 0 ≤ x ∧ x < n
theorem Within.set {n : Nat} {D : List Int} (h : Within n D) (j : Nat) {x : Int} (hx : 0 ≤ x ∧ x < n) : Within n (D.set j x) := by
  intro y hy
  rcases List.mem_or_eq_of_mem_set hy with hy | rfl
  · exact h y hy
  · exact hx
theorem Within.at_ {n : Nat} {D : List Int} (h : Within n D) {j : Nat} (hj : j < D.length) : 0 ≤ D.getD j 0 ∧ D.getD j 0 < n := by
  rw [List.getD_eq_getElem?_getD, List.getElem?_eq_getElem hj]
  exact h _ (List.getElem_mem hj)
theorem Within.swap {n : Nat} {D : List Int} (h : Within n D) {j : Nat} (hj : j + 1 < D.length) : Within n (swapL D j) :=
  (h.set (j + 1) (h.at_ (by omega))).set j (h.at_ hj)
theorem Within.bub {n : Nat} (l : List Int) (a : Nat) : ∀ (j : Nat) (D : List Int), j < D.length → Within n D → Within n (bub l a j D)
  | 0, _, _, h => h
  | j + 1, D, hj, h => by
    unfold Go.Proofs.Ytnjnkcjhhgffjaa.bub
    split
    · exact Within.bub l a j _ (by rw [swapL_len]; omega) (h.swap hj)
    · exact h
theorem getD_some {D : List Int} {j : Nat} (hj : j < D.length) : D[j]? = some (D.getD j 0) := by
  rw [List.getD_eq_getElem?_getD, List.getElem?_eq_getElem hj]; rfl
theorem bub_stop {l : List Int} {a j : Nat} {D : List Int} (h : ¬ a < j ∨ ∃ m, j = m + 1 ∧ ltL l (D.getD (m + 1) 0) (D.getD m 0) = false) : bub l a j D = D := by
  cases j with
  | zero => rfl
  | succ j =>
    unfold bub
    rw [if_neg]
    rintro ⟨h1, h2⟩
    rcases h with h | ⟨m, hm, h⟩
    · omega
    · obtain rfl : j = m := by omega
      rw [h2] at h; cases h
theorem bub_go {l : List Int} {a j : Nat} {D : List Int} (h : a < j + 1) (h2 : ltL l (D.getD (j + 1) 0) (D.getD j 0) = true) : bub l a (j + 1) D = bub l a j (swapL D j) := by
  conv => lhs; unfold bub
  rw [if_pos ⟨h, h2⟩]
end Go.Proofs.Ytnjnkcjhhgffjaa
