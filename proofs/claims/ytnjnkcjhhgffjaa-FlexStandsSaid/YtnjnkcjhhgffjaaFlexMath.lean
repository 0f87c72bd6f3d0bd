/- The plain mathematics of room that is shared: rounds of shares, and what follows of them. Conditions: none. -/
import Derived.Test.YtnjnkcjhhgffjaaFixMath2
namespace Go.Proofs.Ytnjnkcjhhgffjaa
structure FIt where
  b : Int
  e : Int
  g : Int
  s : Int
def FIt.cs (x : FIt) : List Value := [.int .i64 x.b, .int .i64 x.e, .int .i64 x.g, .int .i64 x.s]
def flatF (l : List FIt) : List Value := l.flatMap FIt.cs
theorem flatF_cons (i : FIt) (l : List FIt) : flatF (i :: l) = .int .i64 i.b :: .int .i64 i.e :: .int .i64 i.g :: .int .i64 i.s :: flatF l := rfl
theorem flatF_append (a b : List FIt) : flatF (a ++ b) = flatF a ++ flatF b := by unfold flatF; rw [List.flatMap_append]
theorem flatF_len (l : List FIt) : (flatF l).length = l.length * 4 := by
  induction l with
  | nil => rfl
  | cons i l ih => rw [flatF_cons]; simp only [List.length_cons, ih]; omega
theorem flatF_at : ∀ (l : List FIt) (k : Nat) (i : FIt), l[k]? = some i →
    (flatF l)[k * 4]? = some (.int .i64 i.b) ∧ (flatF l)[k * 4 + 1]? = some (.int .i64 i.e) ∧ (flatF l)[k * 4 + 2]? = some (.int .i64 i.g) ∧ (flatF l)[k * 4 + 3]? = some (.int .i64 i.s)
  | [], k, i, h => by simp at h
  | j :: l, 0, i, h => by
    obtain rfl : j = i := by simpa using h
    rw [flatF_cons]; exact ⟨rfl, rfl, rfl, rfl⟩
  | j :: l, k + 1, i, h => by
    obtain ⟨a, b, c, d⟩ := flatF_at l k i (by simpa using h)
    rw [flatF_cons, show (k + 1) * 4 = k * 4 + 4 by omega]
    exact ⟨a, b, c, d⟩
/-- What a number counts as, from 0 on. -/
def cnt (n most : Int) : Int := min (max n 0) most
def FIt.cnt (x : FIt) : FIt := ⟨Go.Proofs.Ytnjnkcjhhgffjaa.cnt x.b 1099511627776, Go.Proofs.Ytnjnkcjhhgffjaa.cnt x.e 1099511627776, Go.Proofs.Ytnjnkcjhhgffjaa.cnt x.g 6400, Go.Proofs.Ytnjnkcjhhgffjaa.cnt x.s 6400⟩
/-- May an item be as it is? -/
def FIt.fit (x : FIt) : Prop := 0 ≤ x.b ∧ x.b ≤ 1099511627776 ∧ 0 ≤ x.e ∧ x.e ≤ 1099511627776 ∧ 0 ≤ x.g ∧ x.g ≤ 6400 ∧ 0 ≤ x.s ∧ x.s ≤ 6400
theorem cnt_bd (n m : Int) (h : 0 ≤ m) : 0 ≤ cnt n m ∧ cnt n m ≤ m := by unfold cnt; omega
theorem FIt.cnt_fit (x : FIt) : x.cnt.fit := ⟨(cnt_bd _ _ (by decide)).1, (cnt_bd _ _ (by decide)).2, (cnt_bd _ _ (by decide)).1, (cnt_bd _ _ (by decide)).2, (cnt_bd _ _ (by decide)).1, (cnt_bd _ _ (by decide)).2, (cnt_bd _ _ (by decide)).1, (cnt_bd _ _ (by decide)).2⟩
theorem cnt_eq {n m : Int} (h : 0 ≤ n) (h' : n ≤ m) : cnt n m = n := by unfold cnt; omega
theorem FIt.cnt_of_fit {x : FIt} (h : x.fit) : x.cnt = x := by
  obtain ⟨b, e, g, s⟩ := x
  obtain ⟨h1, h2, h3, h4, h5, h6, h7, h8⟩ := h
  unfold FIt.cnt
  simp only at h1 h2 h3 h4 h5 h6 h7 h8
  rw [cnt_eq h1 h2, cnt_eq h3 h4, cnt_eq h5 h6, cnt_eq h7 h8]
/-- An item, and whether it is frozen. -/
abbrev FP := FIt × Bool
def takenF (P : List FP) : List Int := P.flatMap fun p => p.1.e :: (if p.2 = true then [] else [p.1.b])
def restN (room : Int) (P : List FP) : Int := sub2 room (sumL (takenF P)).1
def restOk (room : Int) (P : List FP) : Bool := (sumL (takenF P)).2 && subOk room (sumL (takenF P)).1
def weighF (f : FIt → Int) (P : List FP) : Int := (P.map fun p => if p.2 = true then 0 else f p.1).sum
def shareF (all D : Int) (f : FIt → Int) (p : FP) : Int := if p.2 = true then 0 else part2 all (f p.1) D
def shareOkF (all D : Int) (f : FIt → Int) (P : List FP) : Bool := P.all fun p => p.2 || partOk all (f p.1) D
def allF (f : FIt → Int) (P : List FP) : Int := max (weighF f P) 64
/-- Sizes, where there is enough room. -/
def growF (rest D : Int) (p : FP) : Int := if p.2 = true then 0 else add2 p.1.b (shareF rest D FIt.g p)
def growOk (rest D : Int) (P : List FP) : Bool := P.all fun p => p.2 || addOk p.1.b (shareF rest D FIt.g p)
/-- Sizes, where there isn't. -/
def lessF (lack D : Int) (p : FP) : Int := sub2 p.1.b (shareF lack D FIt.s p)
def lessOk (lack D : Int) (P : List FP) : Bool := P.all fun p => p.2 || subOk p.1.b (shareF lack D FIt.s p)
def sizeF (lack D : Int) (p : FP) : Int := if p.2 = true then 0 else max (lessF lack D p) 0
def iceF (lack D : Int) (p : FP) : Bool := p.2 || decide (lessF lack D p < 0)
def anyF (lack D : Int) (P : List FP) : Bool := P.any fun p => !p.2 && decide (lessF lack D p < 0)
def nextF (lack D : Int) (P : List FP) : List FP := P.map fun p => (p.1, iceF lack D p)
/-- One round: sizes, who is frozen then, whether some number wasn't exact, and whether there is another round. -/
def roundF (room : Int) (P : List FP) (c : Bool) : List Int × List FP × Bool × Bool :=
  if 0 ≤ restN room P then
    (P.map (growF (restN room P) (allF FIt.g P)), P, (((c || !restOk room P) || !shareOkF (restN room P) (allF FIt.g P) FIt.g P) || !growOk (restN room P) (allF FIt.g P) P), false)
  else
    (P.map (sizeF (-restN room P) (allF FIt.s P)), nextF (-restN room P) (allF FIt.s P) P, (((c || !restOk room P) || !shareOkF (-restN room P) (allF FIt.s P) FIt.s P) || !lessOk (-restN room P) (allF FIt.s P) P), anyF (-restN room P) (allF FIt.s P) P)
/-- All rounds. -/
def roundsF (room : Int) : Nat → List FP → Bool → List Int × Bool
  | 0, _, c => ([], c)
  | k + 1, P, c => if (roundF room P c).2.2.2 = true then roundsF room k (roundF room P c).2.1 (roundF room P c).2.2.1 else ((roundF room P c).1, (roundF room P c).2.2.1)
def freeF (P : List FP) : Nat := P.countP fun p => !p.2
/-- What Share answers. -/
def shareL (l : List FIt) (room : Int) : List Int × Bool :=
  if 100 < l.length then ([], false) else
    let r := roundsF room (l.length + 1) (l.map fun x => (x.cnt, false)) false
    (r.1, !r.2)
theorem free_key (lack D : Int) : ∀ Q : List FP, freeF (nextF lack D Q) ≤ freeF Q ∧ (anyF lack D Q = true → freeF (nextF lack D Q) < freeF Q)
  | [] => ⟨Nat.le_refl _, fun h => by simp [anyF] at h⟩
  | p :: Q => by
    obtain ⟨i1, i2⟩ := free_key lack D Q
    have e1 : freeF (nextF lack D (p :: Q)) = freeF (nextF lack D Q) + if iceF lack D p = true then 0 else 1 := by
      unfold freeF nextF
      rw [List.map_cons, List.countP_cons]
      cases iceF lack D p <;> rfl
    have e2 : freeF (p :: Q) = freeF Q + if p.2 = true then 0 else 1 := by
      unfold freeF
      rw [List.countP_cons]
      cases p.2 <;> rfl
    have e3 : anyF lack D (p :: Q) = ((!p.2 && decide (lessF lack D p < 0)) || anyF lack D Q) := rfl
    rw [e1, e2, e3]
    cases hp : p.2
    · by_cases hl : lessF lack D p < 0
      · have : iceF lack D p = true := by unfold iceF; rw [hp, decide_eq_true hl]; rfl
        rw [this]
        simp only [if_true]
        refine ⟨by simp; omega, fun _ => by simp; omega⟩
      · have : iceF lack D p = false := by unfold iceF; rw [hp, decide_eq_false hl]; rfl
        rw [this, decide_eq_false hl]
        simp only [Bool.not_false, Bool.and_false, Bool.false_or]
        refine ⟨by simpa using i1, fun h => by have := i2 h; simpa using this⟩
    · have : iceF lack D p = true := by unfold iceF; rw [hp]; rfl
      rw [this]
      simp only [Bool.not_true, Bool.false_and, Bool.false_or, if_true]
      exact ⟨by simpa using i1, fun h => by have := i2 h; simpa using this⟩
theorem free_next {lack D : Int} {P : List FP} (h : anyF lack D P = true) : freeF (nextF lack D P) < freeF P := (free_key lack D P).2 h
theorem free_le (P : List FP) : freeF P ≤ P.length := List.countP_le_length
theorem round_len (room : Int) (P : List FP) (c : Bool) : (roundF room P c).1.length = P.length ∧ (roundF room P c).2.1.length = P.length := by
  unfold roundF nextF; split <;> simp
theorem rounds_len (room : Int) : ∀ (k : Nat) (P : List FP) (c : Bool), freeF P < k → (roundsF room k P c).1.length = P.length
  | 0, _, _, h => absurd h (by omega)
  | k + 1, P, c, h => by
    unfold roundsF
    split
    · rename_i hm
      have hn : ¬ 0 ≤ restN room P := by
        intro h0
        unfold roundF at hm
        rw [if_pos h0] at hm
        cases hm
      have e1 : (roundF room P c).2.1 = nextF (-restN room P) (allF FIt.s P) P := by unfold roundF; rw [if_neg hn]
      have e2 : anyF (-restN room P) (allF FIt.s P) P = true := by unfold roundF at hm; rwa [if_neg hn] at hm
      have := free_next e2
      rw [rounds_len room k _ _ (by rw [e1]; omega), e1]
      simp [nextF]
    · exact (round_len room P c).1
end Go.Proofs.Ytnjnkcjhhgffjaa
