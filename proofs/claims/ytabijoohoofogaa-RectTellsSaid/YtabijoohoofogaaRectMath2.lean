/- The plain mathematics of the union of places. Conditions: none. -/
import Derived.Test.YtabijoohoofogaaRectMath
namespace Go.Proofs.Ytabijoohoofogaa
structure Acc where
  x : Int
  y : Int
  u : Int
  v : Int
  is : Bool
def un0 (r : Plc) : Acc := ⟨r.x, r.y, add2 r.x r.w, add2 r.y r.h, addOk r.x r.w && addOk r.y r.h⟩
def un1 (a : Acc) (r : Plc) : Acc := ⟨min a.x r.x, min a.y r.y, max a.u (add2 r.x r.w), max a.v (add2 r.y r.h), a.is && (addOk r.x r.w && addOk r.y r.h)⟩
def unD (a : Acc) : Plc × Bool := (⟨a.x, a.y, sub2 a.u a.x, sub2 a.v a.y⟩, a.is && (subOk a.u a.x && subOk a.v a.y))
def unionF : List Plc → Plc × Bool
  | [] => (.zero, true)
  | r :: t => if (r :: t).all mayB then unD (t.foldl un1 (un0 r)) else (.zero, false)
theorem unionF_cons (r : Plc) (t : List Plc) : unionF (r :: t) = if (r :: t).all mayB then unD (t.foldl un1 (un0 r)) else (.zero, false) := rfl
/-- An account has a place. -/
def holds (a : Acc) (r : Plc) : Prop := a.x ≤ r.x ∧ a.y ≤ r.y ∧ r.x + r.w ≤ a.u ∧ r.y + r.h ≤ a.v
theorem far_ok {r : Plc} (h : addOk r.x r.w = true) (k : addOk r.y r.h = true) : add2 r.x r.w = r.x + r.w ∧ add2 r.y r.h = r.y + r.h := ⟨(addOk_t h).2.2.2.2.2.2, (addOk_t k).2.2.2.2.2.2⟩
theorem fold_is (t : List Plc) : ∀ a : Acc, (t.foldl un1 a).is = true → a.is = true := by
  induction t with
  | nil => intro a h; exact h
  | cons r t ih =>
    intro a h
    have := ih _ h
    unfold un1 at this
    simp only [Bool.and_eq_true] at this
    exact this.1
theorem fold_keeps (t : List Plc) : ∀ (a : Acc) (r : Plc), holds a r → holds (t.foldl un1 a) r := by
  induction t with
  | nil => intro a r h; exact h
  | cons s t ih =>
    intro a r h
    refine ih _ r ?_
    obtain ⟨h1, h2, h3, h4⟩ := h
    exact ⟨show min a.x s.x ≤ r.x by omega, show min a.y s.y ≤ r.y by omega, show r.x + r.w ≤ max a.u (add2 s.x s.w) by omega, show r.y + r.h ≤ max a.v (add2 s.y s.h) by omega⟩
theorem fold_all (t : List Plc) : ∀ a : Acc, (t.foldl un1 a).is = true → ∀ r ∈ t, holds (t.foldl un1 a) r := by
  induction t with
  | nil => intro a _ r h; cases h
  | cons s t ih =>
    intro a h r hr
    rcases List.mem_cons.1 hr with rfl | hr
    · refine fold_keeps t _ _ ?_
      have h2 := fold_is t _ h
      unfold un1 at h2
      simp only [Bool.and_eq_true] at h2
      obtain ⟨e1, e2⟩ := far_ok h2.2.1 h2.2.2
      refine ⟨show min a.x r.x ≤ r.x by omega, show min a.y r.y ≤ r.y by omega, ?_, ?_⟩
      · show r.x + r.w ≤ max a.u (add2 r.x r.w); rw [e1]; omega
      · show r.y + r.h ≤ max a.v (add2 r.y r.h); rw [e2]; omega
    · exact ih _ h r hr
/-- The union has all that any has, if it is exact. -/
theorem union_has {l : List Plc} (h : (unionF l).2 = true) {r : Plc} (hr : r ∈ l) :
    mayB r = true ∧ (unionF l).1.x ≤ r.x ∧ (unionF l).1.y ≤ r.y ∧ r.x + r.w ≤ (unionF l).1.x + (unionF l).1.w ∧ r.y + r.h ≤ (unionF l).1.y + (unionF l).1.h ∧
      -1099511627776 ≤ (unionF l).1.x ∧ (unionF l).1.x ≤ 1099511627776 ∧ -1099511627776 ≤ (unionF l).1.y ∧ (unionF l).1.y ≤ 1099511627776 ∧ (unionF l).1.w ≤ 1099511627776 ∧ (unionF l).1.h ≤ 1099511627776 := by
  cases l with
  | nil => cases hr
  | cons s t =>
    rw [unionF_cons] at h ⊢
    cases ha : (s :: t).all mayB with
    | false => rw [ha, if_neg (by decide)] at h; cases h
    | true =>
      rw [ha, if_pos rfl] at h
      rw [if_pos rfl]
      have hm := List.all_eq_true.1 ha r hr
      unfold unD at h ⊢
      simp only [Bool.and_eq_true] at h
      obtain ⟨h1, h2, h3⟩ := h
      obtain ⟨_, _, x1, x2, _, w2, e1⟩ := subOk_t h2
      obtain ⟨_, _, y1, y2, _, k2, e2⟩ := subOk_t h3
      have hh : holds (t.foldl un1 (un0 s)) r := by
        rcases List.mem_cons.1 hr with rfl | hr
        · refine fold_keeps t _ _ ?_
          have g := fold_is t _ h1
          unfold un0 at g
          simp only [Bool.and_eq_true] at g
          obtain ⟨f1, f2⟩ := far_ok g.1 g.2
          exact ⟨Int.le_refl _, Int.le_refl _, by show r.x + r.w ≤ add2 r.x r.w; rw [f1]; omega, by show r.y + r.h ≤ add2 r.y r.h; rw [f2]; omega⟩
        · exact fold_all t _ h1 r hr
      obtain ⟨g1, g2, g3, g4⟩ := hh
      simp only
      rw [e1, e2]
      exact ⟨hm, g1, g2, by omega, by omega, x1, x2, y1, y2, w2, k2⟩
theorem union_may {l : List Plc} (h : (unionF l).2 = true) : mayB (unionF l).1 = true := by
  cases l with
  | nil => decide
  | cons s t =>
    obtain ⟨hm, h1, h2, h3, h4, x1, x2, y1, y2, w2, k2⟩ := union_has h (List.mem_cons_self (a := s) (l := t))
    have := mayB_iff.1 hm
    exact mayB_iff.2 ⟨x1, x2, y1, y2, by omega, w2, by omega, k2⟩
theorem union_point {l : List Plc} (h : (unionF l).2 = true) {r : Plc} (hr : r ∈ l) {x y : Int} (hp : hasB r x y = true) : hasB (unionF l).1 x y = true := by
  obtain ⟨hm, h1, h2, h3, h4, _⟩ := union_has h hr
  obtain ⟨_, g1, g2, g3, g4⟩ := hasB_iff.1 hp
  exact hasB_iff.2 ⟨union_may h, by omega, by omega, by omega, by omega⟩
theorem union_meets {l : List Plc} (h : (unionF l).2 = true) {r : Plc} (hr : r ∈ l) (hw : 0 < r.w) (hh : 0 < r.h) : meetB (unionF l).1 r = true ∧ meetR (unionF l).1 r = r := by
  obtain ⟨hm, h1, h2, h3, h4, _⟩ := union_has h hr
  have hb : meetB (unionF l).1 r = true := meetB_iff.2 ⟨union_may h, hm, by omega, by omega⟩
  refine ⟨hb, ?_⟩
  rw [meetR_yes hb]
  have e1 : max (unionF l).1.x r.x = r.x := by omega
  have e2 : max (unionF l).1.y r.y = r.y := by omega
  have e3 : min ((unionF l).1.x + (unionF l).1.w) (r.x + r.w) - r.x = r.w := by omega
  have e4 : min ((unionF l).1.y + (unionF l).1.h) (r.y + r.h) - r.y = r.h := by omega
  rw [e1, e2, e3, e4]
/-- The cells of a list of places. -/
def flat (l : List Plc) : List Go.Value := l.flatMap fun r => [.int .i64 r.x, .int .i64 r.y, .int .i64 r.w, .int .i64 r.h]
theorem flat_length (l : List Plc) : (flat l).length = l.length * 4 := by
  induction l with
  | nil => rfl
  | cons r l ih => unfold flat at ih ⊢; simp [ih]; omega
theorem flat_at (l : List Plc) (k : Nat) (r : Plc) (h : l[k]? = some r) : (flat l)[4 * k]? = some (.int .i64 r.x) ∧ (flat l)[4 * k + 1]? = some (.int .i64 r.y) ∧ (flat l)[4 * k + 2]? = some (.int .i64 r.w) ∧ (flat l)[4 * k + 3]? = some (.int .i64 r.h) := by
  induction l generalizing k with
  | nil => simp at h
  | cons s l ih =>
    cases k with
    | zero => simp at h; subst h; exact ⟨rfl, rfl, rfl, rfl⟩
    | succ k =>
      have := ih k (by simpa using h)
      have e : flat (s :: l) = .int .i64 s.x :: .int .i64 s.y :: .int .i64 s.w :: .int .i64 s.h :: flat l := rfl
      rw [e, show 4 * (k + 1) = 4 * k + 4 by omega]
      exact this
end Go.Proofs.Ytabijoohoofogaa
