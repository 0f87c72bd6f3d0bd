/- The plain mathematics of lines: where all has room, and where each row has. Conditions: as the theorems' premises say. -/
import Derived.Test.YtgglffmfkhbcgaaLineS
import Derived.Test.YtgglffmfkhbcgaaLineU
namespace Go.Proofs.Ytgglffmfkhbcgaa
namespace meas
theorem rows_last {l : List Pc} {a b : Nat} (ha : 0 < a → rowEnd l a = true) (hno : ∀ i, a < i → i < b → rowEnd l i = false) : ∀ d, a + d < b → (rowsTo l (a + d)).2 = a := by
  intro d
  induction d with
  | zero =>
    intro _
    cases a with
    | zero => rfl
    | succ a => rw [Nat.add_zero, rowsL.rowsTo_more (ha (by omega))]
  | succ d ih =>
    intro h
    rw [show a + (d + 1) = a + d + 1 by omega, rowsL.rowsTo_same (hno _ (by omega) (by omega))]
    exact ih (by omega)
theorem rows_mem {l : List Pc} {a b : Nat} (ha : 0 < a → rowEnd l a = true) (hab : a < b) (hno : ∀ i, a < i → i < b → rowEnd l i = false) (hb : rowEnd l b = true) : ∀ m, (a, b) ∈ (rowsTo l (b + m)).1 := by
  intro m
  induction m with
  | zero =>
    obtain ⟨d, hd⟩ : ∃ d, b = a + d + 1 := ⟨b - a - 1, by omega⟩
    subst hd
    have h := rows_last ha hno d (by omega)
    rw [Nat.add_zero, rowsL.rowsTo_more hb, h]
    simp
  | succ m ih =>
    rw [show b + (m + 1) = b + m + 1 by omega]
    cases hr : rowEnd l (b + m + 1) with
    | false => rw [rowsL.rowsTo_same hr]; exact ih
    | true => rw [rowsL.rowsTo_more hr]; exact List.mem_append_left _ ih
theorem min_fold {l : List Pc} : ∀ (rs : List (Nat × Nat)) (s : Int × Bool), (rs.foldl (minStep l) s).2 = true → s.2 = true ∧ s.1 ≤ (rs.foldl (minStep l) s).1 ∧
    ∀ r ∈ rs, (sumL ((gwP (rowOf l r)).drop 1)).2 = true ∧ (sumL ((gwP (rowOf l r)).drop 1)).1 ≤ (rs.foldl (minStep l) s).1
  | [], s, h => ⟨h, Int.le_refl _, fun r hr => by cases hr⟩
  | x :: rs, s, h => by
    rw [List.foldl_cons] at h ⊢
    obtain ⟨i1, i2, i3⟩ := min_fold rs _ h
    simp only [minStep, Bool.and_eq_true] at i1
    have e : (minStep l s x).1 = max s.1 (sumL ((gwP (rowOf l x)).drop 1)).1 := rfl
    rw [e] at i2
    refine ⟨i1.1, by omega, fun r hr => ?_⟩
    rcases List.mem_cons.1 hr with rfl | hr
    · exact ⟨i1.2, by omega⟩
    · exact i3 r hr
theorem row_wide {l : List Pc} (hm : mayP l = true) (h : (minP l).2 = true) {a b : Nat} (hab : a < b) (hb : b ≤ l.length) (hr : (a, b) ∈ (rowsTo l l.length).1) : wOf l a b ≤ (minP l).1 := by
  obtain ⟨-, -, h3⟩ := min_fold (l := l) (rowsTo l l.length).1 (0, true) h
  obtain ⟨e1, e2⟩ := h3 _ hr
  obtain ⟨q1, q2⟩ := sum_begin hm hab hb
  have e0 : sumL ((gwP (rowOf l (a, b))).drop 1) = sumL (0 :: (gwP (sub l a b)).drop 1) := rfl
  rw [e0] at e1 e2
  have := q2.1 e1
  have e3 : ((rowsTo l l.length).1.foldl (minStep l) (0, true)).1 = (minP l).1 := rfl
  omega
theorem all_wide {l : List Pc} (hm : mayP l = true) (h : (sumL (gwP l)).2 = true) {b : Nat} (hb : b ≤ l.length) : wOf l 0 b ≤ (sumL (gwP l)).1 ∧ (sumL (gwP l)).1 ≤ 1099511627776 := by
  obtain ⟨b1, b2, -⟩ := sum_nn (gwP l) 0 true (gw_bd hm) (by omega) (by omega)
  have e0 : sumL (gwP l) = (gwP l).foldl sumStep (0, true) := rfl
  rw [e0] at h ⊢
  have h2 := (b2.1 h).2
  rw [b1]
  have hs := gw_sum l
  have h3 := pw_le hm hb
  have h4 := pg_le hm hb
  have h5 := pg_le hm (Nat.zero_le 1)
  have e1 : pre Pc.w l 0 = 0 := rfl
  have e2 : pre Pc.g l 0 = 0 := rfl
  unfold wOf
  rw [Nat.zero_add]
  omega
theorem fits_of {l : List Pc} {room : Int} {C : List (Nat × Nat)} {P : List Pl} (hm : mayP l = true) (hC : LinesOk l room C) (hP : PlaceOk l room 0 C P) (h1 : (minP l).2 = true) (h2 : (sumL (gwP l)).2 = true) {i : Nat} {p : Pc} (hp : l[i]? = some p) :
    ∃ (j : Nat) (X Y : Int), P[i]? = some ⟨i, j, X, Y, p.w, p.h⟩ ∧ 0 ≤ X ∧ 0 ≤ p.w ∧ X + p.w ≤ 1099511627776 ∧ ((sumL (gwP l)).1 ≤ room → j = 0) ∧ ((minP l).1 ≤ room → X + p.w ≤ room) := by
  have hil := (List.getElem?_eq_some_iff.1 hp).1
  obtain ⟨j, a, b, hj, ha, hb⟩ := line_of hC i hil
  obtain ⟨d1, d2, d3, d4, -, -, -⟩ := hP.at_ j a b i p hj ha hb hp
  have e1 : moveF room (wOf l a b) 0 = 0 := by unfold moveF; rw [if_neg (by decide), if_neg (by decide)]
  rw [e1, Int.zero_add] at d1 d4
  obtain ⟨c1, c2, c3, c4, c5⟩ := hC.chain j a b hj
  obtain ⟨f1, f2, f3, f4⟩ := hC.fits j a b hj
  have hoe := off_end (a := a) hp
  have hle : wOf l a (i + 1) ≤ wOf l a b := by
    unfold wOf
    have := pw_le hm (show i + 1 ≤ b by omega)
    have := pg_le hm (show i + 1 ≤ b by omega)
    omega
  refine ⟨j, offL l a i, _, d1, d3, (may_at hm hp).1, d4, fun hmx => ?_, fun hmn => ?_⟩
  · -- the first line has all
    obtain ⟨⟨a0, b0⟩, h0⟩ : ∃ x, C[0]? = some x := ⟨C[0]'(by have := (List.getElem?_eq_some_iff.1 hj).1; omega), List.getElem?_eq_getElem _⟩
    obtain ⟨g1, g2, g3, g4, g5⟩ := hC.chain 0 a0 b0 h0
    have ha0 := g3 rfl
    subst ha0
    by_cases hl : 0 + 1 < C.length
    · obtain ⟨e, x1, x2, -, -, x5⟩ := (hC.fits 0 0 b0 h0).2.2.2 hl
      obtain ⟨y1, y2⟩ := all_wide hm h2 x2
      omega
    · have := (List.getElem?_eq_some_iff.1 hj).1
      omega
  · rcases f3 with h | h
    · omega
    · have hmem := rows_mem f1 c1 h f2 (l.length - b)
      rw [show b + (l.length - b) = l.length by omega] at hmem
      have := row_wide hm h1 c1 c2 hmem
      omega
end meas
end Go.Proofs.Ytgglffmfkhbcgaa
