/- The plain mathematics of lines: a piece, and the one ahead of it. Conditions: as the theorems' premises say. -/
import Derived.Test.YtgglffmfkhbcgaaLineP
namespace Go.Proofs.Ytgglffmfkhbcgaa
theorem line_mono {l : List Pc} {room : Int} {C : List (Nat × Nat)} (h : LinesOk l room C) {j a b : Nat} (hj : C[j]? = some (a, b)) : ∀ (d a' b' : Nat), C[j + 1 + d]? = some (a', b') → b ≤ a' := by
  intro d
  induction d with
  | zero => intro a' b' h'; have := (h.chain j a b hj).2.2.2.1 a' b' h'; omega
  | succ d ih =>
    intro a' b' h'
    have hl := (List.getElem?_eq_some_iff.1 h').1
    obtain ⟨x, y, hxy⟩ : ∃ x y, C[j + 1 + d]? = some (x, y) := ⟨_, _, List.getElem?_eq_getElem (by omega)⟩
    have h1 := ih x y hxy
    have h2 := (h.chain _ _ _ hxy).2.2.2.1 a' b' h'
    have h3 := (h.chain _ _ _ hxy).1
    omega
theorem line_same {l : List Pc} {room : Int} {C : List (Nat × Nat)} (h : LinesOk l room C) {j a b j' a' b' i : Nat} (hj : C[j]? = some (a, b)) (hj' : C[j']? = some (a', b')) (h1 : a ≤ i) (h2 : i < b) (h3 : a' ≤ i) (h4 : i < b') : j = j' := by
  rcases Nat.lt_trichotomy j j' with e | e | e
  · have := line_mono h hj (j' - j - 1) a' b' (by rw [show j + 1 + (j' - j - 1) = j' by omega]; exact hj'); omega
  · exact e
  · have := line_mono h hj' (j - j' - 1) a b (by rw [show j' + 1 + (j - j' - 1) = j by omega]; exact hj); omega
theorem line_ahead {l : List Pc} {room : Int} {C : List (Nat × Nat)} (h : LinesOk l room C) {j a b : Nat} (hj : C[j]? = some (a, b)) (h0 : 0 < a) : ∃ j' a', j = j' + 1 ∧ C[j']? = some (a', a) := by
  obtain ⟨j', rfl⟩ : ∃ j', j = j' + 1 := by
    cases j with
    | zero => have := (h.chain 0 a b hj).2.2.1 rfl; omega
    | succ j' => exact ⟨j', rfl⟩
  have hl := (List.getElem?_eq_some_iff.1 hj).1
  obtain ⟨x, y, hxy⟩ : ∃ x y, C[j']? = some (x, y) := ⟨_, _, List.getElem?_eq_getElem (by omega)⟩
  have := (h.chain _ _ _ hxy).2.2.2.1 a b hj
  exact ⟨j', x, rfl, by rw [hxy, this]⟩
theorem highs_at {l : List Pc} {C : List (Nat × Nat)} {j a b : Nat} (hj : C[j]? = some (a, b)) : highs l C (j + 1) = highs l C j + hiP (sub l a b) := by rw [highs, hj]
theorem off_step {l : List Pc} {a i : Nat} {p q : Pc} (hq : l[i]? = some q) (hp : l[i + 1]? = some p) : offL l a (i + 1) = offL l a i + q.w + p.g := by
  unfold offL
  have h1 := pre_at (f := Pc.w) hq
  have h2 := pre_at (f := Pc.g) hp
  omega
/-- A piece's place. -/
theorem stands {l : List Pc} {room align : Int} {C : List (Nat × Nat)} {P : List Pl} (hC : LinesOk l room C) (h : PlaceOk l room align C P) {i : Nat} {p : Pc} (hp : l[i]? = some p) :
    ∃ (j : Nat) (X Y : Int), P[i]? = some ⟨i, j, X, Y, p.w, p.h⟩ ∧ 0 ≤ X ∧ X + p.w ≤ 1099511627776 ∧ 0 ≤ highs l C j ∧ highs l C j ≤ Y ∧ Y ≤ 1099511627776 ∧ Y + p.h = highs l C (j + 1) ∧ (i + 1 = l.length → j + 1 = C.length) ∧ (i = 0 → j = 0) ∧ (j : Int) ≤ i := by
  have hil := (List.getElem?_eq_some_iff.1 hp).1
  obtain ⟨j, a, b, hj, ha, hb⟩ := line_of hC i hil
  obtain ⟨d1, d2, d3, d4, d5, d6, d7⟩ := h.at_ j a b i p hj ha hb hp
  have hh := highs_at (l := l) hj
  refine ⟨j, _, _, d1, by omega, d4, d6, by omega, d5, by omega, fun e => ?_, fun e => ?_, ?_⟩
  · have hjl := (List.getElem?_eq_some_iff.1 hj).1
    obtain ⟨c1, c2, c3, c4, c5⟩ := hC.chain j a b hj
    rcases Nat.lt_or_ge (j + 1) C.length with h3 | h3
    · obtain ⟨x, y, hxy⟩ : ∃ x y, C[j + 1]? = some (x, y) := ⟨_, _, List.getElem?_eq_getElem h3⟩
      have := c4 x y hxy
      have := (hC.chain _ _ _ hxy).1
      have := (hC.chain _ _ _ hxy).2.1
      omega
    · omega
  · rcases Nat.eq_zero_or_pos j with e2 | e2
    · exact e2
    · obtain ⟨x, y, hxy⟩ : ∃ x y, C[j - 1]? = some (x, y) := ⟨_, _, List.getElem?_eq_getElem (by have := (List.getElem?_eq_some_iff.1 hj).1; omega)⟩
      have h1 := (hC.chain _ _ _ hxy).1
      have h2 := (hC.chain _ _ _ hxy).2.2.2.1 a b (by rw [show j - 1 + 1 = j by omega]; exact hj)
      omega
  · have key : ∀ (j a b : Nat), C[j]? = some (a, b) → j ≤ a := by
      intro j
      induction j with
      | zero => intro a b _; omega
      | succ j ih =>
        intro a b hj
        obtain ⟨x, y, hxy⟩ : ∃ x y, C[j]? = some (x, y) := ⟨_, _, List.getElem?_eq_getElem (by have := (List.getElem?_eq_some_iff.1 hj).1; omega)⟩
        have h1 := (hC.chain _ _ _ hxy).1
        have h2 := (hC.chain _ _ _ hxy).2.2.2.1 a b hj
        have := ih x y hxy
        omega
    have := key j a b hj
    omega
/-- A piece, and the one ahead: of one line, or of two. -/
theorem stands_next {l : List Pc} {room align : Int} {C : List (Nat × Nat)} {P : List Pl} (hC : LinesOk l room C) (h : PlaceOk l room align C P) {m : Nat} {p q : Pc} (hq : l[m]? = some q) (hp : l[m + 1]? = some p) {j j' : Nat} {X Y X' Y' : Int}
    (h1 : P[m]? = some ⟨m, j', X', Y', q.w, q.h⟩) (h2 : P[m + 1]? = some ⟨(m + 1 : Nat), j, X, Y, p.w, p.h⟩) :
    (j = j' ∧ X = X' + q.w + p.g ∧ Y + p.h = Y' + q.h) ∨ (j = j' + 1 ∧ rowEnd l (m + 1) = true) := by
  have hil := (List.getElem?_eq_some_iff.1 hp).1
  obtain ⟨i, a, b, hj, ha, hb⟩ := line_of hC (m + 1) hil
  obtain ⟨d1, _, _, _, _, _, d7⟩ := h.at_ i a b (m + 1) p hj ha hb hp
  rw [d1] at h2
  simp only [Option.some.injEq, Pl.mk.injEq] at h2
  obtain ⟨_, e2, e3, e4, _, _⟩ := h2
  by_cases ham : a ≤ m
  · obtain ⟨f1, _, _, _, _, _, f7⟩ := h.at_ i a b m q hj ham (by omega) hq
    rw [f1] at h1
    simp only [Option.some.injEq, Pl.mk.injEq] at h1
    obtain ⟨_, g2, g3, g4, _, _⟩ := h1
    left
    have := off_step (a := a) hq hp
    exact ⟨by omega, by omega, by omega⟩
  · have ha2 : a = m + 1 := by omega
    subst ha2
    obtain ⟨i', a', rfl, hj'⟩ := line_ahead hC hj (by omega)
    have hlt := (hC.chain _ _ _ hj').1
    obtain ⟨f1, _, _, _, _, _, f7⟩ := h.at_ i' a' (m + 1) m q hj' (by omega) (by omega) hq
    rw [f1] at h1
    simp only [Option.some.injEq, Pl.mk.injEq] at h1
    obtain ⟨_, g2, g3, g4, _, _⟩ := h1
    right
    exact ⟨by omega, (hC.fits _ _ _ hj).1 (by omega)⟩
end Go.Proofs.Ytgglffmfkhbcgaa
