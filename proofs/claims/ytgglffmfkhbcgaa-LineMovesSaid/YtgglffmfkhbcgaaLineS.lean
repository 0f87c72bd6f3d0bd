/- The plain mathematics of lines: moved lines, and what a row behind a line comes to. Conditions: as the theorems' premises say. -/
import Derived.Test.YtgglffmfkhbcgaaLineQ
namespace Go.Proofs.Ytgglffmfkhbcgaa
theorem place_x {l : List Pc} {room align : Int} {C : List (Nat × Nat)} {P : List Pl} (h : PlaceOk l room align C P) {j a b i : Nat} {p : Pc} (hj : C[j]? = some (a, b)) (ha : a ≤ i) (hb : i < b) (hp : l[i]? = some p) :
    P[i]? = some ⟨i, j, moveF room (wOf l a b) align + offL l a i, highs l C j + (hiP (sub l a b) - p.h), p.w, p.h⟩ := (h.at_ j a b i p hj ha hb hp).1
theorem off_zero (l : List Pc) (a : Nat) : offL l a a = 0 := by unfold offL; omega
theorem off_end {l : List Pc} {a i : Nat} {p : Pc} (hp : l[i]? = some p) : offL l a i + p.w = wOf l a (i + 1) := by
  unfold offL wOf
  have := pre_at (f := Pc.w) hp
  omega
theorem moves_at {l : List Pc} {room : Int} {C : List (Nat × Nat)} {PA PB PC : List Pl} (hA : PlaceOk l room 0 C PA) (hB : PlaceOk l room 1 C PB) (hc : PlaceOk l room 2 C PC) {j a b i : Nat} {p : Pc} (hj : C[j]? = some (a, b)) (ha : a ≤ i) (hb : i < b) (hp : l[i]? = some p) :
    ∃ X Y by_ : Int, PA[i]? = some ⟨i, j, X, Y, p.w, p.h⟩ ∧ PB[i]? = some ⟨i, j, by_ / 2 + X, Y, p.w, p.h⟩ ∧ PC[i]? = some ⟨i, j, by_ + X, Y, p.w, p.h⟩ ∧ 0 ≤ by_ ∧ 0 ≤ X ∧ by_ + X + p.w ≤ 1099511627776 ∧ by_ = max (room - wOf l a b) 0 ∧ (i = a → X = 0) ∧ (i + 1 = b → X + p.w = wOf l a b) := by
  have e1 : moveF room (wOf l a b) 0 = 0 := by unfold moveF; rw [if_neg (by decide), if_neg (by decide)]
  have e2 : moveF room (wOf l a b) 1 = max (room - wOf l a b) 0 / 2 := by unfold moveF; rw [if_pos rfl]
  have e3 : moveF room (wOf l a b) 2 = max (room - wOf l a b) 0 := by unfold moveF; rw [if_neg (by decide), if_pos rfl]
  have x1 := place_x hA hj ha hb hp
  have x2 := place_x hB hj ha hb hp
  obtain ⟨x3, _, h0, h1, _⟩ := hc.at_ j a b i p hj ha hb hp
  rw [e1, Int.zero_add] at x1
  rw [e2] at x2
  rw [e3] at x3 h1
  refine ⟨_, _, _, x1, x2, x3, by omega, h0, h1, rfl, fun e => by rw [e]; exact off_zero l a, fun e => by rw [off_end hp, e]⟩
theorem line_le {l : List Pc} {room : Int} {C : List (Nat × Nat)} (hC : LinesOk l room C) : ∀ {j a b : Nat}, C[j]? = some (a, b) → j ≤ a := by
  intro j
  induction j with
  | zero => intro a b _; omega
  | succ j ih =>
    intro a b hj
    obtain ⟨x, y, hxy⟩ : ∃ x y, C[j]? = some (x, y) := ⟨_, _, List.getElem?_eq_getElem (by have := (List.getElem?_eq_some_iff.1 hj).1; omega)⟩
    have h1 := (hC.chain _ _ _ hxy).1
    have h2 := (hC.chain _ _ _ hxy).2.2.2.1 a b hj
    have := ih hxy
    omega
theorem pre_w_le {l : List Pc} (h : mayP l = true) : ∀ k, pre Pc.w l k ≤ k * 1099511627776
  | 0 => by rw [pre]; simp
  | k + 1 => by
    have ih := pre_w_le h k
    rw [pre]
    cases hp : l[k]? with
    | none => simp only; omega
    | some p => have := (may_at h hp).2.1; simp only; omega
theorem pre_g_le {l : List Pc} (h : mayP l = true) : ∀ k, pre Pc.g l k ≤ k * 1099511627776
  | 0 => by rw [pre]; simp
  | k + 1 => by
    have ih := pre_g_le h k
    rw [pre]
    cases hp : l[k]? with
    | none => simp only; omega
    | some p => have := (may_at h hp).2.2.2.2.2; simp only; omega
theorem wOf_bd {l : List Pc} (h : mayP l = true) {a e : Nat} (hae : a < e) (he : e ≤ 200) : 0 ≤ wOf l a e ∧ wOf l a e ≤ 400 * 1099511627776 := by
  unfold wOf
  have h1 := pw_le h (Nat.le_of_lt hae)
  have h2 := pg_le h (show a + 1 ≤ e by omega)
  have h3 := pre_w_le h e
  have h4 := pre_g_le h e
  have h5 := pw_le h (Nat.zero_le a)
  have h6 := pg_le h (Nat.zero_le (a + 1))
  have e1 : pre Pc.w l 0 = 0 := rfl
  have e2 : pre Pc.g l 0 = 0 := rfl
  omega
theorem wOf_step {l : List Pc} {a k : Nat} {p : Pc} (hp : l[k]? = some p) : wOf l a (k + 1) = wOf l a k + (p.g + p.w) := by
  unfold wOf
  have := pre_at (f := Pc.w) hp
  have := pre_at (f := Pc.g) hp
  omega
theorem brk_of {l : List Pc} {k : Nat} {p : Pc} (hp : l[k]? = some p) : rowEnd l k = p.k := by unfold rowEnd; rw [hp]
end Go.Proofs.Ytgglffmfkhbcgaa
