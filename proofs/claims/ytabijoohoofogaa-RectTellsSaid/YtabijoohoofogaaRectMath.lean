/- The plain mathematics of places: what may be, has a point, is moved, made less, united and met. Conditions: none. -/
import Derived.Test.YtabijoohoofogaaFixMath2
namespace Go.Proofs.Ytabijoohoofogaa
/-- A place: X, Y, W, H. -/
structure Plc where
  x : Int
  y : Int
  w : Int
  h : Int
/-- A place as Go's value. -/
abbrev Plc.v (r : Plc) : Value := .agg #[.int .i64 r.x, .int .i64 r.y, .int .i64 r.w, .int .i64 r.h]
def Plc.zero : Plc := ⟨0, 0, 0, 0⟩
def mayB (r : Plc) : Bool := decide (-1099511627776 ≤ r.x ∧ r.x ≤ 1099511627776 ∧ -1099511627776 ≤ r.y ∧ r.y ≤ 1099511627776 ∧ 0 ≤ r.w ∧ r.w ≤ 1099511627776 ∧ 0 ≤ r.h ∧ r.h ≤ 1099511627776)
def hasB (r : Plc) (px py : Int) : Bool := mayB r && decide (r.x ≤ px ∧ px < r.x + r.w ∧ r.y ≤ py ∧ py < r.y + r.h)
def moveR (r : Plc) (dx dy : Int) : Plc := if mayB r then ⟨add2 r.x dx, add2 r.y dy, r.w, r.h⟩ else .zero
def moveOk (r : Plc) (dx dy : Int) : Bool := mayB r && (addOk r.x dx && addOk r.y dy)
/-- A number less two others, not below 0. -/
def less1 (n a b : Int) : Int := if sub2 (sub2 n a) b < 0 then 0 else sub2 (sub2 n a) b
def lessOk (n a b : Int) : Bool := !decide (sub2 (sub2 n a) b < 0) && (subOk n a && subOk (sub2 n a) b)
def insetR (r : Plc) (top right bottom left : Int) : Plc := if mayB r then ⟨add2 r.x left, add2 r.y top, less1 r.w left right, less1 r.h top bottom⟩ else .zero
def insetOk (r : Plc) (top right bottom left : Int) : Bool := mayB r && (addOk r.x left && addOk r.y top) && (lessOk r.w left right && lessOk r.h top bottom)
/-- Have two places a point together? -/
def meetB (a b : Plc) : Bool := mayB a && mayB b && decide (max a.x b.x < min (a.x + a.w) (b.x + b.w) ∧ max a.y b.y < min (a.y + a.h) (b.y + b.h))
def meetR (a b : Plc) : Plc := if meetB a b then ⟨max a.x b.x, max a.y b.y, min (a.x + a.w) (b.x + b.w) - max a.x b.x, min (a.y + a.h) (b.y + b.h) - max a.y b.y⟩ else .zero
theorem mayB_iff {r : Plc} : mayB r = true ↔ (-1099511627776 ≤ r.x ∧ r.x ≤ 1099511627776 ∧ -1099511627776 ≤ r.y ∧ r.y ≤ 1099511627776 ∧ 0 ≤ r.w ∧ r.w ≤ 1099511627776 ∧ 0 ≤ r.h ∧ r.h ≤ 1099511627776) := by unfold mayB; exact decide_eq_true_iff
theorem mayB_no {r : Plc} (h : mayB r = false) : ¬ (-1099511627776 ≤ r.x ∧ r.x ≤ 1099511627776 ∧ -1099511627776 ≤ r.y ∧ r.y ≤ 1099511627776 ∧ 0 ≤ r.w ∧ r.w ≤ 1099511627776 ∧ 0 ≤ r.h ∧ r.h ≤ 1099511627776) := of_decide_eq_false h
theorem hasB_iff {r : Plc} {x y : Int} : hasB r x y = true ↔ (mayB r = true ∧ r.x ≤ x ∧ x < r.x + r.w ∧ r.y ≤ y ∧ y < r.y + r.h) := by
  unfold hasB; rw [Bool.and_eq_true, decide_eq_true_iff]
/-! ### moved back -/
theorem moveOk_t {r : Plc} {dx dy : Int} (h : moveOk r dx dy = true) : mayB r = true ∧ addOk r.x dx = true ∧ addOk r.y dy = true ∧ moveR r dx dy = ⟨r.x + dx, r.y + dy, r.w, r.h⟩ := by
  unfold moveOk at h
  simp only [Bool.and_eq_true] at h
  obtain ⟨h1, h2, h3⟩ := h
  obtain ⟨_, _, _, _, _, _, e1⟩ := addOk_t h2
  obtain ⟨_, _, _, _, _, _, e2⟩ := addOk_t h3
  unfold moveR
  rw [if_pos h1, e1, e2]
  exact ⟨h1, h2, h3, rfl⟩
theorem addOk_mk {a b : Int} (h1 : -1099511627776 ≤ a) (h2 : a ≤ 1099511627776) (h3 : -1099511627776 ≤ b) (h4 : b ≤ 1099511627776) (h5 : -1099511627776 ≤ a + b) (h6 : a + b ≤ 1099511627776) : addOk a b = true := by
  have oa : ok a = true := ok_iff.2 ⟨h1, h2⟩
  have ob : ok b = true := ok_iff.2 ⟨h3, h4⟩
  have os : ok (a + b) = true := ok_iff.2 ⟨h5, h6⟩
  unfold addOk
  rw [ok_cl oa, ok_cl ob, oa, ob, os]
  rfl
theorem move_back {r : Plc} {dx dy : Int} (h : moveOk r dx dy = true) : mayB (moveR r dx dy) = true ∧ moveOk (moveR r dx dy) (-dx) (-dy) = true ∧ moveR (moveR r dx dy) (-dx) (-dy) = r := by
  obtain ⟨h1, h2, h3, e⟩ := moveOk_t h
  obtain ⟨a1, a2, a3, a4, a5, a6, _⟩ := addOk_t h2
  obtain ⟨b1, b2, b3, b4, b5, b6, _⟩ := addOk_t h3
  have hm := mayB_iff.1 h1
  have m1 : mayB (moveR r dx dy) = true := by rw [e]; exact mayB_iff.2 ⟨a5, a6, b5, b6, hm.2.2.2.2.1, hm.2.2.2.2.2.1, hm.2.2.2.2.2.2.1, hm.2.2.2.2.2.2.2⟩
  have m2 : moveOk (moveR r dx dy) (-dx) (-dy) = true := by
    have o1 : addOk (r.x + dx) (-dx) = true := addOk_mk a5 a6 (by omega) (by omega) (by omega) (by omega)
    have o2 : addOk (r.y + dy) (-dy) = true := addOk_mk b5 b6 (by omega) (by omega) (by omega) (by omega)
    unfold moveOk
    rw [m1, e, o1, o2]; rfl
  refine ⟨m1, m2, ?_⟩
  obtain ⟨_, _, _, e2⟩ := moveOk_t m2
  rw [e2, e]
  have e3 : r.x + dx + -dx = r.x := by omega
  have e4 : r.y + dy + -dy = r.y := by omega
  show Plc.mk (r.x + dx + -dx) (r.y + dy + -dy) r.w r.h = r
  rw [e3, e4]
theorem has_moved {r : Plc} {dx dy : Int} (h : moveOk r dx dy = true) (px py : Int) : hasB (moveR r dx dy) (px + dx) (py + dy) = hasB r px py := by
  have m1 := (move_back h).1
  obtain ⟨h1, _, _, e⟩ := moveOk_t h
  unfold hasB
  rw [m1, h1, e]
  congr 1
  exact decide_eq_decide.2 (by simp only; omega)
/-! ### met -/
theorem meetB_iff {a b : Plc} : meetB a b = true ↔ (mayB a = true ∧ mayB b = true ∧ max a.x b.x < min (a.x + a.w) (b.x + b.w) ∧ max a.y b.y < min (a.y + a.h) (b.y + b.h)) := by
  unfold meetB; rw [Bool.and_eq_true, Bool.and_eq_true, decide_eq_true_iff, and_assoc]
theorem bool_ext {a b : Bool} (h : a = true ↔ b = true) : a = b := by cases a <;> cases b <;> simp_all
theorem meetB_comm (a b : Plc) : meetB b a = meetB a b := bool_ext (by rw [meetB_iff, meetB_iff]; constructor <;> (rintro ⟨h1, h2, h3, h4⟩; exact ⟨h2, h1, by omega, by omega⟩))
theorem meetR_comm (a b : Plc) : meetR b a = meetR a b := by
  unfold meetR
  rw [meetB_comm]
  split
  · rw [Int.max_comm b.x, Int.max_comm b.y, Int.min_comm (b.x + b.w), Int.min_comm (b.y + b.h)]
  · rfl
theorem meetR_no {a b : Plc} (h : meetB a b = false) : meetR a b = .zero := by unfold meetR; rw [h]; rfl
theorem meetR_yes {a b : Plc} (h : meetB a b = true) : meetR a b = ⟨max a.x b.x, max a.y b.y, min (a.x + a.w) (b.x + b.w) - max a.x b.x, min (a.y + a.h) (b.y + b.h) - max a.y b.y⟩ := by unfold meetR; rw [h]; rfl
theorem meet_may {a b : Plc} (h : meetB a b = true) : mayB (meetR a b) = true := by
  rw [meetR_yes h]
  obtain ⟨h1, h2, h3, h4⟩ := meetB_iff.1 h
  have ha := mayB_iff.1 h1
  have hb := mayB_iff.1 h2
  apply mayB_iff.2
  show _ ≤ max a.x b.x ∧ max a.x b.x ≤ _ ∧ _ ≤ max a.y b.y ∧ max a.y b.y ≤ _ ∧ _ ≤ min (a.x + a.w) (b.x + b.w) - max a.x b.x ∧ min (a.x + a.w) (b.x + b.w) - max a.x b.x ≤ _ ∧ _ ≤ min (a.y + a.h) (b.y + b.h) - max a.y b.y ∧ min (a.y + a.h) (b.y + b.h) - max a.y b.y ≤ _
  omega
theorem has_meet (a b : Plc) (x y : Int) : hasB (meetR a b) x y = (hasB a x y && hasB b x y) := by
  apply bool_ext
  rw [Bool.and_eq_true, hasB_iff, hasB_iff, hasB_iff]
  cases h : meetB a b with
  | true =>
    rw [meet_may h, meetR_yes h]
    obtain ⟨h1, h2, h3, h4⟩ := meetB_iff.1 h
    show (true = true ∧ max a.x b.x ≤ x ∧ x < max a.x b.x + (min (a.x + a.w) (b.x + b.w) - max a.x b.x) ∧ max a.y b.y ≤ y ∧ y < max a.y b.y + (min (a.y + a.h) (b.y + b.h) - max a.y b.y)) ↔ _
    constructor
    · rintro ⟨_, g1, g2, g3, g4⟩
      exact ⟨⟨h1, by omega, by omega, by omega, by omega⟩, h2, by omega, by omega, by omega, by omega⟩
    · rintro ⟨⟨_, g1, g2, g3, g4⟩, _, k1, k2, k3, k4⟩
      exact ⟨rfl, by omega, by omega, by omega, by omega⟩
  | false =>
    rw [meetR_no h]
    constructor
    · rintro ⟨_, g1, g2, _⟩
      have g1' : (0 : Int) ≤ x := g1
      have g2' : x < 0 + 0 := g2
      omega
    · rintro ⟨⟨m1, g1, g2, g3, g4⟩, m2, k1, k2, k3, k4⟩
      have : meetB a b = true := meetB_iff.2 ⟨m1, m2, by omega, by omega⟩
      rw [h] at this
      cases this
/-! ### made less -/
theorem subOk_t {a b : Int} (h : subOk a b = true) : -1099511627776 ≤ a ∧ a ≤ 1099511627776 ∧ -1099511627776 ≤ b ∧ b ≤ 1099511627776 ∧ -1099511627776 ≤ a - b ∧ a - b ≤ 1099511627776 ∧ sub2 a b = a - b := by
  unfold subOk at h
  simp only [Bool.and_eq_true] at h
  obtain ⟨ha, hb, hs⟩ := h
  unfold sub2
  rw [ok_cl ha, ok_cl hb] at hs ⊢
  rw [ok_cl hs]
  have h1 := ok_iff.1 ha; have h2 := ok_iff.1 hb; have h3 := ok_iff.1 hs
  exact ⟨h1.1, h1.2, h2.1, h2.2, h3.1, h3.2, rfl⟩
theorem subOk_mk {a b : Int} (h1 : -1099511627776 ≤ a) (h2 : a ≤ 1099511627776) (h3 : -1099511627776 ≤ b) (h4 : b ≤ 1099511627776) (h5 : -1099511627776 ≤ a - b) (h6 : a - b ≤ 1099511627776) : subOk a b = true := by
  have oa : ok a = true := ok_iff.2 ⟨h1, h2⟩
  have ob : ok b = true := ok_iff.2 ⟨h3, h4⟩
  have os : ok (a - b) = true := ok_iff.2 ⟨h5, h6⟩
  unfold subOk
  rw [ok_cl oa, ok_cl ob, oa, ob, os]
  rfl
theorem less1_nn (n a b : Int) : 0 ≤ less1 n a b := by unfold less1; split <;> omega
theorem lessOk_t {n a b : Int} (h : lessOk n a b = true) : less1 n a b = n - a - b ∧ 0 ≤ n - a - b ∧ n - a - b ≤ 1099511627776 ∧ -1099511627776 ≤ a ∧ a ≤ 1099511627776 ∧ -1099511627776 ≤ b ∧ b ≤ 1099511627776 := by
  unfold lessOk at h
  simp only [Bool.and_eq_true, Bool.not_eq_true', decide_eq_false_iff_not] at h
  obtain ⟨h0, h1, h2⟩ := h
  obtain ⟨_, _, a1, a2, _, _, e1⟩ := subOk_t h1
  obtain ⟨_, _, b1, b2, _, c2, e2⟩ := subOk_t h2
  rw [e1] at h0 e2 c2
  rw [e2] at h0
  unfold less1
  rw [e1, e2, if_neg h0]
  exact ⟨rfl, by omega, c2, a1, a2, b1, b2⟩
theorem insetOk_t {r : Plc} {a b c d : Int} (h : insetOk r a b c d = true) : mayB r = true ∧ addOk r.x d = true ∧ addOk r.y a = true ∧ lessOk r.w d b = true ∧ lessOk r.h a c = true := by
  unfold insetOk at h
  simp only [Bool.and_eq_true] at h
  obtain ⟨⟨h1, h2, h3⟩, h4, h5⟩ := h
  exact ⟨h1, h2, h3, h4, h5⟩
/-- What was made less exactly. -/
theorem inset_is {r : Plc} {a b c d : Int} (h : insetOk r a b c d = true) :
    insetR r a b c d = ⟨r.x + d, r.y + a, r.w - d - b, r.h - a - c⟩ ∧ mayB ⟨r.x + d, r.y + a, r.w - d - b, r.h - a - c⟩ = true ∧
      -1099511627776 ≤ a ∧ a ≤ 1099511627776 ∧ -1099511627776 ≤ b ∧ b ≤ 1099511627776 ∧ -1099511627776 ≤ c ∧ c ≤ 1099511627776 ∧ -1099511627776 ≤ d ∧ d ≤ 1099511627776 := by
  obtain ⟨h1, h2, h3, h4, h5⟩ := insetOk_t h
  obtain ⟨_, _, d1, d2, x1, x2, e1⟩ := addOk_t h2
  obtain ⟨_, _, a1, a2, y1, y2, e2⟩ := addOk_t h3
  obtain ⟨e3, w1, w2, _, _, b1, b2⟩ := lessOk_t h4
  obtain ⟨e4, k1, k2, _, _, c1, c2⟩ := lessOk_t h5
  unfold insetR
  rw [if_pos h1, e1, e2, e3, e4]
  exact ⟨rfl, mayB_iff.2 ⟨x1, x2, y1, y2, w1, w2, k1, k2⟩, a1, a2, b1, b2, c1, c2, d1, d2⟩
theorem inset_back {r : Plc} {a b c d : Int} (h : insetOk r a b c d = true) (g : insetOk (insetR r a b c d) (-a) (-b) (-c) (-d) = true) : insetR (insetR r a b c d) (-a) (-b) (-c) (-d) = r := by
  rw [(inset_is h).1] at g ⊢
  rw [(inset_is g).1]
  have e1 : r.x + d + -d = r.x := by omega
  have e2 : r.y + a + -a = r.y := by omega
  have e3 : r.w - d - b - -d - -b = r.w := by omega
  have e4 : r.h - a - c - -a - -c = r.h := by omega
  show Plc.mk (r.x + d + -d) (r.y + a + -a) (r.w - d - b - -d - -b) (r.h - a - c - -a - -c) = r
  rw [e1, e2, e3, e4]
theorem inset_none {r : Plc} (h : mayB r = true) : insetOk r 0 0 0 0 = true ∧ insetR r 0 0 0 0 = r := by
  obtain ⟨h1, h2, h3, h4, h5, h6, h7, h8⟩ := mayB_iff.1 h
  have l0 : ∀ n : Int, 0 ≤ n → n ≤ 1099511627776 → lessOk n 0 0 = true := by
    intro n n0 n1
    have s1 : subOk n 0 = true := subOk_mk (by omega) (by omega) (by omega) (by omega) (by omega) (by omega)
    have e1 : sub2 n 0 = n := by rw [(subOk_t s1).2.2.2.2.2.2]; omega
    unfold lessOk
    rw [e1, e1, s1]
    have : decide (n < 0) = false := decide_eq_false (by omega)
    rw [this]; rfl
  have ok0 : insetOk r 0 0 0 0 = true := by
    have o1 : addOk r.x 0 = true := addOk_mk (by omega) (by omega) (by omega) (by omega) (by omega) (by omega)
    have o2 : addOk r.y 0 = true := addOk_mk (by omega) (by omega) (by omega) (by omega) (by omega) (by omega)
    unfold insetOk
    rw [h, o1, o2, l0 _ h5 h6, l0 _ h7 h8]; rfl
  refine ⟨ok0, ?_⟩
  rw [(inset_is ok0).1]
  have e1 : r.x + 0 = r.x := by omega
  have e2 : r.y + 0 = r.y := by omega
  have e3 : r.w - 0 - 0 = r.w := by omega
  have e4 : r.h - 0 - 0 = r.h := by omega
  rw [e1, e2, e3, e4]
theorem inset_nn {r : Plc} (h : mayB r = true) (a b c d : Int) : 0 ≤ (insetR r a b c d).w ∧ 0 ≤ (insetR r a b c d).h := by
  unfold insetR; rw [if_pos h]; exact ⟨less1_nn _ _ _, less1_nn _ _ _⟩
end Go.Proofs.Ytabijoohoofogaa
