/- What follows of Across, Width and Shift, of a style that may be. Conditions: as the theorems' premises say. -/
import Derived.Test.YtfamhjmdffaphaaBlockK
import Derived.Test.YtfamhjmdffaphaaBlockF
import Derived.Test.YtfamhjmdffaphaaFixMath2
namespace Go.Proofs.Ytfamhjmdffaphaa
theorem subOk_iff {a b : Int} (h : subOk a b = true) : sub2 a b = a - b ∧ ok a = true ∧ ok b = true ∧ ok (a - b) = true := by
  unfold subOk at h
  simp only [Bool.and_eq_true] at h
  obtain ⟨h1, h2, h3⟩ := h
  rw [ok_cl h1, ok_cl h2] at h3
  refine ⟨?_, h1, h2, h3⟩
  unfold sub2
  rw [ok_cl h1, ok_cl h2, ok_cl h3]
theorem addOk_is {a b : Int} (h : addOk a b = true) : add2 a b = a + b := by
  unfold addOk at h
  simp only [Bool.and_eq_true] at h
  obtain ⟨h1, h2, h3⟩ := h
  rw [ok_cl h1, ok_cl h2] at h3
  unfold add2
  rw [ok_cl h1, ok_cl h2, ok_cl h3]
theorem has_wide {k : Int} (h : hasP 2 k = true) : k = 1 ∨ k = 2 ∨ k = 3 := by
  rcases kind_has h with rfl | rfl | rfl | rfl | rfl | rfl
  · exact .inl rfl
  · exact .inr (.inl rfl)
  · exact .inr (.inr rfl)
  · exact absurd h (by decide)
  · exact absurd h (by decide)
  · exact absurd h (by decide)
theorem wide_kind {s : Nat → Int} (h : mayS s = true) : (s 4 = 1 ∨ s 4 = 2 ∨ s 4 = 3) ∧ (s 4 = 2 → 0 ≤ s 5 ∧ s 5 ≤ 63999999999) := by
  unfold mayS at h
  rw [Bool.and_eq_true] at h
  have h2 : mayP 2 (s 4) (s 5) = true := mayTo_at h.1 (p := 2) (by omega) (by omega)
  unfold mayP at h2
  rw [Bool.and_eq_true] at h2
  obtain ⟨a, b⟩ := h2
  refine ⟨has_wide a, fun h => ?_⟩
  rw [if_neg (by omega), if_neg (by omega), if_neg (by omega)] at b
  have b := of_decide_eq_true b
  rcases b.2 with h2 | ⟨h2, -⟩
  · omega
  · exact absurd h2 (by decide)
theorem wid_bd {s : Nat → Int} (h : mayS s = true) (room : Int) : -1099511627776 ≤ (widF s room).1 ∧ (widF s room).1 ≤ 1099511627776 := by
  obtain ⟨h1, h2⟩ := wide_kind h
  unfold widF
  by_cases e : s 4 = 2
  · rw [if_pos e]; have := h2 e; simp only; omega
  · rw [if_neg e]
    by_cases e3 : s 4 = 3
    · rw [if_pos e3]
      simp only
      unfold part2
      split
      · exact ⟨cl_lo _, cl_hi _⟩
      · omega
    · rw [if_neg e3]
      have : sub2 room (togF (ofF s) 3 1).1 ≤ 1099511627776 := cl_hi _
      simp only
      omega
theorem tog_bd (m : Nat → Int) (i j : Nat) : -1099511627776 ≤ (togF m i j).1 ∧ (togF m i j).1 ≤ 1099511627776 := by
  unfold togF sixL sumL
  simp only [List.foldl_cons, List.foldl_nil]
  exact ⟨cl_lo _, cl_hi _⟩
theorem wid_auto {s : Nat → Int} (h : s 4 = 1) (room : Int) : 0 ≤ (widF s room).1 ∧ ((togF (ofF s) 3 1).2 = true → (widF s room).2 = true → (togF (ofF s) 3 1).1 ≤ room → (widF s room).1 + (togF (ofF s) 3 1).1 = room) := by
  unfold widF
  rw [if_neg (by omega), if_neg (by omega)]
  simp only
  refine ⟨by omega, fun h1 h2 h3 => ?_⟩
  rw [h1, Bool.true_and] at h2
  obtain ⟨a, -, -, -⟩ := subOk_iff h2
  rw [a]
  omega
/-- What an exact Shift is, where the width isn't auto. -/
theorem shi_is {s : Nat → Int} {room wide : Int} (h4 : s 4 ≠ 1) (h : (shiF s room wide).2 = true) :
    (s 14 ≠ 1 → (shiF s room wide).1 = ofF s 3) ∧ (s 14 = 1 → room - wide - (togF (ofF s) 3 1).1 ≤ 0 → (shiF s room wide).1 = 0) ∧
    (s 14 = 1 → 0 < room - wide - (togF (ofF s) 3 1).1 → s 10 = 1 → (shiF s room wide).1 = (room - wide - (togF (ofF s) 3 1).1) / 2) ∧
    (s 14 = 1 → 0 < room - wide - (togF (ofF s) 3 1).1 → s 10 ≠ 1 → (shiF s room wide).1 = room - wide - (togF (ofF s) 3 1).1) := by
  unfold shiF at *
  by_cases h14 : s 14 = 1
  · have e : ¬ (s 4 = 1 ∨ s 14 ≠ 1) := by omega
    rw [if_neg e] at h ⊢
    have l7 : lenS s 7 = 0 := by unfold lenS lenF; rw [if_neg (by rw [show 2 * 7 = 14 from rfl]; omega)]
    by_cases hr : room ≤ add2 wide (togF (ofF s) 3 1).1
    · rw [if_pos hr] at h ⊢
      simp only [Bool.and_eq_true] at h
      rw [addOk_is h.2] at hr
      simp only [l7]
      refine ⟨fun h => absurd h14 h, fun _ _ => trivial, fun _ h => ?_, fun _ h => ?_⟩ <;> omega
    · rw [if_neg hr] at h ⊢
      simp only [Bool.and_eq_true] at h
      obtain ⟨⟨a1, a2⟩, a3⟩ := h
      rw [addOk_is a2] at hr a3 ⊢
      obtain ⟨b1, -, -, -⟩ := subOk_iff a3
      rw [b1]
      refine ⟨fun h => absurd h14 h, fun _ h => ?_, fun _ h1 h10 => ?_, fun _ h1 h10 => ?_⟩
      · omega
      · simp only [if_pos h10]
        rw [Int.tdiv_eq_ediv_of_nonneg (by omega)]
        congr 1
        omega
      · simp only [if_neg h10]
        omega
  · have e : s 4 = 1 ∨ s 14 ≠ 1 := .inr h14
    rw [if_pos e]
    refine ⟨fun _ => rfl, fun h => absurd h h14, fun h => absurd h h14, fun h => absurd h h14⟩
end Go.Proofs.Ytfamhjmdffaphaa
