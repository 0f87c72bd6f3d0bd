/- The plain mathematics of the document's product, bit by bit, and of its parts. Conditions: none. -/
import Derived.Test.YtlokmmhdoocmeaaFixMath2
namespace Go.Proofs.Ytlokmmhdoocmeaa
/-- A number of units, cut at twice the greatest. -/
def cut2 (n : Int) : Int := if n ≤ 2199023255552 then n else 2199023255552
theorem cut2_step {H n r b H' bit : Int} (hb : 0 ≤ b) (hH : 0 ≤ H) (hn : n = cut2 (H / 64)) (hr0 : 0 ≤ r) (hr1 : r < 64) (hr : H / 64 ≤ 2199023255552 → r = H % 64)
    (hbit : bit = 0 ∨ bit = 1) (hH' : H' = 2 * H + bit * b) :
    (if 2 * n + bit * (b / 64) + (2 * r + bit * (b % 64)) / 64 ≤ 2199023255552 then 2 * n + bit * (b / 64) + (2 * r + bit * (b % 64)) / 64 else 2199023255552) = cut2 (H' / 64) ∧
      (H' / 64 ≤ 2199023255552 → (2 * r + bit * (b % 64)) % 64 = H' % 64) := by
  unfold cut2 at hn ⊢
  rcases hbit with rfl | rfl
  · simp only [Int.zero_mul, Int.add_zero] at hH' ⊢
    subst hH'
    by_cases h : H / 64 ≤ 2199023255552
    · rw [if_pos h] at hn
      have := hr h
      refine ⟨?_, fun _ => by omega⟩
      have e : 2 * n + 2 * r / 64 = 2 * H / 64 := by omega
      rw [e]
    · rw [if_neg h] at hn
      refine ⟨?_, fun _ => by omega⟩
      rw [if_neg (by omega), if_neg (by omega)]
  · simp only [Int.one_mul] at hH' ⊢
    subst hH'
    by_cases h : H / 64 ≤ 2199023255552
    · rw [if_pos h] at hn
      have := hr h
      refine ⟨?_, fun _ => by omega⟩
      have e : 2 * n + b / 64 + (2 * r + b % 64) / 64 = (2 * H + b) / 64 := by omega
      rw [e]
    · rw [if_neg h] at hn
      refine ⟨?_, fun _ => by omega⟩
      rw [if_neg (by omega), if_neg (by omega)]
theorem cut2_bd (n : Int) (h : 0 ≤ n) : 0 ≤ cut2 n ∧ cut2 n ≤ 2199023255552 := by unfold cut2; split <;> omega
theorem half_pow (x t : Nat) : x / 2 ^ t = 2 * (x / 2 ^ (t + 1)) + x / 2 ^ t % 2 := by
  rw [Nat.pow_succ, ← Nat.div_div_eq_div_mul]; omega
theorem pow_half (x t : Nat) : x / 2 ^ t / 2 = x / 2 ^ (t + 1) := by rw [Nat.pow_succ, Nat.div_div_eq_div_mul]
theorem pow_le (x t : Nat) : x / 2 ^ t ≤ x := Nat.div_le_self _ _
/-- Of the cut product the sign and the clamp make what the whole one's do. -/
theorem cut2_prod (a b : Int) :
    cl (if decide (a < 0) = decide (b < 0) then cut2 ((a.natAbs * b.natAbs : Nat) / 64 : Int) else - cut2 ((a.natAbs * b.natAbs : Nat) / 64 : Int)) = cl (prod a b) ∧
      ok (if decide (a < 0) = decide (b < 0) then cut2 ((a.natAbs * b.natAbs : Nat) / 64 : Int) else - cut2 ((a.natAbs * b.natAbs : Nat) / 64 : Int)) = ok (prod a b) := by
  have hp : (prod a b = if decide (a < 0) = decide (b < 0) then ((a.natAbs * b.natAbs : Nat) / 64 : Int) else - ((a.natAbs * b.natAbs : Nat) / 64 : Int)) := by
    have e : (a.natAbs * b.natAbs : Nat) = (a.natAbs : Int) * (b.natAbs : Int) := by simp
    unfold prod
    split
    · rename_i h
      have e2 : a * b = ((a.natAbs * b.natAbs : Nat) : Int) := by
        rw [Int.natCast_mul]
        by_cases ha : a < 0
        · have hb : b < 0 := by rw [decide_eq_true ha] at h; exact of_decide_eq_true h.symm
          rw [Int.ofNat_natAbs_of_nonpos (by omega), Int.ofNat_natAbs_of_nonpos (by omega), Int.neg_mul_neg]
        · have hb : ¬ b < 0 := by rw [decide_eq_false ha] at h; exact of_decide_eq_false h.symm
          rw [Int.natAbs_of_nonneg (by omega), Int.natAbs_of_nonneg (by omega)]
      rw [e2]; exact Int.tdiv_eq_ediv_of_nonneg (by omega)
    · rename_i h
      have e2 : a * b = - ((a.natAbs * b.natAbs : Nat) : Int) := by
        rw [Int.natCast_mul]
        by_cases ha : a < 0
        · have hb : ¬ b < 0 := fun hb => h (by rw [decide_eq_true ha, decide_eq_true hb])
          rw [Int.ofNat_natAbs_of_nonpos (by omega), Int.natAbs_of_nonneg (a := b) (by omega), Int.neg_mul, Int.neg_neg]
        · have hb : b < 0 := by
            by_cases hb : b < 0
            · exact hb
            · exact absurd (by rw [decide_eq_false ha, decide_eq_false hb]) h
          rw [Int.natAbs_of_nonneg (by omega), Int.ofNat_natAbs_of_nonpos (a := b) (by omega), Int.mul_neg, Int.neg_neg]
      rw [e2, Int.neg_tdiv, Int.tdiv_eq_ediv_of_nonneg (by omega)]
  rw [hp]
  clear hp
  have h0 : 0 ≤ ((a.natAbs * b.natAbs : Nat) / 64 : Int) := by omega
  generalize ((a.natAbs * b.natAbs : Nat) / 64 : Int) = q at h0 ⊢
  by_cases hq : q ≤ 2199023255552
  · have e : cut2 q = q := by unfold cut2; rw [if_pos hq]
    rw [e]; exact ⟨rfl, rfl⟩
  · have e : cut2 q = 2199023255552 := by unfold cut2; rw [if_neg hq]
    rw [e]
    split
    · rcases cl_eq q with ⟨_, h1, h2⟩ | ⟨_, _, _⟩ | ⟨_, _, _, _⟩
      · rw [h1, h2]; exact ⟨by decide, by decide⟩
      · omega
      · omega
    · rcases cl_eq (-q) with ⟨_, _, _⟩ | ⟨_, h1, h2⟩ | ⟨_, _, _, _⟩
      · omega
      · rw [h1, h2]; exact ⟨by decide, by decide⟩
      · omega
/-- A part of a size, by its whole parts and what is left. -/
theorem part_split {s num den : Int} (hd : 1 ≤ den) : s / den * num + s % den * num / den = s * num / den := by
  have e : s * num = den * (s / den * num) + s % den * num := by
    have := Int.mul_ediv_add_emod s den
    calc s * num = (den * (s / den) + s % den) * num := by rw [this]
      _ = den * (s / den * num) + s % den * num := by rw [Int.add_mul, Int.mul_assoc]
  rw [e, Int.add_comm (den * _), Int.add_mul_ediv_left _ _ (by omega), Int.add_comm]
theorem part_sign (a num den : Int) : (a * num).tdiv den = if a < 0 then - ((a.natAbs : Int) * num).tdiv den else ((a.natAbs : Int) * num).tdiv den := by
  split
  · rw [Int.ofNat_natAbs_of_nonpos (by omega), ← Int.neg_tdiv, Int.neg_mul, Int.neg_neg]
  · rw [Int.natAbs_of_nonneg (by omega)]
end Go.Proofs.Ytlokmmhdoocmeaa
