/- More of the plain mathematics of clamped numbers: either way, there and back, rising, and parts of a whole. Conditions: none. -/
import Derived.Test.YtfamhjmdffaphaaFixMath
namespace Go.Proofs.Ytfamhjmdffaphaa
theorem add2_comm (a b : Int) : add2 b a = add2 a b := by unfold add2; rw [Int.add_comm]
theorem addOk_comm (a b : Int) : addOk b a = addOk a b := by
  unfold addOk; rw [Int.add_comm (cl b)]; cases ok a <;> cases ok b <;> rfl
theorem mul2_comm (a b : Int) : mul2 b a = mul2 a b := by unfold mul2 prod; rw [Int.mul_comm]
theorem mulOk_comm (a b : Int) : mulOk b a = mulOk a b := by
  unfold mulOk prod; rw [Int.mul_comm (cl b)]; cases ok a <;> cases ok b <;> rfl
theorem addOk_t {a b : Int} (h : addOk a b = true) : -1099511627776 ≤ a ∧ a ≤ 1099511627776 ∧ -1099511627776 ≤ b ∧ b ≤ 1099511627776 ∧ -1099511627776 ≤ a + b ∧ a + b ≤ 1099511627776 ∧ add2 a b = a + b := by
  unfold addOk at h
  simp only [Bool.and_eq_true] at h
  obtain ⟨ha, hb, hs⟩ := h
  unfold add2
  rw [ok_cl ha, ok_cl hb] at hs ⊢
  rw [ok_cl hs]
  have h1 := ok_iff.1 ha; have h2 := ok_iff.1 hb; have h3 := ok_iff.1 hs
  exact ⟨h1.1, h1.2, h2.1, h2.2, h3.1, h3.2, rfl⟩
theorem sub_back {a b : Int} (h : addOk a b = true) : sub2 (a + b) b = a ∧ subOk (a + b) b = true := by
  obtain ⟨h1, h2, h3, h4, h5, h6, _⟩ := addOk_t h
  have oa : ok a = true := ok_iff.2 ⟨h1, h2⟩
  have ob : ok b = true := ok_iff.2 ⟨h3, h4⟩
  have os : ok (a + b) = true := ok_iff.2 ⟨h5, h6⟩
  have e : a + b - b = a := by omega
  unfold sub2 subOk
  rw [os, ob, ok_cl os, ok_cl ob, e, oa, ok_cl oa]
  exact ⟨rfl, rfl⟩
theorem part2_bd (a num den : Int) : -1099511627776 ≤ part2 a num den ∧ part2 a num den ≤ 1099511627776 := by
  unfold part2; split
  · exact ⟨cl_lo _, cl_hi _⟩
  · exact ⟨by decide, by decide⟩
theorem tdiv_mono {a b : Int} {d : Int} (hd : 0 < d) (h : a ≤ b) : a.tdiv d ≤ b.tdiv d := by
  rcases Int.lt_or_le a 0 with ha | ha
  · rcases Int.lt_or_le b 0 with hb | hb
    · obtain ⟨x, rfl⟩ : ∃ x, a = -x := ⟨-a, by omega⟩
      obtain ⟨y, rfl⟩ : ∃ y, b = -y := ⟨-b, by omega⟩
      rw [Int.neg_tdiv, Int.neg_tdiv, Int.tdiv_eq_ediv_of_nonneg (by omega), Int.tdiv_eq_ediv_of_nonneg (by omega)]
      have := Int.ediv_le_ediv hd (show y ≤ x by omega)
      omega
    · obtain ⟨x, rfl⟩ : ∃ x, a = -x := ⟨-a, by omega⟩
      rw [Int.neg_tdiv, Int.tdiv_eq_ediv_of_nonneg (by omega), Int.tdiv_eq_ediv_of_nonneg hb]
      have h1 := Int.ediv_nonneg (show 0 ≤ x by omega) (show 0 ≤ d by omega)
      have h2 := Int.ediv_nonneg hb (show 0 ≤ d by omega)
      omega
  · rw [Int.tdiv_eq_ediv_of_nonneg ha, Int.tdiv_eq_ediv_of_nonneg (by omega)]
    exact Int.ediv_le_ediv hd h
theorem add2_mono {a b : Int} (c : Int) (h : a ≤ b) : add2 a c ≤ add2 b c := by
  unfold add2; exact cl_mono (by have := cl_mono h; omega)
theorem mul2_mono {a b : Int} {c : Int} (hc : 0 ≤ c) (h : a ≤ b) : mul2 a c ≤ mul2 b c := by
  have h0 : 0 ≤ cl c := by have : cl 0 ≤ cl c := cl_mono hc; rwa [show cl 0 = 0 from by decide] at this
  unfold mul2 prod
  exact cl_mono (tdiv_mono (by decide) (Int.mul_le_mul_of_nonneg_right (cl_mono h) h0))
theorem part2_mono {a b : Int} (num den : Int) (h : a ≤ b) : part2 a num den ≤ part2 b num den := by
  unfold part2
  split
  · rename_i hm
    obtain ⟨h1, _, h3, _⟩ := of_decide_eq_true hm
    exact cl_mono (tdiv_mono (by omega) (Int.mul_le_mul_of_nonneg_right (cl_mono h) h1))
  · exact Int.le_refl _
/-- A part and the rest of what isn't below 0. -/
theorem parts_whole {a num den : Int} (h1 : 0 ≤ a) (h2 : a ≤ 1099511627776) (h3 : 0 ≤ num) (h4 : num ≤ den) (h5 : 1 ≤ den) (h6 : den ≤ 1048576) :
    partOk a num den = true ∧ partOk a (den - num) den = true ∧ partOk a den den = true ∧ part2 a den den = a ∧ 0 ≤ part2 a num den ∧ 0 ≤ part2 a (den - num) den ∧
      part2 a num den + part2 a (den - num) den ≤ a ∧ a - 1 ≤ part2 a num den + part2 a (den - num) den := by
  have oa : ok a = true := ok_iff.2 ⟨by omega, by omega⟩
  have ca : cl a = a := ok_cl oa
  have key : ∀ m, 0 ≤ m → m ≤ den → partOk a m den = true ∧ part2 a m den = a * m / den ∧ 0 ≤ a * m / den := by
    intro m m0 m1
    have hm : mayPart m den = true := decide_eq_true ⟨m0, by omega, h5, h6⟩
    have hp : 0 ≤ a * m := Int.mul_nonneg h1 m0
    have hle : a * m / den ≤ a := by
      have e : a * m ≤ a * den := Int.mul_le_mul_of_nonneg_left m1 h1
      have := Int.ediv_le_ediv (show 0 < den by omega) e
      rwa [Int.mul_ediv_cancel _ (by omega)] at this
    have hge : 0 ≤ a * m / den := Int.ediv_nonneg hp (by omega)
    have oq : ok (a * m / den) = true := ok_iff.2 ⟨by omega, by omega⟩
    unfold partOk part2
    rw [if_pos hm, if_pos hm, ca, Int.tdiv_eq_ediv_of_nonneg hp, oq, oa, ok_cl oq]
    exact ⟨rfl, rfl, hge⟩
  obtain ⟨k1, k2, k3⟩ := key num h3 h4
  obtain ⟨l1, l2, l3⟩ := key (den - num) (by omega) (by omega)
  obtain ⟨n1, n2, _⟩ := key den (by omega) (by omega)
  rw [Int.mul_ediv_cancel _ (by omega)] at n2
  rw [k2, l2]
  have hs : a * num + a * (den - num) = a * den := by rw [← Int.mul_add]; congr 1; omega
  generalize a * num = x at hs k3 ⊢
  generalize a * (den - num) = y at hs l3 ⊢
  have dx := Int.mul_ediv_add_emod x den
  have dy := Int.mul_ediv_add_emod y den
  have rx0 := Int.emod_nonneg x (show den ≠ 0 by omega)
  have ry0 := Int.emod_nonneg y (show den ≠ 0 by omega)
  have rx := Int.emod_lt_of_pos x (show 0 < den by omega)
  have ry := Int.emod_lt_of_pos y (show 0 < den by omega)
  have e : den * (x / den + y / den) + (x % den + y % den) = den * a := by rw [Int.mul_add, Int.mul_comm den a]; omega
  refine ⟨k1, l1, n1, n2, k3, l3, ?_, ?_⟩
  · have : den * (x / den + y / den) ≤ den * a := by omega
    exact Int.le_of_mul_le_mul_left this (by omega)
  · have h7 : den * a < den * (x / den + y / den + 2) := by rw [Int.mul_add den (x / den + y / den) 2]; omega
    have := Int.lt_of_mul_lt_mul_left h7 (by omega)
    omega
end Go.Proofs.Ytfamhjmdffaphaa
