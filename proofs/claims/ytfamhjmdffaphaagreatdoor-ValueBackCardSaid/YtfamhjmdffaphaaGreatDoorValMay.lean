/- What May answers, of the landed code of package value, from what scan.Words answers. Conditions: that. -/
import Derived.Test.YtfamhjmdffaphaaGreatDoorValProp
import Derived.Test.YtfamhjmdffaphaaGreatDoorValHas
import Derived.Deep.RegionHeld3
namespace Go.Proofs.YtfamhjmdffaphaaGreatDoor
open Go.ChangeShapes Go.WideShapes Go.ChangeAt Go.RowKit
namespace Val
theorem kindsF : ∀ i : Fin 27, kindsT.getD i.val 0 = 0 ∨ kindsT.getD i.val 0 = 4 ∨ kindsT.getD i.val 0 = 6 ∨ kindsT.getD i.val 0 = 14 ∨ kindsT.getD i.val 0 = 16 ∨ kindsT.getD i.val 0 = 32 ∨ kindsT.getD i.val 0 = 64 := by decide
theorem kinds_ok (p : Int) : kindsN p = 0 ∨ kindsN p = 4 ∨ kindsN p = 6 ∨ kindsN p = 14 ∨ kindsN p = 16 ∨ kindsN p = 32 ∨ kindsN p = 64 := by
  unfold kindsN
  split
  · exact kindsF ⟨p.toNat, by omega⟩
  · exact Or.inl rfl
theorem has_1 : ∀ i : Fin 27, hasK (kindsN i.val) 1 = hasP i.val 1 := by decide
theorem has_2 : ∀ i : Fin 27, hasK (kindsN i.val) 2 = hasP i.val 2 := by decide
theorem has_3 : ∀ i : Fin 27, hasK (kindsN i.val) 3 = hasP i.val 3 := by decide
theorem has_4 : ∀ i : Fin 27, hasK (kindsN i.val) 4 = hasP i.val 4 := by decide
theorem has_5 : ∀ i : Fin 27, hasK (kindsN i.val) 5 = hasP i.val 5 := by decide
theorem has_6 : ∀ i : Fin 27, hasK (kindsN i.val) 6 = hasP i.val 6 := by decide
theorem least_F : ∀ i : Fin 27, leastN i.val = if belowP i.val = true then -63999999999 else 0 := by decide
theorem words_F : ∀ i : Fin 27, wordsF (wordsB i.val) = wordsP i.val := by decide
theorem has_ranges {p k : Int} (h : hasP p k = true) : (1 ≤ k ∧ k ≤ 6) ∧ 1 ≤ p ∧ p < 27 := by
  unfold hasP at h
  repeat (split at h; (· have := of_decide_eq_true h; omega))
  cases h
theorem has_eq (p k : Int) : hasK (kindsN p) k = hasP p k := by
  by_cases hp : 0 ≤ p ∧ p < 27
  · have hpi : p = ((⟨p.toNat, by omega⟩ : Fin 27).val : Int) := by simp only; omega
    by_cases hk : 1 ≤ k ∧ k ≤ 6
    · rw [hpi]
      rcases (by omega : k = 1 ∨ k = 2 ∨ k = 3 ∨ k = 4 ∨ k = 5 ∨ k = 6) with rfl | rfl | rfl | rfl | rfl | rfl
      · exact has_1 _
      · exact has_2 _
      · exact has_3 _
      · exact has_4 _
      · exact has_5 _
      · exact has_6 _
    · unfold hasK hasP
      repeat rw [if_neg (by omega)]
  · have h0 : kindsN p = 0 := by unfold kindsN; rw [if_neg hp]
    have h1 : hasP p k = false := by
      rw [← Bool.not_eq_true]
      intro h
      have := has_ranges h
      omega
    rw [h0, h1]
    unfold hasK
    repeat (split; (· rfl))
    rfl
theorem least_eq {p : Int} (h0 : 0 ≤ p) (h1 : p < 27) : leastN p = if belowP p = true then -63999999999 else 0 := by
  have hpi : p = ((⟨p.toNat, by omega⟩ : Fin 27).val : Int) := by simp only; omega
  rw [hpi]
  exact least_F _
theorem words_eq {p : Int} (h0 : 0 ≤ p) (h1 : p < 27) : wordsF (wordsB p) = wordsP p := by
  have hpi : p = ((⟨p.toNat, by omega⟩ : Fin 27).val : Int) := by simp only; omega
  rw [hpi]
  exact words_F _
end Val
end Go.Proofs.YtfamhjmdffaphaaGreatDoor
