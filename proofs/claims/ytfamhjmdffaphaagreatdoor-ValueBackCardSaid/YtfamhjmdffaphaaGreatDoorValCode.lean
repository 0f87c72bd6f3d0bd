/- The landed code of package value: what its small functions answer. Conditions: none. -/
import Derived.Test.YtfamhjmdffaphaaGreatDoorValC
namespace Go.Proofs.YtfamhjmdffaphaaGreatDoor
open Go.ChangeShapes Go.WideShapes Go.ChangeAt Go.RowKit
namespace Val
set_option maxHeartbeats 4000000 in
theorem passed_any : PassedC := by
  intro p w
  by_cases h1 : p = 16
  · subst h1
    go_enter Tryz.func20, Tryz.ntmps20
    go_wp2
    go_ret
    exact ⟨rfl, Below.refl _ _⟩
  · by_cases h2 : p = 18
    · subst h2
      go_enter Tryz.func20, Tryz.ntmps20
      go_wp2
      go_ret
      exact ⟨rfl, Below.refl _ _⟩
    · have e : decide (p = 16 ∨ p = 18 ∨ p = 19) = decide (p = 19) := by
        by_cases h : p = 19
        · rw [decide_eq_true h, decide_eq_true (.inr (.inr h))]
        · rw [decide_eq_false h, decide_eq_false (by omega)]
      have q : (p == 19) = decide (p = 19) := by
        by_cases h : p = 19
        · rw [decide_eq_true h, h]; rfl
        · rw [decide_eq_false h, beq_eq_false_iff_ne]; exact h
      rw [e, ← q]
      have q1 : (p == 16) = false := beq_eq_false_iff_ne.2 h1
      have q2 : (p == 18) = false := beq_eq_false_iff_ne.2 h2
      go_enter Tryz.func20, Tryz.ntmps20
      go_wp2
      go_ret
      exact ⟨rfl, Below.refl _ _⟩
end Val
end Go.Proofs.YtfamhjmdffaphaaGreatDoor
