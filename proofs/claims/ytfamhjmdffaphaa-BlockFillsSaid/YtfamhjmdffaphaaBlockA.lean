/- What Meet of package block answers. Conditions: none. -/
import Derived.Test.YtfamhjmdffaphaaFxAdd
namespace Go.Proofs.Ytfamhjmdffaphaa
open Go.ChangeShapes Go.WideShapes Go.ChangeAt Go.RowKit
def meetF (a b : Int) : Int × Bool := if 0 ≤ a ∧ 0 ≤ b then (max a b, true) else if a < 0 ∧ b < 0 then (min a b, true) else (add2 a b, addOk a b)
theorem meet_any (a b : Int) (w : World) : Calls Try.prog 11 #[.int .i64 a, .int .i64 b] w fun e w' => e = .returned (.tuple #[.int .i64 (meetF a b).1, .bool (meetF a b).2]) ∧ w = w' := by
  have ad := fun w => add_any a b w
  by_cases ha : 0 ≤ a
  · by_cases hb : 0 ≤ b
    · have e : meetF a b = (max a b, true) := by unfold meetF; rw [if_pos ⟨ha, hb⟩]
      rw [e]
      clear e ad
      go_enter Try.func11, Try.ntmps11
      go_wp2
      all_goals go_ret2
      all_goals first
        | exact ⟨by rw [show max a b = b by omega]; rfl, rfl⟩
        | exact ⟨by rw [show max a b = a by omega]; rfl, rfl⟩
    · have e : meetF a b = (add2 a b, addOk a b) := by unfold meetF; rw [if_neg (by omega), if_neg (by omega)]
      rw [e]
      clear e
      generalize add2 a b = x at *
      generalize addOk a b = o at *
      have hb1 : b < 0 := by omega
      have ha1 : ¬ a < 0 := by omega
      go_enter Try.func11, Try.ntmps11
      go_wp2_with (go_at_call 20; (with_reducible refine (ad _).mono ?_); rintro e w' ⟨rfl, rfl⟩)
      go_ret2
      exact ⟨rfl, rfl⟩
  · have ha1 : a < 0 := by omega
    by_cases hb : b < 0
    · have e : meetF a b = (min a b, true) := by unfold meetF; rw [if_neg (by omega), if_pos ⟨ha1, hb⟩]
      rw [e]
      clear e ad
      go_enter Try.func11, Try.ntmps11
      go_wp2
      all_goals go_ret2
      all_goals first
        | exact ⟨by rw [show min a b = b by omega]; rfl, rfl⟩
        | exact ⟨by rw [show min a b = a by omega]; rfl, rfl⟩
    · have e : meetF a b = (add2 a b, addOk a b) := by unfold meetF; rw [if_neg (by omega), if_neg (by omega)]
      rw [e]
      clear e
      generalize add2 a b = x at *
      generalize addOk a b = o at *
      go_enter Try.func11, Try.ntmps11
      go_wp2_with (go_at_call 20; (with_reducible refine (ad _).mono ?_); rintro e w' ⟨rfl, rfl⟩)
      go_ret2
      exact ⟨rfl, rfl⟩
end Go.Proofs.Ytfamhjmdffaphaa
