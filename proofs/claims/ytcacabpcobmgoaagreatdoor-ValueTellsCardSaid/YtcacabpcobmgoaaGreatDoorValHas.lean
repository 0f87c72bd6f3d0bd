/- kinds.has, of the landed code of package value. Conditions: the set is one of those that sorts have. -/
import Derived.Test.YtcacabpcobmgoaaGreatDoorValC
namespace Go.Proofs.YtcacabpcobmgoaaGreatDoor
open Go.ChangeShapes Go.WideShapes Go.ChangeAt Go.RowKit
namespace Val
def hasK (k j : Int) : Bool := if j = 1 then decide (k = 14 ∨ k = 6) else if j = 2 then decide (k = 14 ∨ k = 6 ∨ k = 4) else if j = 3 then decide (k = 14) else if j = 4 then decide (k = 16) else if j = 5 then decide (k = 32) else if j = 6 then decide (k = 64) else false
set_option maxHeartbeats 8000000 in
theorem has_any (k j : Int) (hk : k = 0 ∨ k = 4 ∨ k = 6 ∨ k = 14 ∨ k = 16 ∨ k = 32 ∨ k = 64) (w : World) :
    Calls Tryz.prog 30 #[.int .i64 k, .int .i64 j] w fun e w' => e = .returned (.bool (hasK k j)) ∧ w' = w := by
  by_cases h0 : j ≤ 0
  · have e : hasK k j = false := by unfold hasK; repeat rw [if_neg (by omega)]
    rw [e]
    go_enter Tryz.func30, Tryz.ntmps30
    go_wp2
    go_ret
    exact ⟨rfl, rfl⟩
  · by_cases h7 : 6 < j
    · have e : hasK k j = false := by unfold hasK; repeat rw [if_neg (by omega)]
      rw [e]
      go_enter Tryz.func30, Tryz.ntmps30
      go_wp2
      go_ret
      exact ⟨rfl, rfl⟩
    · have hj : j = 1 ∨ j = 2 ∨ j = 3 ∨ j = 4 ∨ j = 5 ∨ j = 6 := by omega
      clear h0 h7
      rcases hj with rfl | rfl | rfl | rfl | rfl | rfl <;> rcases hk with rfl | rfl | rfl | rfl | rfl | rfl | rfl
      all_goals
        go_enter Tryz.func30, Tryz.ntmps30
        go_wp2
        go_ret
        exact ⟨rfl, rfl⟩
end Val
end Go.Proofs.YtcacabpcobmgoaaGreatDoor
