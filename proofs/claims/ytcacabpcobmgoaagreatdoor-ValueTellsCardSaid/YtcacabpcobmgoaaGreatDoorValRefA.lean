/- Small functions of the document's own answers of layer 8. Conditions: none. -/
import Derived.Test.YtcacabpcobmgoaaGreatDoorValC
namespace Go.Proofs.YtcacabpcobmgoaaGreatDoor
open Go.ChangeShapes Go.WideShapes Go.ChangeAt Go.RowKit
namespace Val
theorem range_cases {p : Int} (h1 : 1 ≤ p) (h2 : p ≤ 26) : p = 1 ∨ p = 2 ∨ p = 3 ∨ p = 4 ∨ p = 5 ∨ p = 6 ∨ p = 7 ∨ p = 8 ∨ p = 9 ∨ p = 10 ∨ p = 11 ∨ p = 12 ∨ p = 13 ∨ p = 14 ∨ p = 15 ∨ p = 16 ∨ p = 17 ∨ p = 18 ∨ p = 19 ∨ p = 20 ∨ p = 21 ∨ p = 22 ∨ p = 23 ∨ p = 24 ∨ p = 25 ∨ p = 26 := by omega
set_option maxHeartbeats 8000000 in
theorem rhas_any (p j : Int) (w : World) :
    Calls Tryz.prog 32 #[.int .i64 p, .int .i64 j] w fun e w' => e = .returned (.bool (hasP p j)) ∧ w' = w := by
  by_cases hj : j = 1 ∨ j = 2 ∨ j = 3 ∨ j = 4 ∨ j = 5 ∨ j = 6
  · by_cases h1 : p < 1
    · have e : hasP p j = false := by
        cases h : hasP p j with
        | false => rfl
        | true => have := range_has h; omega
      rw [e]
      clear e
      have f1 : (p == 1) = false := beq_eq_false_iff_ne.2 (by omega)
      have f2 : (p == 2) = false := beq_eq_false_iff_ne.2 (by omega)
      have f3 : (p == 3) = false := beq_eq_false_iff_ne.2 (by omega)
      have f16 : (p == 16) = false := beq_eq_false_iff_ne.2 (by omega)
      have f17 : (p == 17) = false := beq_eq_false_iff_ne.2 (by omega)
      have f18 : (p == 18) = false := beq_eq_false_iff_ne.2 (by omega)
      have f19 : (p == 19) = false := beq_eq_false_iff_ne.2 (by omega)
      have f20 : (p == 20) = false := beq_eq_false_iff_ne.2 (by omega)
      have f21 : (p == 21) = false := beq_eq_false_iff_ne.2 (by omega)
      have f22 : (p == 22) = false := beq_eq_false_iff_ne.2 (by omega)
      have f23 : (p == 23) = false := beq_eq_false_iff_ne.2 (by omega)
      have f24 : (p == 24) = false := beq_eq_false_iff_ne.2 (by omega)
      have f25 : (p == 25) = false := beq_eq_false_iff_ne.2 (by omega)
      have f26 : (p == 26) = false := beq_eq_false_iff_ne.2 (by omega)
      rcases hj with rfl | rfl | rfl | rfl | rfl | rfl
      all_goals
        go_enter Tryz.func32, Tryz.ntmps32
        go_wp2
        go_ret
        exact ⟨rfl, rfl⟩
    · by_cases h2 : 26 < p
      · have e : hasP p j = false := by
          cases h : hasP p j with
          | false => rfl
          | true => have := range_has h; omega
        rw [e]
        clear e
        have f1 : (p == 1) = false := beq_eq_false_iff_ne.2 (by omega)
        have f2 : (p == 2) = false := beq_eq_false_iff_ne.2 (by omega)
        have f3 : (p == 3) = false := beq_eq_false_iff_ne.2 (by omega)
        have f16 : (p == 16) = false := beq_eq_false_iff_ne.2 (by omega)
        have f17 : (p == 17) = false := beq_eq_false_iff_ne.2 (by omega)
        have f18 : (p == 18) = false := beq_eq_false_iff_ne.2 (by omega)
        have f19 : (p == 19) = false := beq_eq_false_iff_ne.2 (by omega)
        have f20 : (p == 20) = false := beq_eq_false_iff_ne.2 (by omega)
        have f21 : (p == 21) = false := beq_eq_false_iff_ne.2 (by omega)
        have f22 : (p == 22) = false := beq_eq_false_iff_ne.2 (by omega)
        have f23 : (p == 23) = false := beq_eq_false_iff_ne.2 (by omega)
        have f24 : (p == 24) = false := beq_eq_false_iff_ne.2 (by omega)
        have f25 : (p == 25) = false := beq_eq_false_iff_ne.2 (by omega)
        have f26 : (p == 26) = false := beq_eq_false_iff_ne.2 (by omega)
        have g7 : decide (p ≤ 7) = false := decide_eq_false (by omega)
        have g15 : decide (p ≤ 15) = false := decide_eq_false (by omega)
        rcases hj with rfl | rfl | rfl | rfl | rfl | rfl
        all_goals
          go_enter Tryz.func32, Tryz.ntmps32
          go_wp2
          go_ret
          exact ⟨rfl, rfl⟩
      · have hp := range_cases (p := p) (by omega) (by omega)
        clear h1 h2
        rcases hj with rfl | rfl | rfl | rfl | rfl | rfl <;> rcases hp with rfl | rfl | rfl | rfl | rfl | rfl | rfl | rfl | rfl | rfl | rfl | rfl | rfl | rfl | rfl | rfl | rfl | rfl | rfl | rfl | rfl | rfl | rfl | rfl | rfl | rfl
        all_goals
          go_enter Tryz.func32, Tryz.ntmps32
          go_wp2
          go_ret
          exact ⟨rfl, rfl⟩
  · have e : hasP p j = false := by
      unfold hasP
      rw [if_neg (by omega), if_neg (by omega), if_neg (by omega), if_neg (by omega), if_neg (by omega), if_neg (by omega)]
    rw [e]
    have n1 : (j == 1) = false := beq_eq_false_iff_ne.2 (by omega)
    have n2 : (j == 2) = false := beq_eq_false_iff_ne.2 (by omega)
    have n3 : (j == 3) = false := beq_eq_false_iff_ne.2 (by omega)
    have n4 : (j == 4) = false := beq_eq_false_iff_ne.2 (by omega)
    have n5 : (j == 5) = false := beq_eq_false_iff_ne.2 (by omega)
    have n6 : (j == 6) = false := beq_eq_false_iff_ne.2 (by omega)
    clear e hj
    go_enter Tryz.func32, Tryz.ntmps32
    go_wp2
    go_ret
    exact ⟨rfl, rfl⟩
end Val
end Go.Proofs.YtcacabpcobmgoaaGreatDoor
