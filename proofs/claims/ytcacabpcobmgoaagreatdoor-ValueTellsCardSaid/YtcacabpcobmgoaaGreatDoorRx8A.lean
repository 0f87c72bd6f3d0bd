/- The document's own answers of layer 8: below, Passed, May, Words, Name. Conditions: none. -/
import Derived.Test.YtcacabpcobmgoaaGreatDoorValRefA
import Derived.Test.YtcacabpcobmgoaaGreatDoorValHas
import Derived.Test.YtcacabpcobmgoaaGreatDoorBlk
namespace Go.Proofs.YtcacabpcobmgoaaGreatDoor
open Go.ChangeShapes Go.WideShapes Go.ChangeAt Go.RowKit
namespace Val
theorem prop_cases (p : Int) : p < 1 ∨ 27 ≤ p ∨ p = 1 ∨ p = 2 ∨ p = 3 ∨ p = 4 ∨ p = 5 ∨ p = 6 ∨ p = 7 ∨ p = 8 ∨ p = 9 ∨ p = 10 ∨ p = 11 ∨ p = 12 ∨ p = 13 ∨ p = 14 ∨ p = 15 ∨ p = 16 ∨ p = 17 ∨ p = 18 ∨ p = 19 ∨ p = 20 ∨ p = 21 ∨ p = 22 ∨ p = 23 ∨ p = 24 ∨ p = 25 ∨ p = 26 := by omega
set_option maxHeartbeats 8000000 in
theorem rbelow_any (p : Int) (w : World) : Calls Tryz.prog 34 #[.int .i64 p] w fun e w' => e = .returned (.bool (belowP p)) ∧ w = w' := by
  rcases prop_cases p with h | h | rfl | rfl | rfl | rfl | rfl | rfl | rfl | rfl | rfl | rfl | rfl | rfl | rfl | rfl | rfl | rfl | rfl | rfl | rfl | rfl | rfl | rfl | rfl | rfl | rfl | rfl
  · have e : belowP p = false := by unfold belowP; exact decide_eq_false (by omega)
    rw [e]
    have d1 : decide (4 ≤ p) = false := decide_eq_false (by omega)
    have d2 : decide (24 ≤ p) = false := decide_eq_false (by omega)
    clear e h
    go_enter Tryz.func34, Tryz.ntmps34
    go_wp2
    go_ret
    exact ⟨rfl, rfl⟩
  · have e : belowP p = false := by unfold belowP; exact decide_eq_false (by omega)
    rw [e]
    have d1 : decide (4 ≤ p) = true := decide_eq_true (by omega)
    have d2 : decide (24 ≤ p) = true := decide_eq_true (by omega)
    have d3 : decide (p ≤ 7) = false := decide_eq_false (by omega)
    have d4 : decide (p ≤ 26) = false := decide_eq_false (by omega)
    clear e h
    go_enter Tryz.func34, Tryz.ntmps34
    go_wp2
    go_ret
    exact ⟨rfl, rfl⟩
  all_goals
    go_enter Tryz.func34, Tryz.ntmps34
    go_wp2
    go_ret
    exact ⟨rfl, rfl⟩
set_option maxHeartbeats 8000000 in
set_option maxRecDepth 100000 in
theorem rname_any (p : Int) (w : World) : Calls Tryz.prog 13 #[.int .i64 p] w fun e w' => e = .returned (.string (toB (nameP p))) ∧ Below w.heap.size w w' := by
  by_cases h0 : p = 0
  · subst h0
    go_enter Tryz.func13, Tryz.ntmps13
    go_wp2
    go_ret
    exact ⟨rfl, below_al (Below.refl _ _) _⟩
  rcases prop_cases p with h | h | rfl | rfl | rfl | rfl | rfl | rfl | rfl | rfl | rfl | rfl | rfl | rfl | rfl | rfl | rfl | rfl | rfl | rfl | rfl | rfl | rfl | rfl | rfl | rfl | rfl | rfl
  · have e : toB (nameP p) = ⟨#[]⟩ := by rw [name_else (.inl h)]; rfl
    rw [e]
    have d1 : p < 0 := by omega
    clear e h
    go_enter Tryz.func13, Tryz.ntmps13
    go_wp2
    go_ret
    exact ⟨rfl, below_al (Below.refl _ _) _⟩
  · have e : toB (nameP p) = ⟨#[]⟩ := by rw [name_else (.inr h)]; rfl
    rw [e]
    have d1 : ¬ p < 0 := by omega
    clear e
    go_enter Tryz.func13, Tryz.ntmps13
    go_wp2
    go_ret
    exact ⟨rfl, below_al (Below.refl _ _) _⟩
  all_goals
    go_enter Tryz.func13, Tryz.ntmps13
    go_wp2
    go_ret
    exact ⟨rfl, below_al (Below.refl _ _) _⟩
end Val
end Go.Proofs.YtcacabpcobmgoaaGreatDoor
