/- What the document's own Sub of layer 1 answers. Conditions: none. -/
import Derived.Test.YtabijoohoofogaaRx1Clamp
namespace Go.Proofs.Ytabijoohoofogaa
open Go.ChangeShapes Go.WideShapes Go.ChangeAt Go.RowKit
theorem rsub_any (a b : Int) (w : World) : Calls Try.prog 41 #[.int .i64 a, .int .i64 b] w fun e w' => e = .returned (.tuple #[.int .i64 (sub2 a b), .bool (subOk a b)]) ∧ w = w' := by
  have h1 := rclamp_any a w
  have h2 := rclamp_any b w
  have h3 := rclamp_any (cl a - cl b) w
  have a1 := cl_lo a; have a2 := cl_hi a; have a3 := cl_lo b; have a4 := cl_hi b
  unfold sub2 subOk
  generalize ok a = oa at *
  generalize ok b = ob at *
  generalize ok (cl a - cl b) = oc at *
  generalize cl (cl a - cl b) = r at *
  generalize cl a = x at *
  generalize cl b = y at *
  cases oa <;> cases ob
  all_goals
    go_enter Try.func41, Try.ntmps41
    go_wp2_with (go_at_call 43; (first | (with_reducible refine h1.mono ?_) | (with_reducible refine h2.mono ?_) | (with_reducible refine h3.mono ?_)); rintro e w' ⟨rfl, rfl⟩)
    go_ret2
    exact ⟨rfl, rfl⟩
end Go.Proofs.Ytabijoohoofogaa
