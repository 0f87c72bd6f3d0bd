/- What Add of package fixed answers. Conditions: none. -/
import Derived.Test.YtfamhjmdffaphaaFxClamp
namespace Go.Proofs.Ytfamhjmdffaphaa
open Go.ChangeShapes Go.WideShapes Go.ChangeAt Go.RowKit
theorem add1_any (a b : Int) (w : World) (h1 : -1099511627776 ≤ a) (h2 : a ≤ 1099511627776) (h3 : -1099511627776 ≤ b) (h4 : b ≤ 1099511627776) :
    Calls Try.prog 31 #[.int .i64 a, .int .i64 b] w fun e w' => e = .returned (.int .i64 (a + b)) ∧ w = w' := by
  go_enter Try.func31, Try.ntmps31
  go_wp2
  go_ret
  exact ⟨rfl, rfl⟩
/-- counted, over the closure of add, by what that answers. -/
theorem counted_add (a b r : Int) (w : World)
    (hf : Calls Try.prog 31 #[.int .i64 (cl a), .int .i64 (cl b)] w fun e w' => e = .returned (.int .i64 r) ∧ w = w') :
    Calls Try.prog 28 #[.int .i64 a, .int .i64 b, .func (.func 31) #[] #[]] w fun e w' => e = .returned (.tuple #[.int .i64 (cl r), .bool (ok a && (ok b && ok r))]) ∧ w = w' := by
  have ha := clamp_any a w
  have hb := clamp_any b w
  have hr := clamp_any r w
  generalize ok a = oa at ha ⊢
  generalize ok b = ob at hb ⊢
  generalize ok r = or at hr ⊢
  cases oa <;> cases ob <;> simp only [Bool.true_and, Bool.false_and]
  all_goals
    go_enter Try.func28, Try.ntmps28
    go_wp2_with (first
      | (go_at_call 34; (first | (with_reducible refine Calls.mono ha ?_) | (with_reducible refine Calls.mono hb ?_) | (with_reducible refine Calls.mono hr ?_)); rintro e w' ⟨rfl, rfl⟩)
      | (go_at_call 31; refine Calls.mono hf ?_; rintro e w' ⟨rfl, rfl⟩))
    go_ret2
    exact ⟨rfl, rfl⟩
theorem add_any (a b : Int) (w : World) : Calls Try.prog 20 #[.int .i64 a, .int .i64 b] w fun e w' => e = .returned (.tuple #[.int .i64 (add2 a b), .bool (addOk a b)]) ∧ w = w' := by
  have hc := counted_add a b (cl a + cl b) w (add1_any _ _ w (cl_lo a) (cl_hi a) (cl_lo b) (cl_hi b))
  unfold add2 addOk
  generalize cl (cl a + cl b) = r at hc ⊢
  generalize (ok a && (ok b && ok (cl a + cl b))) = o at hc ⊢
  go_enter Try.func20, Try.ntmps20
  go_wp2_with (go_at_call 28; refine Calls.mono hc ?_; rintro e w' ⟨rfl, rfl⟩)
  go_ret2
  exact ⟨rfl, rfl⟩
end Go.Proofs.Ytfamhjmdffaphaa
