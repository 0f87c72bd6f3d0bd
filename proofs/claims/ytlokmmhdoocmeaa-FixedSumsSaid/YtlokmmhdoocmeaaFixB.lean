/- What counted, and Add, Sub, Px of package fixed answer. Conditions: none. -/
import Derived.Test.YtlokmmhdoocmeaaFixA
import Derived.Outline
import Derived.Lib.Hide
namespace Go.Proofs.Ytlokmmhdoocmeaa
open Go.ChangeShapes Go.WideShapes Go.ChangeAt Go.RowKit
theorem add1_any (a b : Int) (w : World) (h1 : -1099511627776 ≤ a) (h2 : a ≤ 1099511627776) (h3 : -1099511627776 ≤ b) (h4 : b ≤ 1099511627776) :
    Calls Try.prog 25 #[.int .i64 a, .int .i64 b] w fun e w' => e = .returned (.int .i64 (a + b)) ∧ w = w' := by
  go_enter Try.func25, Try.ntmps25
  go_wp2
  go_ret
  exact ⟨rfl, rfl⟩
theorem sub1_any (a b : Int) (w : World) (h1 : -1099511627776 ≤ a) (h2 : a ≤ 1099511627776) (h3 : -1099511627776 ≤ b) (h4 : b ≤ 1099511627776) :
    Calls Try.prog 26 #[.int .i64 a, .int .i64 b] w fun e w' => e = .returned (.int .i64 (a - b)) ∧ w = w' := by
  go_enter Try.func26, Try.ntmps26
  go_wp2
  go_ret
  exact ⟨rfl, rfl⟩
theorem px1_any (a b : Int) (w : World) (h1 : -1099511627776 ≤ a) (h2 : a ≤ 1099511627776) (h3 : b = 64) :
    Calls Try.prog 32 #[.int .i64 a, .int .i64 b] w fun e w' => e = .returned (.int .i64 (a * 64)) ∧ w = w' := by
  subst h3
  go_enter Try.func32, Try.ntmps32
  go_wp2
  go_ret
  exact ⟨rfl, rfl⟩
/-- counted, over the closure of add, by what that answers. -/
theorem counted_add (a b r : Int) (w : World)
    (hf : Calls Try.prog 25 #[.int .i64 (cl a), .int .i64 (cl b)] w fun e w' => e = .returned (.int .i64 r) ∧ w = w') :
    Calls Try.prog 24 #[.int .i64 a, .int .i64 b, .func (.func 25) #[] #[]] w fun e w' => e = .returned (.tuple #[.int .i64 (cl r), .bool (ok a && (ok b && ok r))]) ∧ w = w' := by
  have ha := clamp_any a w
  have hb := clamp_any b w
  have hr := clamp_any r w
  generalize ok a = oa at ha ⊢
  generalize ok b = ob at hb ⊢
  generalize ok r = or at hr ⊢
  cases oa <;> cases ob <;> simp only [Bool.true_and, Bool.false_and]
  all_goals
    go_enter Try.func24, Try.ntmps24
    go_wp2_with (first
      | (go_at_call 9; (first | (with_reducible refine Calls.mono ha ?_) | (with_reducible refine Calls.mono hb ?_) | (with_reducible refine Calls.mono hr ?_)); rintro e w' ⟨rfl, rfl⟩)
      | (go_at_call 25; refine Calls.mono hf ?_; rintro e w' ⟨rfl, rfl⟩))
    go_ret2
    exact ⟨rfl, rfl⟩
/-- counted, over the closure of sub, by what that answers. -/
theorem counted_sub (a b r : Int) (w : World)
    (hf : Calls Try.prog 26 #[.int .i64 (cl a), .int .i64 (cl b)] w fun e w' => e = .returned (.int .i64 r) ∧ w = w') :
    Calls Try.prog 24 #[.int .i64 a, .int .i64 b, .func (.func 26) #[] #[]] w fun e w' => e = .returned (.tuple #[.int .i64 (cl r), .bool (ok a && (ok b && ok r))]) ∧ w = w' := by
  have ha := clamp_any a w
  have hb := clamp_any b w
  have hr := clamp_any r w
  generalize ok a = oa at ha ⊢
  generalize ok b = ob at hb ⊢
  generalize ok r = or at hr ⊢
  cases oa <;> cases ob <;> simp only [Bool.true_and, Bool.false_and]
  all_goals
    go_enter Try.func24, Try.ntmps24
    go_wp2_with (first
      | (go_at_call 9; (first | (with_reducible refine Calls.mono ha ?_) | (with_reducible refine Calls.mono hb ?_) | (with_reducible refine Calls.mono hr ?_)); rintro e w' ⟨rfl, rfl⟩)
      | (go_at_call 26; refine Calls.mono hf ?_; rintro e w' ⟨rfl, rfl⟩))
    go_ret2
    exact ⟨rfl, rfl⟩
/-- counted, over the closure of mul, by what that answers. -/
theorem counted_mul (a b r : Int) (w : World)
    (hf : Calls Try.prog 27 #[.int .i64 (cl a), .int .i64 (cl b)] w fun e w' => e = .returned (.int .i64 r) ∧ w = w') :
    Calls Try.prog 24 #[.int .i64 a, .int .i64 b, .func (.func 27) #[] #[]] w fun e w' => e = .returned (.tuple #[.int .i64 (cl r), .bool (ok a && (ok b && ok r))]) ∧ w = w' := by
  have ha := clamp_any a w
  have hb := clamp_any b w
  have hr := clamp_any r w
  generalize ok a = oa at ha ⊢
  generalize ok b = ob at hb ⊢
  generalize ok r = or at hr ⊢
  cases oa <;> cases ob <;> simp only [Bool.true_and, Bool.false_and]
  all_goals
    go_enter Try.func24, Try.ntmps24
    go_wp2_with (first
      | (go_at_call 9; (first | (with_reducible refine Calls.mono ha ?_) | (with_reducible refine Calls.mono hb ?_) | (with_reducible refine Calls.mono hr ?_)); rintro e w' ⟨rfl, rfl⟩)
      | (go_at_call 27; refine Calls.mono hf ?_; rintro e w' ⟨rfl, rfl⟩))
    go_ret2
    exact ⟨rfl, rfl⟩
/-- counted, over the closure of px, by what that answers. -/
theorem counted_px (a b r : Int) (w : World)
    (hf : Calls Try.prog 32 #[.int .i64 (cl a), .int .i64 (cl b)] w fun e w' => e = .returned (.int .i64 r) ∧ w = w') :
    Calls Try.prog 24 #[.int .i64 a, .int .i64 b, .func (.func 32) #[] #[]] w fun e w' => e = .returned (.tuple #[.int .i64 (cl r), .bool (ok a && (ok b && ok r))]) ∧ w = w' := by
  have ha := clamp_any a w
  have hb := clamp_any b w
  have hr := clamp_any r w
  generalize ok a = oa at ha ⊢
  generalize ok b = ob at hb ⊢
  generalize ok r = or at hr ⊢
  cases oa <;> cases ob <;> simp only [Bool.true_and, Bool.false_and]
  all_goals
    go_enter Try.func24, Try.ntmps24
    go_wp2_with (first
      | (go_at_call 9; (first | (with_reducible refine Calls.mono ha ?_) | (with_reducible refine Calls.mono hb ?_) | (with_reducible refine Calls.mono hr ?_)); rintro e w' ⟨rfl, rfl⟩)
      | (go_at_call 32; refine Calls.mono hf ?_; rintro e w' ⟨rfl, rfl⟩))
    go_ret2
    exact ⟨rfl, rfl⟩
/-- counted, over the closure of part, by what that answers. -/
theorem counted_part (p : Addr) (a b r : Int) (w : World)
    (hf : Calls Try.prog 31 #[.int .i64 (cl a), .int .i64 (cl b), .pointer (some p)] w fun e w' => e = .returned (.int .i64 r) ∧ w = w') :
    Calls Try.prog 24 #[.int .i64 a, .int .i64 b, .func (.func 31) #[] #[.pointer (some p)]] w fun e w' => e = .returned (.tuple #[.int .i64 (cl r), .bool (ok a && (ok b && ok r))]) ∧ w = w' := by
  have ha := clamp_any a w
  have hb := clamp_any b w
  have hr := clamp_any r w
  generalize ok a = oa at ha ⊢
  generalize ok b = ob at hb ⊢
  generalize ok r = or at hr ⊢
  cases oa <;> cases ob <;> simp only [Bool.true_and, Bool.false_and]
  all_goals
    go_enter Try.func24, Try.ntmps24
    go_wp2_with (first
      | (go_at_call 9; (first | (with_reducible refine Calls.mono ha ?_) | (with_reducible refine Calls.mono hb ?_) | (with_reducible refine Calls.mono hr ?_)); rintro e w' ⟨rfl, rfl⟩)
      | (go_at_call 31; refine Calls.mono hf ?_; rintro e w' ⟨rfl, rfl⟩))
    go_ret2
    exact ⟨rfl, rfl⟩
end Go.Proofs.Ytlokmmhdoocmeaa
