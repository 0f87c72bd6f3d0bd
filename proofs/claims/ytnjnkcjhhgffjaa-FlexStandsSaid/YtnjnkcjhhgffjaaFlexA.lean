/- What the landed package flex's counted, (*tally).number and the closures of grow and shrink answer. Conditions: as the theorems' premises say. -/
import Derived.Test.YtnjnkcjhhgffjaaFlexMath
import Derived.Test.YtnjnkcjhhgffjaaRows
import Derived.Test.YtnjnkcjhhgffjaaKit
import Derived.Test.YtnjnkcjhhgffjaaBlk
import Derived.WalkKit
import Derived.ProofKit
import Derived.OpenShut
import Derived.IntWalk
import Derived.Lib.Hide
import Derived.Lib.MinMax
import Derived.Outline
import Derived.WalkLawsBesides
namespace Go.Proofs.Ytnjnkcjhhgffjaa
open Go.ChangeShapes Go.WideShapes Go.ChangeAt Go.RowKit
theorem cnt_ways (n m : Int) (hm : 0 ≤ m) : (n < 0 ∧ cnt n m = 0) ∨ (0 ≤ n ∧ n ≤ m ∧ cnt n m = n) ∨ (0 ≤ n ∧ m < n ∧ cnt n m = m) := by unfold cnt; omega
set_option maxHeartbeats 4000000 in
theorem counted_any_ (n m : Int) (w : World) : Calls Try.prog 62 #[.int .i64 n, .int .i64 m] w fun e w' => e = .returned (.int .i64 (cnt n m)) ∧ w = w' := by
  go_enter Try.func62, Try.ntmps62
  go_wp2
  go_ret
  exact ⟨rfl, rfl⟩
set_option maxHeartbeats 4000000 in
theorem number_any (g : Nat) (n : Int) (x c : Bool) (w : World) (hc : w.cell? ⟨g, 0, none⟩ = some (.bool c)) (hf : w.frozen? ⟨g, 0, none⟩ = false) :
    Calls Try.prog 49 #[.pointer (some ⟨g, 0, none⟩), .int .i64 n, .bool x] w fun e w' => e = .returned (.int .i64 n) ∧ w.setCell ⟨g, 0, none⟩ (.bool (c || !x)) = w' := by
  cases c <;> cases x
  all_goals
    go_enter Try.func49, Try.ntmps49
    go_wp2
    go_ret
    exact ⟨rfl, rfl⟩
set_option maxHeartbeats 4000000 in
theorem growc_any (x : FIt) (w : World) : Calls Try.prog 74 #[.agg #[.int .i64 x.b, .int .i64 x.e, .int .i64 x.g, .int .i64 x.s]] w fun e w' => e = .returned (.int .i64 x.g) ∧ w.alloc (.cells #[.int .i64 x.b, .int .i64 x.e, .int .i64 x.g, .int .i64 x.s] 61) = w' := by
  go_enter Try.func74, Try.ntmps74
  go_wp2
  go_ret
  exact ⟨rfl, rfl⟩
set_option maxHeartbeats 4000000 in
theorem shrinkc_any (x : FIt) (w : World) : Calls Try.prog 73 #[.agg #[.int .i64 x.b, .int .i64 x.e, .int .i64 x.g, .int .i64 x.s]] w fun e w' => e = .returned (.int .i64 x.s) ∧ w.alloc (.cells #[.int .i64 x.b, .int .i64 x.e, .int .i64 x.g, .int .i64 x.s] 61) = w' := by
  go_enter Try.func73, Try.ntmps73
  go_wp2
  go_ret
  exact ⟨rfl, rfl⟩
end Go.Proofs.Ytnjnkcjhhgffjaa
