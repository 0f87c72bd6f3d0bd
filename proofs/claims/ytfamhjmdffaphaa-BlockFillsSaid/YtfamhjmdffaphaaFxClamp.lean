/- What Clamp of package fixed answers. Conditions: none. -/
import Derived.Test.YtfamhjmdffaphaaRows
import Derived.Test.YtfamhjmdffaphaaFixMath
import Derived.Test.YtfamhjmdffaphaaKit
import Derived.WalkKit
import Derived.ProofKit
import Derived.OpenShut
import Derived.IntWalk
import Derived.Lib.Hide
namespace Go.Proofs.Ytfamhjmdffaphaa
open Go.ChangeShapes Go.WideShapes Go.ChangeAt Go.RowKit
theorem clamp_any (n : Int) (w : World) :
    Calls Try.prog 34 #[.int .i64 n] w fun e w' => e = .returned (.tuple #[.int .i64 (cl n), .bool (ok n)]) ∧ w = w' := by
  rcases cl_eq n with ⟨h1, hc, ho⟩ | ⟨h1, hc, ho⟩ | ⟨h1, h2, hc, ho⟩
  · rw [hc, ho]; clear hc ho
    go_enter Try.func34, Try.ntmps34
    go_wp2
    go_ret2
    exact ⟨rfl, rfl⟩
  · rw [hc, ho]; clear hc ho
    go_enter Try.func34, Try.ntmps34
    go_wp2
    all_goals (try go_ret2)
    all_goals first | exact ⟨rfl, rfl⟩ | omega
  · rw [hc, ho]; clear hc ho
    go_enter Try.func34, Try.ntmps34
    go_wp2
    go_ret2
    exact ⟨rfl, rfl⟩
end Go.Proofs.Ytfamhjmdffaphaa
