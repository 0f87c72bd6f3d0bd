/- The landed package meter's awake. Conditions: none. -/
import Derived.Test.YtabijoohoofogaaMeterCode
import Derived.Test.YtabijoohoofogaaMeterAwake
namespace Go.Proofs.Ytabijoohoofogaa
open Go.ChangeShapes Go.WideShapes Go.ChangeAt Go.RowKit
theorem awake3_any (w : World) : Calls Try.prog 24 #[] w fun e w' => e = .returned (.bool true) ∧ Below w.heap.size w w' :=
  meterAwake.awake_of new_any no_any take_any taken_any left_any over_any bound_any w
end Go.Proofs.Ytabijoohoofogaa
