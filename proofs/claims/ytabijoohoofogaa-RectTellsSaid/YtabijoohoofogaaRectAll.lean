/- The landed package rect's awake. Conditions: none. -/
import Derived.Test.YtabijoohoofogaaRectCodeB
import Derived.Test.YtabijoohoofogaaRectCodeD
import Derived.Test.YtabijoohoofogaaRectCodeE
import Derived.Test.YtabijoohoofogaaRectAwake
namespace Go.Proofs.Ytabijoohoofogaa
open Go.ChangeShapes Go.WideShapes Go.ChangeAt Go.RowKit
theorem awake2_any (w : World) : Calls Try.prog 11 #[] w fun e w' => e = .returned (.bool true) ∧ Below w.heap.size w w' :=
  rectAwake.awake_of may_any has_any move_any inset_any union_any meet_any w
end Go.Proofs.Ytabijoohoofogaa
