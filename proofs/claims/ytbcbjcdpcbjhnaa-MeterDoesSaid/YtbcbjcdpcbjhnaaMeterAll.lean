/- The landed package meter's awake. Conditions: none. -/
import Derived.Test.YtbcbjcdpcbjhnaaMeterCode
import Derived.Test.YtbcbjcdpcbjhnaaMeterAwake
namespace Go.Proofs.Ytbcbjcdpcbjhnaa
open Go.ChangeShapes Go.WideShapes Go.ChangeAt Go.RowKit
theorem awake3_any (w : World) : Calls Try.prog 6 #[] w fun e w' => e = .returned (.bool true) ∧ Below w.heap.size w w' :=
  meterAwake.awake_of new_any no_any take_any taken_any left_any over_any bound_any w
end Go.Proofs.Ytbcbjcdpcbjhnaa
