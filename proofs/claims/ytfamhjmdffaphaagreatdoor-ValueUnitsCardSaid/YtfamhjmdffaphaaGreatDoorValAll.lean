/- Package value's contracts, and layer 8's awake, of the landed code. Conditions: the tables are laid. -/
import Derived.Test.YtfamhjmdffaphaaGreatDoorValRead
import Derived.Test.YtfamhjmdffaphaaGreatDoorValHc
import Derived.Test.YtfamhjmdffaphaaGreatDoorValProp
import Derived.Test.YtfamhjmdffaphaaGreatDoorValHas
import Derived.Test.YtfamhjmdffaphaaGreatDoorScanWordsC
import Derived.Test.YtfamhjmdffaphaaGreatDoorScanLowC
import Derived.Test.YtfamhjmdffaphaaGreatDoorScanTrimC
import Derived.Test.YtfamhjmdffaphaaGreatDoorValAwake
import Derived.Test.YtfamhjmdffaphaaGreatDoorValCode
namespace Go.Proofs.YtfamhjmdffaphaaGreatDoor
open Go.ChangeShapes Go.WideShapes Go.ChangeAt Go.RowKit
namespace Val
theorem may_all : MayC := may_any partsW.words_any
theorem read_all : ReadC := read_of trim_any Go.Proofs.YtfamhjmdffaphaaGreatDoor.lower_any partsW.words_any may_all
theorem print_all : PrintC := print_any partsW.words_any number_any color_any
theorem awake_all (w : World) (hT : Tabs w) : Calls Tryz.prog 7 #[] w fun e w' => e = .returned (.bool true) ∧ Below w.heap.size w w' :=
  valAwake.awake_of read_all may_all print_all name_any prop_any first_any passed_any w hT
end Val
end Go.Proofs.YtfamhjmdffaphaaGreatDoor
