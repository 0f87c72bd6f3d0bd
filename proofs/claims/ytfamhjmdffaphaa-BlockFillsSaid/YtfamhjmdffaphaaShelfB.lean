/- strings.Builder's two writers off the shelf, laid by hand (interface {} stands in no body, so the command does not find its number). Conditions: as the theorems' premises say. -/
import Derived.Test.YtfamhjmdffaphaaShelf
import Derived.Shelf.Strings.BuilderK
import Derived.Shelf.Strings.SlTrimAscii
import Derived.Test.YtfamhjmdffaphaaProg
namespace Go.Proofs
open Go.Shelf
end Go.Proofs
