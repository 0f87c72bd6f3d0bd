/- What scan's own Trim answers. Conditions: the text is not too long. -/
import Derived.Test.YtfamhjmdffaphaaScanLib
import Derived.Test.YtfamhjmdffaphaaScanSpec
import Derived.Test.YtfamhjmdffaphaaShelfB
namespace Go.Proofs.Ytfamhjmdffaphaa
open Go.ChangeShapes Go.WideShapes Go.ChangeAt Go.RowKit
theorem ascii_of {l : List UInt8} (h : l.all (fun b => decide (b.toNat < 128)) = true) : ∀ (j : Nat) b, l[j]? = some b → b.toNat < 128 := by
  intro j b hb
  exact of_decide_eq_true (List.all_eq_true.1 h b (List.mem_of_getElem? hb))
end Go.Proofs.Ytfamhjmdffaphaa
