/- What Prop answers, of the landed code of package value. Conditions: the text is not too long. -/
import Derived.Test.YtfamhjmdffaphaaValSortOf
namespace Go.Proofs.Ytfamhjmdffaphaa
open Go.ChangeShapes Go.WideShapes Go.ChangeAt Go.RowKit
namespace Val
theorem toB_eq {l : List UInt8} {s : ByteArray} : (toB l).toList == s.toList ↔ l = s.data.toList := by
  rw [beq_iff_eq, ByteArray.toList_eq, ByteArray.toList_eq]
  unfold toB
  rfl
theorem prop_none {l : List UInt8} (h : ∀ j : Nat, 1 ≤ j → j < 27 → nameP (j : Int) ≠ l) : propP l = 0 := by
  obtain ⟨h1, h2, h3⟩ := name_prop l
  by_cases h0 : propP l = 0
  · exact h0
  · have h4 := h3 h0
    exact absurd (by rw [show ((propP l).toNat : Int) = propP l by omega]; exact h4) (h (propP l).toNat (by omega) (by omega))
end Val
end Go.Proofs.Ytfamhjmdffaphaa
