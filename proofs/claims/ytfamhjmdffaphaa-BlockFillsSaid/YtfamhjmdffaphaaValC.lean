/- What each function of package value is to answer, as plain propositions over the seat's program. Conditions: none (these are definitions). -/
import Derived.Test.YtfamhjmdffaphaaValBase
import Derived.Test.YtfamhjmdffaphaaValBack
namespace Go.Proofs.Ytfamhjmdffaphaa
open Go.ChangeShapes Go.WideShapes Go.ChangeAt Go.RowKit
def vV (k n : Int) : Value := .agg #[.int .i64 k, .int .i64 n]
def vO : Option (Int × Int) → Value
  | some x => vV x.1 x.2
  | none => vV 0 0
namespace Val
def MayC : Prop := ∀ (p k n : Int) (w : World), Calls Try.prog 15 #[.int .i64 p, vV k n] w fun e w' => e = .returned (.bool (mayP p k n)) ∧ Below w.heap.size w w'
def FirstC : Prop := ∀ (p : Int) (w : World), Calls Try.prog 21 #[.int .i64 p] w fun e w' => e = .returned (vV (firstP p).1 (firstP p).2) ∧ Below w.heap.size w w'
end Val
end Go.Proofs.Ytfamhjmdffaphaa
