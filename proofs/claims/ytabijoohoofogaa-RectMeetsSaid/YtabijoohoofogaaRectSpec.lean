/- What each function of package rect is to answer, as plain propositions over the seat's program. Conditions: none (these are definitions). -/
import Derived.Test.YtabijoohoofogaaRectMath2
import Derived.Test.YtabijoohoofogaaRows
import Derived.Test.YtabijoohoofogaaKit
import Derived.WalkKit
import Derived.ProofKit
import Derived.OpenShut
import Derived.IntWalk
import Derived.Lib.Hide
import Derived.Outline
import Derived.WalkLawsBesides
namespace Go.Proofs.Ytabijoohoofogaa
open Go.ChangeShapes Go.WideShapes Go.ChangeAt Go.RowKit
def MayC : Prop := ∀ (r : Plc) (w : World), Calls Try.prog 20 #[r.v] w fun e w' => e = .returned (.bool (mayB r)) ∧ Below w.heap.size w w'
def HasC : Prop := ∀ (r : Plc) (x y : Int) (w : World), Calls Try.prog 22 #[r.v, .int .i64 x, .int .i64 y] w fun e w' => e = .returned (.bool (hasB r x y)) ∧ Below w.heap.size w w'
def MoveC : Prop := ∀ (r : Plc) (x y : Int) (w : World), Calls Try.prog 12 #[r.v, .int .i64 x, .int .i64 y] w fun e w' => e = .returned (.tuple #[(moveR r x y).v, .bool (moveOk r x y)]) ∧ Below w.heap.size w w'
def InsetC : Prop := ∀ (r : Plc) (a b c d : Int) (w : World), Calls Try.prog 14 #[r.v, .int .i64 a, .int .i64 b, .int .i64 c, .int .i64 d] w fun e w' => e = .returned (.tuple #[(insetR r a b c d).v, .bool (insetOk r a b c d)]) ∧ Below w.heap.size w w'
def MeetC : Prop := ∀ (a b : Plc) (w : World), Calls Try.prog 18 #[a.v, b.v] w fun e w' => e = .returned (.tuple #[(meetR a b).v, .bool (meetB a b)]) ∧ Below w.heap.size w w'
def UnionC : Prop := ∀ (A : Option Addr) (n c B : Nat) (l : List Plc) (w : World), Reads w B 4 A n (flat l) → n ≤ 17592186043904 → Calls Try.prog 16 #[.slice A n c] w fun e w' => e = .returned (.tuple #[(unionF l).1.v, .bool (unionF l).2]) ∧ Below w.heap.size w w'
end Go.Proofs.Ytabijoohoofogaa
