/- ResTurned's walk, from its three ways. Conditions: the lists lie in memory as they are read. -/
import Derived.Test.YtibpjfeghpmoiaaResTurnedT
import Derived.Test.YtibpjfeghpmoiaaResTurnedF
import Derived.Test.YtibpjfeghpmoiaaResTurnedN
namespace Go.Proofs.Ytibpjfeghpmoiaa
open Go.ChangeShapes Go.WideShapes Go.ChangeAt Go.RowKit
namespace resTurned
theorem walk (A : Option Addr) (n ca : Nat) (l : List Img) (a : Int) (o : Bool) (B : Option Addr) (nb cb : Nat) (ns : List Int) (src : ByteArray) (w : World)
    (_ : nb ≤ 17592186043904) (hrn : Reads w w.heap.size 1 B nb (ns.map (Value.int .i64))) (hr : Reads w w.heap.size 4 A n (flatI l)) (hn0 : n ≤ 9223372036854775807) :
    Calls Try.prog 5 #[.agg #[.slice A n ca, .int .i64 a, .bool o], .slice B nb cb, .string src] w fun e w' => e = .returned (.bool true) ∧ Below w.heap.size w w' := by
  cases o with
  | true => exact walkT A n ca l a B nb cb ns src w hrn hr hn0
  | false =>
    rcases Nat.eq_zero_or_pos nb with h | h
    · exact walkN A n ca l a B nb cb ns src w hrn hr hn0 h
    · exact walkF A n ca l a B nb cb ns src w hrn hr hn0 h
end resTurned
end Go.Proofs.Ytibpjfeghpmoiaa
