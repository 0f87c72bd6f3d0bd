/- A value that came in, opened. Conditions: none. -/
import Derived.Test.YtfamhjmdffaphaaGreatDoorLaw
import Derived.Lib.SmallJoins
import Derived.Deep.Fields
namespace Go.Proofs.YtfamhjmdffaphaaGreatDoor
open Go.RowKit Go.WideShapes Go.ChangeShapes Go.ChangeAt Go.Joins Go.Deep
section
variable {H : Type} {enc : TypeId × Value → H} {P : Program} {W : World}
theorem open_val {r : Reach} {b0 base : Nat} {t : TypeId} {f0 f1 : Field} {v : Value} {d : DataW H} {p : List MemPlace} (hs : P.underlying t = some (.struct #[f0, f1])) (hone : oneCellFields P #[f0, f1] = true) (hC : P.cellsOf t = 2)
    (h0 : P.underlying f0.type = some (.int .i64)) (h1 : P.underlying f1.type = some (.int .i64))
    (hv : Value.okWide P W r b0 t v) (h : DataW.Trod enc P W base (fun _ => true) true t v d p) : ∃ k n : Int, v = .agg #[.int .i64 k, .int .i64 n] := by
  obtain ⟨v0, v1, y0, y1, n, rfl, _, _, g0, g1⟩ := open_agg2 hs hone hC hv h
  obtain ⟨a, e0, _, _⟩ := DataW.trod_int h0 g0
  obtain ⟨b, e1, _, _⟩ := DataW.trod_int h1 g1
  injection e0 with e0; injection e1 with e1
  exact ⟨a, b, by rw [e0, e1]⟩
end
end Go.Proofs.YtfamhjmdffaphaaGreatDoor
