/- Go's own internal/bytealg.MaxLen holds some number, in every world of the program's shape. Conditions: none. -/
import Derived.Test.YthkofdleoigajaaDoorScanSpec
import Derived.Shelf.Vars
namespace Go.Proofs.YthkofdleoigajaaDoor
theorem lens_of (W : World) (h : W.ShapedOpen Tryd.prog) : Lens W :=
  cell_of_shapedOpen_int (P := Tryd.prog) (t := 3) (zero := #[.int .i64 0]) h (by decide +kernel) (by kernel_rfl) rfl (by kernel_rfl) (by kernel_rfl) Tryd.underlying3
end Go.Proofs.YthkofdleoigajaaDoor
