/- What the row's listed variables hold, as value's contracts want it. Conditions: none. -/
import Derived.Test.YtfamhjmdffaphaaGreatDoorValC
import Derived.Test.YtfamhjmdffaphaaGreatDoorRows
import Derived.LaidSub
import Derived.LaidMore
import Derived.Lay
import Derived.Lib.LaidTab
import Derived.Shelf.Vars
namespace Go.Proofs.YtfamhjmdffaphaaGreatDoor
open Go.ChangeShapes Go.WideShapes Go.ChangeAt Go.RowKit
namespace Val
theorem trod_iface {P : Program} {w : World} {t : TypeId} {ms : Array (String × TypeId)} {fuel : Nat} {l : List Value} {nm : String} {d : DataW Unit} {p : List MemPlace} (ht : P.underlying t = some (.interface ms))
    (h : DataW.trod (fun _ => ()) P w 0 (fun _ => true) false fuel t l = some (.iface nm d, p)) : ∃ u v, l = [.iface u v] := by
  cases fuel with
  | zero => cases h
  | succ fuel =>
    unfold DataW.trod at h
    rw [ht] at h
    match l, h with
    | [], h => cases h
    | a :: b :: r, h => cases a <;> cases h
    | [a], h =>
      cases a with
      | iface u v => exact ⟨u, v, rfl⟩
      | _ => cases h
theorem tabs_of (W : World) (h : laidMetH Tryz.prog Rows.valueNamesRow.laid W) (hsh : W.ShapedOpen Tryz.prog) : Tabs W := by
  refine ⟨?_, ?_, ?_, ?_⟩
  · have h1 := h.filter (fun x => x.1 == "internal/strconv.uint64pow10")
    rw [show Rows.valueNamesRow.laid.filter (fun x => x.1 == "internal/strconv.uint64pow10") = [("internal/strconv.uint64pow10", Lib.tabData .u64 Lib.pow10Tab)] from by kernel_rfl] at h1
    rw [MakeChecks.laidMetH_plain _ _ _ (by kernel_rfl)] at h1
    exact Lib.tabIs_of_head (g := 0) (by kernel_rfl) (by kernel_rfl) Tryz.underlying124 Tryz.underlying77 (by kernel_rfl) (by kernel_rfl) h1
  · have h1 := h.filter (fun x => x.1 == "strconv.ErrSyntax")
    rw [show Rows.valueNamesRow.laid.filter (fun x => x.1 == "strconv.ErrSyntax") = [("strconv.ErrSyntax", Rows.laid_strconv_ErrSyntax)] from by kernel_rfl] at h1
    rw [MakeChecks.laidMetH_plain _ _ _ (by kernel_rfl)] at h1
    obtain ⟨ps, ⟨g, t, cs, fuel, p, q, hg, ht, hv, hd, _, _⟩, _, _⟩ := h1
    obtain rfl := Option.some.inj ((show Tryz.prog.globalNamed "strconv.ErrSyntax" = some 3 by kernel_rfl).symm.trans hg)
    obtain rfl := Option.some.inj ((show (Tryz.prog.globals[3]?).map (·.type) = some 79 by kernel_rfl).symm.trans ht)
    obtain ⟨u, v, hl⟩ := trod_iface Tryz.underlying79 hd
    have hc := World.var?_cell hg hv 0
    have h0 : cs[0]? = some (.iface u v) := by
      rw [← Array.getElem?_toList, hl]
      rfl
    exact ⟨u, v, hc.trans h0⟩
  · have h1 := h.filter (fun x => x.1 == "math/bits.deBruijn64tab")
    rw [show Rows.valueNamesRow.laid.filter (fun x => x.1 == "math/bits.deBruijn64tab") = [("math/bits.deBruijn64tab", Lib.tabData .u8 bruT)] from by kernel_rfl] at h1
    rw [MakeChecks.laidMetH_plain _ _ _ (by kernel_rfl)] at h1
    exact Lib.tabIs_of_head (g := 7) (by kernel_rfl) (by kernel_rfl) Tryz.underlying150 Tryz.underlying5 (by kernel_rfl) (by kernel_rfl) h1
  · exact cell_of_shapedOpen_int (P := Tryz.prog) (t := 3) (zero := #[.int .i64 0]) hsh (by decide +kernel) (by kernel_rfl) rfl (by kernel_rfl) (by kernel_rfl) Tryz.underlying3
end Val
end Go.Proofs.YtfamhjmdffaphaaGreatDoor
