/- What a row's listed variables hold, as value's contracts want it; texts that came in are no longer than what can be reached. Conditions: none. -/
import Derived.Test.YtdfcahdipalmkaaGreatDoorValC
import Derived.Test.YtdfcahdipalmkaaGreatDoorRows
import Derived.LaidSub
import Derived.LaidMore
import Derived.Lay
import Derived.Lib.LaidTab
import Derived.Shelf.Vars
import Derived.Test.YtdfcahdipalmkaaGreatDoorOpenS
import Derived.Lib.SmallJoins
import Derived.Deep.Fields
namespace Go.Proofs.YtdfcahdipalmkaaGreatDoor
open Go.ChangeShapes Go.WideShapes Go.ChangeAt Go.RowKit
namespace Sht
theorem sized_text {H : Type} {P : Program} {ts : List TypeId} {ds : List (DataW H)} {j : Nat} {t : TypeId} {b : List UInt8} (hsz : (DataW.weightsEach P ts ds).all (· ≤ reachBytes) = true) (htj : ts[j]? = some t) (hdj : ds[j]? = some (.lit (.string b))) : b.length ≤ 140737488351232 := by
  have h4 : b.length ∈ (DataW.lit (.string b) : DataW H).weights P t := by simp [DataW.weights]
  have h5 := List.all_eq_true.1 hsz _ (DataW.weights_mem_each htj hdj _ h4)
  have h6 := of_decide_eq_true h5
  simpa only [reachBytes] using h6
theorem trod_iface {P : Program} {w : World} {t : TypeId} {ms : Array (String × TypeId)} {fuel : Nat} {l : List Value} {nm : String} {d : DataW Unit} {p : List MemPlace} (ht : P.underlying t = some (.interface ms))
    (h : DataW.trod (fun _ => ()) P w 0 (fun _ => true) false fuel t l = some (.iface nm d, p)) : ∃ u v, l = [.iface u v] := by
  cases fuel with
  | zero => cases h
  | succ fuel =>
    unfold DataW.trod at h
    rw [ht] at h
    match l, h with
    | [], h => cases h
    | a :: b :: r, h => cases a <;> cases h
    | [a], h =>
      cases a with
      | iface u v => exact ⟨u, v, rfl⟩
      | _ => cases h
theorem tabs_from (L : List (String × DataW Unit)) (f1 : L.filter (fun x => x.1 == "internal/strconv.uint64pow10") = [("internal/strconv.uint64pow10", Lib.tabData .u64 Lib.pow10Tab)]) (f2 : L.filter (fun x => x.1 == "strconv.ErrSyntax") = [("strconv.ErrSyntax", Rows.laid_strconv_ErrSyntax)])
    (f3 : L.filter (fun x => x.1 == "math/bits.deBruijn64tab") = [("math/bits.deBruijn64tab", Lib.tabData .u8 Val.bruT)]) (W : World) (h : laidMetH Tryz.prog L W) (hsh : W.ShapedOpen Tryz.prog) : Val.Tabs W := by
  refine ⟨?_, ?_, ?_, ?_⟩
  · have h1 := h.filter (fun x => x.1 == "internal/strconv.uint64pow10")
    rw [f1] at h1
    rw [MakeChecks.laidMetH_plain _ _ _ (by kernel_rfl)] at h1
    exact Lib.tabIs_of_head (g := 5) (by kernel_rfl) (by kernel_rfl) Tryz.underlying258 Tryz.underlying215 (by kernel_rfl) (by kernel_rfl) h1
  · have h1 := h.filter (fun x => x.1 == "strconv.ErrSyntax")
    rw [f2] at h1
    rw [MakeChecks.laidMetH_plain _ _ _ (by kernel_rfl)] at h1
    obtain ⟨ps, ⟨g, t, cs, fuel, p, q, hg, ht, hv, hd, _, _⟩, _, _⟩ := h1
    obtain rfl := Option.some.inj ((show Tryz.prog.globalNamed "strconv.ErrSyntax" = some 3 by kernel_rfl).symm.trans hg)
    obtain rfl := Option.some.inj ((show (Tryz.prog.globals[3]?).map (·.type) = some 95 by kernel_rfl).symm.trans ht)
    obtain ⟨u, v, hl⟩ := trod_iface Tryz.underlying95 hd
    have hc := World.var?_cell hg hv 0
    have h0 : cs[0]? = some (.iface u v) := by
      rw [← Array.getElem?_toList, hl]
      rfl
    exact ⟨u, v, hc.trans h0⟩
  · have h1 := h.filter (fun x => x.1 == "math/bits.deBruijn64tab")
    rw [f3] at h1
    rw [MakeChecks.laidMetH_plain _ _ _ (by kernel_rfl)] at h1
    exact Lib.tabIs_of_head (g := 8) (by kernel_rfl) (by kernel_rfl) Tryz.underlying276 Tryz.underlying5 (by kernel_rfl) (by kernel_rfl) h1
  · exact cell_of_shapedOpen_int (P := Tryz.prog) (t := 3) (zero := #[.int .i64 0]) hsh (by decide +kernel) (by kernel_rfl) rfl (by kernel_rfl) (by kernel_rfl) Tryz.underlying3
end Sht
end Go.Proofs.YtdfcahdipalmkaaGreatDoor
