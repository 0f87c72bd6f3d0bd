/- Package value's contracts, and layer 8's awake, of the landed code. Conditions: the tables are laid. -/
import Derived.Test.YtcacabpcobmgoaaGreatDoorValC
import Derived.Test.YtcacabpcobmgoaaGreatDoorRows
import Derived.LaidSub
import Derived.LaidMore
import Derived.Lay
import Derived.Lib.LaidTab
import Derived.Shelf.Vars
import Derived.Test.YtcacabpcobmgoaaGreatDoorLaw
import Derived.Lib.SmallJoins
import Derived.Deep.Fields
import Derived.Test.YtcacabpcobmgoaaGreatDoorValRead
import Derived.Test.YtcacabpcobmgoaaGreatDoorValHc
import Derived.Test.YtcacabpcobmgoaaGreatDoorValProp
import Derived.Test.YtcacabpcobmgoaaGreatDoorValHas
import Derived.Test.YtcacabpcobmgoaaGreatDoorScanWordsC
import Derived.Test.YtcacabpcobmgoaaGreatDoorScanLowC
import Derived.Test.YtcacabpcobmgoaaGreatDoorScanTrimC
import Derived.Test.YtcacabpcobmgoaaGreatDoorValAwake
/- The landed code of package value: what its small functions answer. Conditions: none. -/
namespace Go.Proofs.YtcacabpcobmgoaaGreatDoor
open Go.ChangeShapes Go.WideShapes Go.ChangeAt Go.RowKit
namespace Val
set_option maxHeartbeats 4000000 in
theorem passed_any : PassedC := by
  intro p w
  by_cases h1 : p = 16
  · subst h1
    go_enter Tryz.func20, Tryz.ntmps20
    go_wp2
    go_ret
    exact ⟨rfl, Below.refl _ _⟩
  · by_cases h2 : p = 18
    · subst h2
      go_enter Tryz.func20, Tryz.ntmps20
      go_wp2
      go_ret
      exact ⟨rfl, Below.refl _ _⟩
    · have e : decide (p = 16 ∨ p = 18 ∨ p = 19) = decide (p = 19) := by
        by_cases h : p = 19
        · rw [decide_eq_true h, decide_eq_true (.inr (.inr h))]
        · rw [decide_eq_false h, decide_eq_false (by omega)]
      have q : (p == 19) = decide (p = 19) := by
        by_cases h : p = 19
        · rw [decide_eq_true h, h]; rfl
        · rw [decide_eq_false h, beq_eq_false_iff_ne]; exact h
      rw [e, ← q]
      have q1 : (p == 16) = false := beq_eq_false_iff_ne.2 h1
      have q2 : (p == 18) = false := beq_eq_false_iff_ne.2 h2
      go_enter Tryz.func20, Tryz.ntmps20
      go_wp2
      go_ret
      exact ⟨rfl, Below.refl _ _⟩
end Val
end Go.Proofs.YtcacabpcobmgoaaGreatDoor
/- What the row's listed variables hold, as value's contracts want it. Conditions: none. -/
namespace Go.Proofs.YtcacabpcobmgoaaGreatDoor
open Go.ChangeShapes Go.WideShapes Go.ChangeAt Go.RowKit
namespace Val
theorem trod_iface {P : Program} {w : World} {t : TypeId} {ms : Array (String × TypeId)} {fuel : Nat} {l : List Value} {nm : String} {d : DataW Unit} {p : List MemPlace} (ht : P.underlying t = some (.interface ms))
    (h : DataW.trod (fun _ => ()) P w 0 (fun _ => true) false fuel t l = some (.iface nm d, p)) : ∃ u v, l = [.iface u v] := by
  cases fuel with
  | zero => cases h
  | succ fuel =>
    unfold DataW.trod at h
    rw [ht] at h
    match l, h with
    | [], h => cases h
    | a :: b :: r, h => cases a <;> cases h
    | [a], h =>
      cases a with
      | iface u v => exact ⟨u, v, rfl⟩
      | _ => cases h
theorem tabs_of (W : World) (h : laidMetH Tryz.prog Rows.valueNamesRow.laid W) (hsh : W.ShapedOpen Tryz.prog) : Tabs W := by
  refine ⟨?_, ?_, ?_, ?_⟩
  · have h1 := h.filter (fun x => x.1 == "internal/strconv.uint64pow10")
    rw [show Rows.valueNamesRow.laid.filter (fun x => x.1 == "internal/strconv.uint64pow10") = [("internal/strconv.uint64pow10", Lib.tabData .u64 Lib.pow10Tab)] from by kernel_rfl] at h1
    rw [MakeChecks.laidMetH_plain _ _ _ (by kernel_rfl)] at h1
    exact Lib.tabIs_of_head (g := 0) (by kernel_rfl) (by kernel_rfl) Tryz.underlying124 Tryz.underlying77 (by kernel_rfl) (by kernel_rfl) h1
  · have h1 := h.filter (fun x => x.1 == "strconv.ErrSyntax")
    rw [show Rows.valueNamesRow.laid.filter (fun x => x.1 == "strconv.ErrSyntax") = [("strconv.ErrSyntax", Rows.laid_strconv_ErrSyntax)] from by kernel_rfl] at h1
    rw [MakeChecks.laidMetH_plain _ _ _ (by kernel_rfl)] at h1
    obtain ⟨ps, ⟨g, t, cs, fuel, p, q, hg, ht, hv, hd, _, _⟩, _, _⟩ := h1
    obtain rfl := Option.some.inj ((show Tryz.prog.globalNamed "strconv.ErrSyntax" = some 3 by kernel_rfl).symm.trans hg)
    obtain rfl := Option.some.inj ((show (Tryz.prog.globals[3]?).map (·.type) = some 79 by kernel_rfl).symm.trans ht)
    obtain ⟨u, v, hl⟩ := trod_iface Tryz.underlying79 hd
    have hc := World.var?_cell hg hv 0
    have h0 : cs[0]? = some (.iface u v) := by
      rw [← Array.getElem?_toList, hl]
      rfl
    exact ⟨u, v, hc.trans h0⟩
  · have h1 := h.filter (fun x => x.1 == "math/bits.deBruijn64tab")
    rw [show Rows.valueNamesRow.laid.filter (fun x => x.1 == "math/bits.deBruijn64tab") = [("math/bits.deBruijn64tab", Lib.tabData .u8 bruT)] from by kernel_rfl] at h1
    rw [MakeChecks.laidMetH_plain _ _ _ (by kernel_rfl)] at h1
    exact Lib.tabIs_of_head (g := 7) (by kernel_rfl) (by kernel_rfl) Tryz.underlying150 Tryz.underlying5 (by kernel_rfl) (by kernel_rfl) h1
  · exact cell_of_shapedOpen_int (P := Tryz.prog) (t := 3) (zero := #[.int .i64 0]) hsh (by decide +kernel) (by kernel_rfl) rfl (by kernel_rfl) (by kernel_rfl) Tryz.underlying3
end Val
end Go.Proofs.YtcacabpcobmgoaaGreatDoor
/- A value that came in, opened. Conditions: none. -/
namespace Go.Proofs.YtcacabpcobmgoaaGreatDoor
open Go.RowKit Go.WideShapes Go.ChangeShapes Go.ChangeAt Go.Joins Go.Deep
section
variable {H : Type} {enc : TypeId × Value → H} {P : Program} {W : World}
theorem open_val {r : Reach} {b0 base : Nat} {t : TypeId} {f0 f1 : Field} {v : Value} {d : DataW H} {p : List MemPlace} (hs : P.underlying t = some (.struct #[f0, f1])) (hone : oneCellFields P #[f0, f1] = true) (hC : P.cellsOf t = 2)
    (h0 : P.underlying f0.type = some (.int .i64)) (h1 : P.underlying f1.type = some (.int .i64))
    (hv : Value.okWide P W r b0 t v) (h : DataW.Trod enc P W base (fun _ => true) true t v d p) : ∃ k n : Int, v = .agg #[.int .i64 k, .int .i64 n] := by
  obtain ⟨v0, v1, y0, y1, n, rfl, _, _, g0, g1⟩ := open_agg2 hs hone hC hv h
  obtain ⟨a, e0, _, _⟩ := DataW.trod_int h0 g0
  obtain ⟨b, e1, _, _⟩ := DataW.trod_int h1 g1
  injection e0 with e0; injection e1 with e1
  exact ⟨a, b, by rw [e0, e1]⟩
end
end Go.Proofs.YtcacabpcobmgoaaGreatDoor
namespace Go.Proofs.YtcacabpcobmgoaaGreatDoor
open Go.ChangeShapes Go.WideShapes Go.ChangeAt Go.RowKit
namespace Val
theorem may_all : MayC := may_any partsW.words_any
theorem read_all : ReadC := read_of trim_any Go.Proofs.YtcacabpcobmgoaaGreatDoor.lower_any partsW.words_any may_all
theorem print_all : PrintC := print_any partsW.words_any number_any color_any
theorem awake_all (w : World) (hT : Tabs w) : Calls Tryz.prog 7 #[] w fun e w' => e = .returned (.bool true) ∧ Below w.heap.size w w' :=
  valAwake.awake_of read_all may_all print_all name_any prop_any first_any passed_any w hT
end Val
end Go.Proofs.YtcacabpcobmgoaaGreatDoor
