/- What each function of package value is to answer, as plain propositions over the seat's program. Conditions: none (these are definitions). -/
import Derived.Test.YtcacabpcobmgoaaGreatDoorValBase
import Derived.Test.YtcacabpcobmgoaaGreatDoorValBack
import Derived.Lib.AppendIntMem
import Derived.Lib.ItoaMem
import Derived.Lib.TrailingZeros
namespace Go.Proofs.YtcacabpcobmgoaaGreatDoor
open Go.ChangeShapes Go.WideShapes Go.ChangeAt Go.RowKit
def vV (k n : Int) : Value := .agg #[.int .i64 k, .int .i64 n]
def vO : Option (Int × Int) → Value
  | some x => vV x.1 x.2
  | none => vV 0 0
namespace Val
def bruT : List Int := Lib.deBruijn64tab.map fun (n : Nat) => (n : Int)
/-- The tables of Go's library that numbers' texts are read and written by. -/
structure Tabs (w : World) : Prop where
  pow : Lib.TabIs Tryz.prog w "internal/strconv.uint64pow10" .u64 Lib.pow10Tab
  err : ∃ tp p, w.cell? ⟨3, 0, none⟩ = some (.iface tp p)
  bru : Lib.TabIs Tryz.prog w "math/bits.deBruijn64tab" .u8 bruT
  len : ∃ m, w.cell? ⟨5, 0, none⟩ = some (.int .i64 m)
theorem Tabs.at_ {w w' : World} (h : Tabs w) (hb : Below w.heap.size w w') : Tabs w' := by
  refine ⟨(Lib.tabBelow_of_tabIs h.pow) w' hb, ?_, (Lib.tabBelow_of_tabIs h.bru) w' hb, ?_⟩
  · obtain ⟨tp, p, e⟩ := h.err
    exact ⟨tp, p, (hb.cell (p := ⟨3, 0, none⟩) (lt_of_cell' e)).trans e⟩
  · obtain ⟨m, e⟩ := h.len
    exact ⟨m, (hb.cell (p := ⟨5, 0, none⟩) (lt_of_cell' e)).trans e⟩
def ReadC : Prop := ∀ (p : Int) (s : ByteArray) (w : World), s.size ≤ mostB → Tabs w → Calls Tryz.prog 8 #[.int .i64 p, .string s] w fun e w' => e = .returned (.tuple #[vO (readF p s.data.toList), .bool (readF p s.data.toList).isSome]) ∧ Below w.heap.size w w'
def MayC : Prop := ∀ (p k n : Int) (w : World), Calls Tryz.prog 14 #[.int .i64 p, vV k n] w fun e w' => e = .returned (.bool (mayP p k n)) ∧ Below w.heap.size w w'
def PrintC : Prop := ∀ (p k n : Int) (w : World), Tabs w → Calls Tryz.prog 16 #[.int .i64 p, vV k n] w fun e w' => e = .returned (.string (toB (printP p k n))) ∧ Below w.heap.size w w'
def NameC : Prop := ∀ (p : Int) (w : World), Calls Tryz.prog 12 #[.int .i64 p] w fun e w' => e = .returned (.string (toB (nameP p))) ∧ Below w.heap.size w w'
def PropC : Prop := ∀ (s : ByteArray) (w : World), s.size ≤ mostB → Calls Tryz.prog 10 #[.string s] w fun e w' => e = .returned (.int .i64 (propP s.data.toList)) ∧ Below w.heap.size w w'
def FirstC : Prop := ∀ (p : Int) (w : World), Calls Tryz.prog 18 #[.int .i64 p] w fun e w' => e = .returned (vV (firstP p).1 (firstP p).2) ∧ Below w.heap.size w w'
def PassedC : Prop := ∀ (p : Int) (w : World), Calls Tryz.prog 20 #[.int .i64 p] w fun e w' => e = .returned (.bool (decide (p = 16 ∨ p = 18 ∨ p = 19))) ∧ Below w.heap.size w w'
end Val
end Go.Proofs.YtcacabpcobmgoaaGreatDoor
