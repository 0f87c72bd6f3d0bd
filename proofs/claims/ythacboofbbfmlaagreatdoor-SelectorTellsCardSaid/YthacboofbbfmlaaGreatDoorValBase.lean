/- What package value asks of package scan, and bytes. Conditions: none (these are definitions). -/
import Derived.Test.YthacboofbbfmlaaGreatDoorScanMath
import Derived.Test.YthacboofbbfmlaaGreatDoorBlk
import Derived.Test.YthacboofbbfmlaaGreatDoorRows
import Derived.WalkKit
import Derived.ProofKit
import Derived.OpenShut
import Derived.IntWalk
import Derived.Lib.Hide
import Derived.Outline
import Derived.WalkLawsBesides
namespace Go.Proofs.YthacboofbbfmlaaGreatDoor
open Go.ChangeShapes Go.WideShapes Go.ChangeAt Go.RowKit
def toB (l : List UInt8) : ByteArray := ⟨l.toArray⟩
def strs (l : List (List UInt8)) : List Value := l.map fun x => .string (toB x)
/-- The parts of a list between those for which p is. -/
def partsAt (p : UInt8 → Bool) : List UInt8 → List (List UInt8)
  | [] => [[]]
  | c :: t => if p c then [] :: partsAt p t else match partsAt p t with
    | [] => [[c]]
    | h :: r => (c :: h) :: r
def splitF (sep : UInt8) (l : List UInt8) : List (List UInt8) := (partsAt (· == sep) l).map trimL
def wordsF (l : List UInt8) : List (List UInt8) := (partsAt isBlank l).filter fun w => !w.isEmpty
def mostB : Nat := 1000000
theorem lt_of_cell' {w : World} {a : Addr} {v : Value} (h : w.cell? a = some v) : a.block < w.heap.size := by
  unfold World.cell? at h
  split at h
  · rename_i hb
    exact (Array.getElem?_eq_some_iff.1 hb).1
  · cases h
def TrimC : Prop := ∀ (s : ByteArray) (w : World), s.size ≤ mostB → Calls Tryz.prog 21 #[.string s] w fun e w' => e = .returned (.string (onB trimL s)) ∧ Below w.heap.size w w'
def LowerC : Prop := ∀ (s : ByteArray) (w : World), s.size ≤ mostB → Calls Tryz.prog 20 #[.string s] w fun e w' => e = .returned (.string (onB lowL s)) ∧ Below w.heap.size w w'
theorem toB_size (l : List UInt8) : (toB l).size = l.length := by show (toB l).data.size = _; simp [toB]
theorem toB_cat (a b : List UInt8) : toB a ++ toB b = toB (a ++ b) := by
  refine bytes_inj ?_
  show ((toB a) ++ (toB b)).data.toList = a ++ b
  rw [ByteArray.data_append, Array.toList_append]
  rfl
end Go.Proofs.YthacboofbbfmlaaGreatDoor
