/- What each function of package scan is to answer, as plain propositions over the seat's program. Conditions: none (these are definitions). -/
import Derived.Test.YthkofdleoigajaaDoorScanMath
import Derived.Test.YthkofdleoigajaaDoorBlk
import Derived.Test.YthkofdleoigajaaDoorRows
import Derived.WalkKit
import Derived.ProofKit
import Derived.OpenShut
import Derived.IntWalk
import Derived.Lib.Hide
import Derived.Outline
import Derived.WalkLawsBesides
namespace Go.Proofs.YthkofdleoigajaaDoor
open Go.ChangeShapes Go.WideShapes Go.ChangeAt Go.RowKit
def toB (l : List UInt8) : ByteArray := ⟨l.toArray⟩
def strs (l : List (List UInt8)) : List Value := l.map fun x => .string (toB x)
/-- The parts of a list between those for which p is. -/
def partsAt (p : UInt8 → Bool) : List UInt8 → List (List UInt8)
  | [] => [[]]
  | c :: t => if p c then [] :: partsAt p t else match partsAt p t with
    | [] => [[c]]
    | h :: r => (c :: h) :: r
def splitF (sep : UInt8) (l : List UInt8) : List (List UInt8) := (partsAt (· == sep) l).map trimL
def wordsF (l : List UInt8) : List (List UInt8) := (partsAt isBlank l).filter fun w => !w.isEmpty
/-- What was read of blocks: those that ended, the text since, and what stands behind an open brace. -/
structure Bst where
  out : List (List UInt8 × List UInt8)
  head : List UInt8
  body : Option (List UInt8)
def bstep (s : Bst) (c : UInt8) : Bst :=
  if c = 125 then match s.body with
    | some b => ⟨s.out ++ [(trimL s.head, trimL b)], [], none⟩
    | none => ⟨s.out, [], none⟩
  else match s.body with
    | some b => ⟨s.out, s.head, some (b ++ [c])⟩
    | none => if c = 123 then ⟨s.out, s.head, some []⟩ else ⟨s.out, s.head ++ [c], none⟩
def blocksF (l : List UInt8) : List (List UInt8 × List UInt8) := (l.foldl bstep ⟨[], [], none⟩).out
def flatB (l : List (List UInt8 × List UInt8)) : List Value := l.flatMap fun b => [.string (toB b.1), .string (toB b.2)]
def mostB : Nat := 1000000
theorem lt_of_cell' {w : World} {a : Addr} {v : Value} (h : w.cell? a = some v) : a.block < w.heap.size := by
  unfold World.cell? at h
  split at h
  · rename_i hb
    exact (Array.getElem?_eq_some_iff.1 hb).1
  · cases h
/-- Go's own internal/bytealg.MaxLen holds some number. -/
def Lens (w : World) : Prop := ∃ m, w.cell? ⟨0, 0, none⟩ = some (.int .i64 m)
theorem Lens.lt {w : World} (h : Lens w) : 0 < w.heap.size := by
  obtain ⟨m, hm⟩ := h
  exact lt_of_cell' hm
theorem Lens.below {w w' : World} {B : Nat} (h : Lens w) (hB : 0 < B) (hb : Below B w w') : Lens w' := by
  obtain ⟨m, hm⟩ := h
  exact ⟨m, (hb.cell (p := ⟨0, 0, none⟩) hB).trans hm⟩
theorem Lens.of {w w' : World} (h : Lens w) (hb : Below w.heap.size w w') : Lens w' := h.below h.lt hb
theorem Lens.alloc {w : World} (h : Lens w) (o : Obj) : Lens (w.alloc o) := h.of ((Below.refl _ w).alloc (Nat.le_refl _) o)
def StripC : Prop := ∀ (s : ByteArray) (w : World), Lens w → s.size ≤ mostB → Calls Tryd.prog 10 #[.string s] w fun e w' => e = .returned (.string (onB stripL s)) ∧ Below w.heap.size w w'
def TrimC : Prop := ∀ (s : ByteArray) (w : World), s.size ≤ mostB → Calls Tryd.prog 12 #[.string s] w fun e w' => e = .returned (.string (onB trimL s)) ∧ Below w.heap.size w w'
def LowerC : Prop := ∀ (s : ByteArray) (w : World), s.size ≤ mostB → Calls Tryd.prog 19 #[.string s] w fun e w' => e = .returned (.string (onB lowL s)) ∧ Below w.heap.size w w'
def SplitC : Prop := ∀ (s : ByteArray) (sep : UInt8) (w : World), s.size ≤ mostB → Calls Tryd.prog 15 #[.string s, .int .u8 sep.toNat] w fun e w' =>
  ∃ A n c, e = .returned (.slice A n c) ∧ Reads w' w'.heap.size 1 A n (strs (splitF sep s.data.toList)) ∧ Below w.heap.size w w'
def WordsC : Prop := ∀ (s : ByteArray) (w : World), s.size ≤ mostB → Calls Tryd.prog 17 #[.string s] w fun e w' =>
  ∃ A n c, e = .returned (.slice A n c) ∧ Reads w' w'.heap.size 1 A n (strs (wordsF s.data.toList)) ∧ Below w.heap.size w w'
/-- Blocks, at one text. -/
def BlocksAt (s : ByteArray) : Prop := ∀ (w : World), Lens w → Calls Tryd.prog 8 #[.string s] w fun e w' =>
  ∃ A n c, e = .returned (.slice A n c) ∧ Reads w' w'.heap.size 2 A n (flatB (blocksF s.data.toList)) ∧ Below w.heap.size w w'
def BlocksC : Prop := ∀ (s : ByteArray) (w : World), Lens w → s.size ≤ mostB → Calls Tryd.prog 8 #[.string s] w fun e w' =>
  ∃ A n c, e = .returned (.slice A n c) ∧ Reads w' w'.heap.size 2 A n (flatB (blocksF s.data.toList)) ∧ Below w.heap.size w w'
end Go.Proofs.YthkofdleoigajaaDoor
