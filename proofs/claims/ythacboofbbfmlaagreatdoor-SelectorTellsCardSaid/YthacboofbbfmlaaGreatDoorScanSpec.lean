/- What each function of package scan is to answer, as plain propositions over the seat's program. Conditions: none (these are definitions). -/
import Derived.Test.YthacboofbbfmlaaGreatDoorValBase
namespace Go.Proofs.YthacboofbbfmlaaGreatDoor
open Go.ChangeShapes Go.WideShapes Go.ChangeAt Go.RowKit
/-- What was read of blocks: those that ended, the text since, and what stands behind an open brace. -/
structure Bst where
  out : List (List UInt8 × List UInt8)
  head : List UInt8
  body : Option (List UInt8)
def bstep (s : Bst) (c : UInt8) : Bst :=
  if c = 125 then match s.body with
    | some b => ⟨s.out ++ [(trimL s.head, trimL b)], [], none⟩
    | none => ⟨s.out, [], none⟩
  else match s.body with
    | some b => ⟨s.out, s.head, some (b ++ [c])⟩
    | none => if c = 123 then ⟨s.out, s.head, some []⟩ else ⟨s.out, s.head ++ [c], none⟩
def blocksF (l : List UInt8) : List (List UInt8 × List UInt8) := (l.foldl bstep ⟨[], [], none⟩).out
def flatB (l : List (List UInt8 × List UInt8)) : List Value := l.flatMap fun b => [.string (toB b.1), .string (toB b.2)]
/-- Go's own internal/bytealg.MaxLen holds some number. -/
def Lens (w : World) : Prop := ∃ m, w.cell? ⟨0, 0, none⟩ = some (.int .i64 m)
theorem Lens.lt {w : World} (h : Lens w) : 0 < w.heap.size := by
  obtain ⟨m, hm⟩ := h
  exact lt_of_cell' hm
theorem Lens.below {w w' : World} {B : Nat} (h : Lens w) (hB : 0 < B) (hb : Below B w w') : Lens w' := by
  obtain ⟨m, hm⟩ := h
  exact ⟨m, (hb.cell (p := ⟨0, 0, none⟩) hB).trans hm⟩
theorem Lens.of {w w' : World} (h : Lens w) (hb : Below w.heap.size w w') : Lens w' := h.below h.lt hb
theorem Lens.alloc {w : World} (h : Lens w) (o : Obj) : Lens (w.alloc o) := h.of ((Below.refl _ w).alloc (Nat.le_refl _) o)
def SplitC : Prop := ∀ (s : ByteArray) (sep : UInt8) (w : World), s.size ≤ mostB → Calls Tryz.prog 27 #[.string s, .int .u8 sep.toNat] w fun e w' =>
  ∃ A n c, e = .returned (.slice A n c) ∧ Reads w' w'.heap.size 1 A n (strs (splitF sep s.data.toList)) ∧ Below w.heap.size w w'
end Go.Proofs.YthacboofbbfmlaaGreatDoor
