/- (*strings.trieNode).add, in the four ways in which a trie of signs meets it. Conditions: as the theorems' premises say. -/
import Derived.Test.YthacboofbbfmlaaDoorRepB
namespace Go.Proofs.YthacboofbbfmlaaDoor
open Go.ChangeShapes Go.WideShapes Go.ChangeAt Go.RowKit
namespace Rep
/-- The world is as it was, but for one block, and those behind. -/
structure Oth (a : Nat) (w w' : World) : Prop where
  os : w'.os = w.os
  tape : w'.tape = w.tape
  output : w'.output = w.output
  size : w.heap.size ≤ w'.heap.size
  block : ∀ b, b < w.heap.size → ¬ b = a → w'.heap[b]? = w.heap[b]?
theorem Oth.refl (a : Nat) (w : World) : Oth a w w := ⟨rfl, rfl, rfl, Nat.le_refl _, fun _ _ _ => rfl⟩
theorem Oth.alloc {a : Nat} {w W : World} (h : Oth a w W) (o : Obj) : Oth a w (W.alloc o) := by
  refine ⟨h.os, h.tape, h.output, by rw [size_al]; exact Nat.le_succ_of_le h.size, fun b hb hn => ?_⟩
  rw [Below.heap_alloc W o b (Nat.lt_of_lt_of_le hb h.size)]
  exact h.block b hb hn
theorem Oth.drew {a : Nat} {w W : World} (h : Oth a w W) : Oth a w W.drew := ⟨h.os, h.tape, h.output, h.size, h.block⟩
theorem Oth.set_ {a : Nat} {w W : World} (h : Oth a w W) {p : Addr} (hp : p.block = a ∨ w.heap.size ≤ p.block) (v : Value) : Oth a w (W.setCell p v) := by
  refine ⟨h.os, h.tape, h.output, by simpa using h.size, fun b hb hn => ?_⟩
  rw [Below.heap_setCell W p v b (by rcases hp with e | e <;> omega)]
  exact h.block b hb hn
theorem Oth.next {a : Nat} {w W W' : World} (h : Oth a w W) (h2 : Below W.heap.size W W') : Oth a w W' :=
  ⟨h2.os.trans h.os, h2.tape.trans h.tape, h2.output.trans h.output, Nat.le_trans h.size h2.size, fun b hb hn => (h2.block b (Nat.lt_of_lt_of_le hb h.size)).trans (h.block b hb hn)⟩
theorem Oth.trans {a b : Nat} {w W W' : World} (h : Oth a w W) (h2 : Oth b W W') (hb : b = a ∨ w.heap.size ≤ b) : Oth a w W' :=
  ⟨h2.os.trans h.os, h2.tape.trans h.tape, h2.output.trans h.output, Nat.le_trans h.size h2.size, fun c hc hn => (h2.block c (Nat.lt_of_lt_of_le hc h.size) (by rcases hb with e | e <;> omega)).trans (h.block c hc hn)⟩
theorem Oth.below {a : Nat} {w0 w W : World} (h : Oth a w W) (hB : Below w0.heap.size w0 w) (ha : w0.heap.size ≤ a) : Below w0.heap.size w0 W :=
  ⟨h.os.trans hB.os, h.tape.trans hB.tape, h.output.trans hB.output, Nat.le_trans hB.size h.size, fun b hb => (h.block b (Nat.lt_of_lt_of_le hb hB.size) (by omega)).trans (hB.block b hb)⟩
theorem blk_oth {w W : World} {g a : Nat} {t : TypeId} {cs : Array Value} (h : Blk w g t cs) (ho : Oth a w W) (hg : ¬ g = a) : Blk W g t cs := (ho.block g h.lt hg).trans h
def nodeC (v : ByteArray) (pr : Int) (pfx : ByteArray) (nx tb : Value) : Array Value := #[.string v, .int .i64 pr, .string pfx, nx, tb]
def ptr (b : Nat) : Value := .pointer (some ⟨b, 0, none⟩)
def nilS : Value := .slice none 0 0
/-- A table of eleven nodes. -/
def tabC (f : Nat → Value) : Array Value := ((List.range 11).map f).toArray
def updV (f : Nat → Value) (i : Nat) (v : Value) : Nat → Value := fun j => if j = i then v else f j
def nilP : Nat → Value := fun _ => .pointer none
theorem tabC_at (f : Nat → Value) {i : Nat} (h : i < 11) : (tabC f)[i]? = some (f i) := by
  unfold tabC
  rw [List.getElem?_toArray, List.getElem?_map, List.getElem?_range h]
  rfl
theorem tabC_set (f : Nat → Value) (i : Nat) (v : Value) : (tabC f).setIfInBounds i v = tabC (updV f i v) := by
  unfold tabC
  rw [List.setIfInBounds_toArray]
  congr 1
  apply List.ext_getElem?
  intro j
  rw [List.getElem?_set]
  by_cases hj : j < 11
  · by_cases e : i = j
    · subst e
      rw [if_pos rfl, if_pos (by simpa using hj), List.getElem?_map, List.getElem?_range hj]
      simp [updV]
    · rw [if_neg e, List.getElem?_map, List.getElem?_map, List.getElem?_range hj]
      simp [updV, Ne.symm e]
  · by_cases e : i = j
    · subst e
      rw [if_pos rfl, if_neg (by simpa using hj)]
      simp [hj]
    · rw [if_neg e]
      simp [hj]
def tabS (T : Nat) : Value := .slice (some ⟨T, 0, none⟩) 11 11
theorem cut_head (c : UInt8) (t : List UInt8) : (toB (c :: t)).extract 1 (t.length + 1) = toB t := by
  refine bytes_inj ?_
  rw [ByteArray.data_extract, Array.toList_extract, List.extract_eq_take_drop]
  show List.take (t.length + 1 - 1) t = t
  rw [List.take_of_length_le (by omega)]
end Rep
end Go.Proofs.YthacboofbbfmlaaDoor
