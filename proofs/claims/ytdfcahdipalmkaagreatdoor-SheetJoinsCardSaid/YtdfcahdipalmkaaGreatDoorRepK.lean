/- (*strings.Replacer).Replace over the four signs, and token.Tell. Conditions: the text is not too long. -/
import Derived.Test.YtdfcahdipalmkaaGreatDoorRepH
/- (*strings.genericReplacer).WriteString, over the four signs. Conditions: the trie lies in memory; the writer's bytes are the call's own; the text is not too long. -/
namespace Go.Proofs.YtdfcahdipalmkaaGreatDoor
open Go.ChangeShapes Go.WideShapes Go.ChangeAt Go.RowKit
namespace Rep
theorem mapT_zero : ∀ c : Fin 256, mapT c.val = 0 ↔ c.val = 38 := by decide +kernel
theorem below_write {w0 w wm : World} {v v' : Value} {l : List UInt8} {b : Nat} (hb : Below w0.heap.size w0 w) (hown : Bys w w0.heap.size v l) (hg : w.grownBy wm v.ownBlock) (hw : w0.heap.size ≤ b) : Below w0.heap.size w0 (wm.setCell ⟨b, 0, none⟩ v') :=
  below_set (hb.grown hg hb.size (fun k hk => (hown.lt k hk).1)) (p := ⟨b, 0, none⟩) hw v'
theorem take_more (l : List UInt8) (j k : Nat) (hjk : j ≤ k) (hk : k < l.length) : (l.drop j).take (k + 1 - j) = (l.drop j).take (k - j) ++ [l[k]] := by
  rw [show k + 1 - j = (k - j) + 1 by omega, List.take_succ_eq_append_getElem (by rw [List.length_drop]; omega)]
  congr 2
  rw [List.getElem_drop]
  congr 1
  omega
theorem ext_end (s : ByteArray) (n : Nat) : (s.extract n s.size).data.toList = s.data.toList.drop n := by
  rw [ByteArray.data_extract, Array.toList_extract, List.extract_eq_take_drop]
  rw [List.take_of_length_le]
  rw [List.length_drop, size_list]
  exact Nat.le_refl _
/-- What WriteString has written, and what it has still to write. -/
def Wr (l acc : List UInt8) (j k : Nat) : Prop := tellL l = acc ++ ((l.drop j).take (k - j) ++ tellL (l.drop k))
theorem wr_on {l acc : List UInt8} {j k : Nat} (h : Wr l acc j k) (hjk : j ≤ k) (hk : k < l.length) (hs : sgn (l.drop k) = none) : Wr l acc j (k + 1) := by
  unfold Wr at *
  have hd := List.drop_eq_getElem_cons hk
  rw [h, take_more l j k hjk hk, List.append_assoc]
  congr 2
  rw [hd] at hs ⊢
  rw [tellL_no hs]
  rfl
theorem wr_sign {l acc : List UInt8} {j k : Nat} {x : UInt8 × Nat} (h : Wr l acc j k) (hk : k < l.length) (hs : sgn (l.drop k) = some x) : Wr l (acc ++ (l.drop j).take (k - j) ++ [x.1]) (k + x.2) (k + x.2) := by
  unfold Wr at *
  have hd := List.drop_eq_getElem_cons hk
  rw [h, Nat.sub_self, List.take_zero, List.nil_append]
  rw [hd] at hs
  rw [show tellL (l.drop k) = x.1 :: tellL (l.drop (k + x.2)) by
    rw [hd, tellL_yes hs, ← hd, List.drop_drop]]
  simp
theorem wr_end {l acc : List UInt8} {j : Nat} (h : Wr l acc j l.length) : tellL l = acc ++ l.drop j := by
  unfold Wr at h
  rw [h, List.drop_length, tellL_nil, List.append_nil, List.take_of_length_le (by rw [List.length_drop]; exact Nat.le_refl _)]
end Rep
end Go.Proofs.YtdfcahdipalmkaaGreatDoor
/- (*strings.genericReplacer).Replace, over the four signs. Conditions: the trie lies in memory; the text is not too long. -/
namespace Go.Proofs.YtdfcahdipalmkaaGreatDoor
open Go.ChangeShapes Go.WideShapes Go.ChangeAt Go.RowKit
namespace Rep
end Rep
end Go.Proofs.YtdfcahdipalmkaaGreatDoor
namespace Go.Proofs.YtdfcahdipalmkaaGreatDoor
open Go.ChangeShapes Go.WideShapes Go.ChangeAt Go.RowKit
namespace Rep
theorem tx_new (w : World) (l : List (List UInt8)) (t : TypeId) : TxAt (w.alloc (.cells (strs l).toArray t)) w.heap.size l := by
  refine ⟨by rw [size_al]; exact Nat.lt_succ_self _, fun j x hj => ?_⟩
  refine ((Blk.new w t (strs l).toArray).cell j).trans ?_
  simpa using hj
end Rep
end Go.Proofs.YtdfcahdipalmkaaGreatDoor
