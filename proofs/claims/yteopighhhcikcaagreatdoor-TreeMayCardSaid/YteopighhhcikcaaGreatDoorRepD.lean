/- (*strings.trieNode).add, in the four ways in which a trie of signs meets it. Conditions: as the theorems' premises say. -/
import Derived.Test.YteopighhhcikcaaGreatDoorRepB
namespace Go.Proofs.YteopighhhcikcaaGreatDoor
open Go.ChangeShapes Go.WideShapes Go.ChangeAt Go.RowKit
namespace Rep
/-- The world is as it was, but for one block, and those behind. -/
structure Oth (a : Nat) (w w' : World) : Prop where
  os : w'.os = w.os
  tape : w'.tape = w.tape
  output : w'.output = w.output
  size : w.heap.size ≤ w'.heap.size
  block : ∀ b, b < w.heap.size → ¬ b = a → w'.heap[b]? = w.heap[b]?
theorem Oth.refl (a : Nat) (w : World) : Oth a w w := ⟨rfl, rfl, rfl, Nat.le_refl _, fun _ _ _ => rfl⟩
theorem Oth.alloc {a : Nat} {w W : World} (h : Oth a w W) (o : Obj) : Oth a w (W.alloc o) := by
  refine ⟨h.os, h.tape, h.output, by rw [size_al]; exact Nat.le_succ_of_le h.size, fun b hb hn => ?_⟩
  rw [Below.heap_alloc W o b (Nat.lt_of_lt_of_le hb h.size)]
  exact h.block b hb hn
theorem Oth.drew {a : Nat} {w W : World} (h : Oth a w W) : Oth a w W.drew := ⟨h.os, h.tape, h.output, h.size, h.block⟩
theorem Oth.set_ {a : Nat} {w W : World} (h : Oth a w W) {p : Addr} (hp : p.block = a ∨ w.heap.size ≤ p.block) (v : Value) : Oth a w (W.setCell p v) := by
  refine ⟨h.os, h.tape, h.output, by simpa using h.size, fun b hb hn => ?_⟩
  rw [Below.heap_setCell W p v b (by rcases hp with e | e <;> omega)]
  exact h.block b hb hn
theorem Oth.next {a : Nat} {w W W' : World} (h : Oth a w W) (h2 : Below W.heap.size W W') : Oth a w W' :=
  ⟨h2.os.trans h.os, h2.tape.trans h.tape, h2.output.trans h.output, Nat.le_trans h.size h2.size, fun b hb hn => (h2.block b (Nat.lt_of_lt_of_le hb h.size)).trans (h.block b hb hn)⟩
theorem Oth.trans {a b : Nat} {w W W' : World} (h : Oth a w W) (h2 : Oth b W W') (hb : b = a ∨ w.heap.size ≤ b) : Oth a w W' :=
  ⟨h2.os.trans h.os, h2.tape.trans h.tape, h2.output.trans h.output, Nat.le_trans h.size h2.size, fun c hc hn => (h2.block c (Nat.lt_of_lt_of_le hc h.size) (by rcases hb with e | e <;> omega)).trans (h.block c hc hn)⟩
theorem Oth.below {a : Nat} {w0 w W : World} (h : Oth a w W) (hB : Below w0.heap.size w0 w) (ha : w0.heap.size ≤ a) : Below w0.heap.size w0 W :=
  ⟨h.os.trans hB.os, h.tape.trans hB.tape, h.output.trans hB.output, Nat.le_trans hB.size h.size, fun b hb => (h.block b (Nat.lt_of_lt_of_le hb hB.size) (by omega)).trans (hB.block b hb)⟩
theorem blk_oth {w W : World} {g a : Nat} {t : TypeId} {cs : Array Value} (h : Blk w g t cs) (ho : Oth a w W) (hg : ¬ g = a) : Blk W g t cs := (ho.block g h.lt hg).trans h
def nodeC (v : ByteArray) (pr : Int) (pfx : ByteArray) (nx tb : Value) : Array Value := #[.string v, .int .i64 pr, .string pfx, nx, tb]
def ptr (b : Nat) : Value := .pointer (some ⟨b, 0, none⟩)
def nilS : Value := .slice none 0 0
set_option maxRecDepth 100000 in
set_option maxHeartbeats 4000000 in
/-- The empty key: the node's value and priority. -/
theorem add_empty (a : Nat) (v : ByteArray) (p : ByteArray) (n t : Value) (val : ByteArray) (prio : Int) (r : Value) (w : World) (K : Blk w a 219 (nodeC v 0 p n t)) :
    Calls Tryz.prog 166 #[ptr a, .string ⟨#[]⟩, .string val, .int .i64 prio, r] w fun e w' => e = .returned (.tuple #[]) ∧ Blk w' a 219 (nodeC val prio p n t) ∧ Oth a w w' := by
  have c0 := K.cell 0
  have c1 := K.cell 1
  have f0 := K.frozen 0
  have f1 := K.frozen 1
  have Kn : Blk ((w.setCell ⟨a, 0, none⟩ (.string val)).setCell ⟨a, 1, none⟩ (.int .i64 prio)) a 219 (nodeC val prio p n t) := (K.set_ 0 (.string val)).set_ 1 (.int .i64 prio)
  have hO := ((Oth.refl a w).set_ (p := ⟨a, 0, none⟩) (.inl rfl) (.string val)).set_ (p := ⟨a, 1, none⟩) (.inl rfl) (.int .i64 prio)
  unfold nodeC at c0 c1
  unfold ptr
  go_enter Tryz.func166, Tryz.ntmps166
  go_wp2
  refine bodyPost_ret (results_none rfl _ _ _) rfl ?_
  exact ⟨rfl, Kn, hO⟩
set_option maxRecDepth 100000 in
set_option maxHeartbeats 4000000 in
/-- A fresh node, and a key: the key is its prefix, and the node behind it has the value. -/
theorem add_fresh (a : Nat) (key : List UInt8) (hk : key ≠ []) (val : ByteArray) (prio : Int) (r : Value) (w : World) (K : Blk w a 219 (nodeC ⟨#[]⟩ 0 ⟨#[]⟩ (.pointer none) nilS)) :
    Calls Tryz.prog 166 #[ptr a, .string (toB key), .string val, .int .i64 prio, r] w fun e w' => e = .returned (.tuple #[]) ∧ Blk w' a 219 (nodeC ⟨#[]⟩ 0 (toB key) (ptr w.heap.size) nilS) ∧
      Blk w' w.heap.size 219 (nodeC val prio ⟨#[]⟩ (.pointer none) nilS) ∧ Oth a w w' := by
  have c2 := K.cell 2
  have c3 := K.cell 3
  have c4 := K.cell 4
  have f2 := K.frozen 2
  have f3 := K.frozen 3
  have hlt := K.lt
  have hne : (toB key).toList.isEmpty = false := by
    rw [List.isEmpty_eq_false_iff, ByteArray.toList_eq]
    exact hk
  have hN := Nat.ne_of_lt hlt
  unfold nodeC nilS at c2 c3 c4
  unfold ptr
  go_enter Tryz.func166, Tryz.ntmps166
  go_upto_region 34 with (fail)
  have K2 : Blk ((w.setCell ⟨a, 2, none⟩ (.string (toB key))).setCell ⟨a, 3, none⟩ (ptr w.heap.size)) a 219 (nodeC ⟨#[]⟩ 0 (toB key) (ptr w.heap.size) nilS) := (K.set_ 2 (.string (toB key))).set_ 3 (ptr w.heap.size)
  have hO2 := ((Oth.refl a w).set_ (p := ⟨a, 2, none⟩) (.inl rfl) (.string (toB key))).set_ (p := ⟨a, 3, none⟩) (.inl rfl) (ptr w.heap.size)
  have hs2 : ((w.setCell ⟨a, 2, none⟩ (.string (toB key))).setCell ⟨a, 3, none⟩ (ptr w.heap.size)).heap.size = w.heap.size := by simp
  have KN := Blk.new ((w.setCell ⟨a, 2, none⟩ (.string (toB key))).setCell ⟨a, 3, none⟩ (ptr w.heap.size)) 219 (nodeC ⟨#[]⟩ 0 ⟨#[]⟩ (.pointer none) nilS)
  have K3 := K2.alloc (.cells (nodeC ⟨#[]⟩ 0 ⟨#[]⟩ (.pointer none) nilS) 219)
  have hO3 := hO2.alloc (.cells (nodeC ⟨#[]⟩ 0 ⟨#[]⟩ (.pointer none) nilS) 219)
  rw [hs2] at KN
  unfold ptr nilS nodeC at KN K3 hO3
  generalize ((w.setCell ⟨a, 2, none⟩ (.string (toB key))).setCell ⟨a, 3, none⟩ (.pointer (some ⟨w.heap.size, 0, none⟩))).alloc (.cells #[.string ⟨#[]⟩, .int .i64 0, .string ⟨#[]⟩, .pointer none, .slice none 0 0] 219) = E at *
  have ce := fun r => add_empty w.heap.size ⟨#[]⟩ ⟨#[]⟩ (.pointer none) nilS val prio r E KN
  have k3 := K3.cell 3
  unfold ptr at ce
  clear c2 c3 c4 f2 f3 K2 hO2 hs2
  go_wp2_with (go_at_call 166; (with_reducible refine (ce _).mono ?_); rintro e w1 ⟨rfl, KN1, hO1⟩)
  first | go_end0 | refine bodyPost_ret (results_none rfl _ _ _) rfl ?_
  exact ⟨rfl, blk_oth K3 hO1 hN, KN1, hO3.trans hO1 (.inr (Nat.le_refl _))⟩
/-- A table of eleven nodes. -/
def tabC (f : Nat → Value) : Array Value := ((List.range 11).map f).toArray
def updV (f : Nat → Value) (i : Nat) (v : Value) : Nat → Value := fun j => if j = i then v else f j
def nilP : Nat → Value := fun _ => .pointer none
theorem tabC_at (f : Nat → Value) {i : Nat} (h : i < 11) : (tabC f)[i]? = some (f i) := by
  unfold tabC
  rw [List.getElem?_toArray, List.getElem?_map, List.getElem?_range h]
  rfl
theorem tabC_set (f : Nat → Value) (i : Nat) (v : Value) : (tabC f).setIfInBounds i v = tabC (updV f i v) := by
  unfold tabC
  rw [List.setIfInBounds_toArray]
  congr 1
  apply List.ext_getElem?
  intro j
  rw [List.getElem?_set]
  by_cases hj : j < 11
  · by_cases e : i = j
    · subst e
      rw [if_pos rfl, if_pos (by simpa using hj), List.getElem?_map, List.getElem?_range hj]
      simp [updV]
    · rw [if_neg e, List.getElem?_map, List.getElem?_map, List.getElem?_range hj]
      simp [updV, Ne.symm e]
  · by_cases e : i = j
    · subst e
      rw [if_pos rfl, if_neg (by simpa using hj)]
      simp [hj]
    · rw [if_neg e]
      simp [hj]
def tabS (T : Nat) : Value := .slice (some ⟨T, 0, none⟩) 11 11
set_option maxRecDepth 100000 in
set_option maxHeartbeats 4000000 in
/-- A table that has no node for the key's first byte. -/
theorem add_new (a T G : Nat) (c : UInt8) (t : List UInt8) (ht : t ≠ []) (ix : Nat) (hix : ix < 11) (f : Nat → Value) (hf : f ix = .pointer none) (val : ByteArray) (prio : Int) (w : World)
    (h2 : w.cell? ⟨a, 2, none⟩ = some (.string ⟨#[]⟩)) (h4 : w.cell? ⟨a, 4, none⟩ = some (tabS T)) (KT : Blk w T 216 (tabC f)) (hm : w.cell? ⟨G, 6 + c.toNat, none⟩ = some (.int .u8 (ix : Int))) (haT : ¬ a = T) :
    Calls Tryz.prog 166 #[ptr a, .string (toB (c :: t)), .string val, .int .i64 prio, ptr G] w fun e w' => e = .returned (.tuple #[]) ∧ Blk w' T 216 (tabC (updV f ix (ptr w.heap.size))) ∧
      Blk w' w.heap.size 219 (nodeC ⟨#[]⟩ 0 (toB t) (ptr (w.heap.size + 1)) nilS) ∧ Blk w' (w.heap.size + 1) 219 (nodeC val prio ⟨#[]⟩ (.pointer none) nilS) ∧ Oth T w w' := by
  have hne : (toB (c :: t)).toList.isEmpty = false := by
    rw [List.isEmpty_eq_false_iff, ByteArray.toList_eq]
    exact List.cons_ne_nil _ _
  have hz : (toB (c :: t)).size = t.length + 1 := by rw [toB_size]; rfl
  have hz0 : 0 < (toB (c :: t)).size := by omega
  have hg0 : (toB (c :: t))[0]'hz0 = c := rfl
  have x0 := KT.cell ix
  rw [tabC_at f hix, hf] at x0
  have f0 := KT.frozen ix
  have hlt := KT.lt
  have i0 : (0 : Int) ≤ (ix : Int) := Int.natCast_nonneg _
  have i1 : (ix : Int) < 11 := by omega
  have c0 : (0 : Int) ≤ (c.toNat : Int) := Int.natCast_nonneg _
  have c2 : c.toNat < 256 := c.toNat_lt
  have c1 : (c.toNat : Int) < 256 := by omega
  unfold tabS at h4
  unfold ptr
  go_enter Tryz.func166, Tryz.ntmps166
  go_upto_region 28 with (fail)
  go_region
  go_upto_region 31 with (fail)
  have KT2 := KT.set_ ix (ptr w.heap.size)
  rw [tabC_set] at KT2
  have hO2 := (Oth.refl T w).set_ (p := ⟨T, ix, none⟩) (.inl rfl) (ptr w.heap.size)
  have hs2 : (w.setCell ⟨T, ix, none⟩ (ptr w.heap.size)).heap.size = w.heap.size := by simp
  have KN2 := Blk.new (w.setCell ⟨T, ix, none⟩ (ptr w.heap.size)) 219 (nodeC ⟨#[]⟩ 0 ⟨#[]⟩ (.pointer none) nilS)
  rw [hs2] at KN2
  have hal : a < w.heap.size := lt_of_cell' h4
  have e42 : ((w.setCell ⟨T, ix, none⟩ (ptr w.heap.size)).alloc (.cells (nodeC ⟨#[]⟩ 0 ⟨#[]⟩ (.pointer none) nilS) 219)).cell? ⟨a, 4, none⟩ = some (.slice (some ⟨T, 0, none⟩) 11 11) := by
    rw [World.cell?_alloc_past _ _ _ (by rw [hs2]; exact hal)]
    exact (World.cell?_setCell_other _ ⟨T, ix, none⟩ ⟨a, 4, none⟩ _ (fun e => haT (by injection e with e1; exact e1.symm))).trans h4
  have hs3 : ((w.setCell ⟨T, ix, none⟩ (ptr w.heap.size)).alloc (.cells (nodeC ⟨#[]⟩ 0 ⟨#[]⟩ (.pointer none) nilS) 219)).heap.size = w.heap.size + 1 := by rw [size_al, hs2]
  generalize hE : ((w.setCell ⟨T, ix, none⟩ (.pointer (some ⟨w.heap.size, 0, none⟩))).alloc (.cells #[.string ⟨#[]⟩, .int .i64 0, .string ⟨#[]⟩, .pointer none, .slice none 0 0] 219)).drew = E
  have KN : Blk E w.heap.size 219 (nodeC ⟨#[]⟩ 0 ⟨#[]⟩ (.pointer none) nilS) := by rw [← hE]; exact KN2
  have KT3 : Blk E T 216 (tabC (updV f ix (ptr w.heap.size))) := by rw [← hE]; exact KT2.alloc _
  have hO3 : Oth T w E := by rw [← hE]; exact (hO2.alloc _).drew
  have e4 : E.cell? ⟨a, 4, none⟩ = some (.slice (some ⟨T, 0, none⟩) 11 11) := by rw [← hE]; exact e42
  have hs : E.heap.size = w.heap.size + 1 := by rw [← hE]; exact hs3
  clear hE hs3 e42 KN2 hs2 hO2 KT2 KT hm x0 f0 h2 h4
  have xT := KT3.cell ix
  rw [tabC_at _ hix] at xT
  rw [show updV f ix (ptr w.heap.size) ix = .pointer (some ⟨w.heap.size, 0, none⟩) by unfold updV ptr; rw [if_pos rfl]] at xT
  have cf := add_fresh w.heap.size t ht val prio (ptr G) E.drew KN
  have hcut : (toB (c :: t)).extract 1 (toB (c :: t)).size = toB t := by
    refine bytes_inj ?_
    rw [ByteArray.data_extract, Array.toList_extract, List.extract_eq_take_drop]
    show List.take ((toB (c :: t)).size - 1) t = t
    rw [List.take_of_length_le (by omega)]
  rw [hz] at hcut
  unfold ptr at cf
  have HS := Lib.hid hs
  clear hs
  have hNT2 : ¬ T = w.heap.size := Nat.ne_of_lt hlt
  have h62 : E.drew.heap.size = w.heap.size + 1 := HS.out
  rw [h62] at cf
  clear h62
  first
  | (go_region_with (first
      | (go_at_call 166; (with_reducible refine cf.mono ?_); rintro e w1 ⟨rfl, KN1, KM1, hO1⟩)))
  | (fail)
  all_goals
    go_wp2
    first | go_end0 | refine bodyPost_ret (results_none rfl _ _ _) rfl ?_
    exact ⟨rfl, blk_oth KT3.drew hO1 hNT2, KN1, KM1, hO3.drew.trans hO1 (.inr (Nat.le_refl _))⟩
theorem cut_head (c : UInt8) (t : List UInt8) : (toB (c :: t)).extract 1 (t.length + 1) = toB t := by
  refine bytes_inj ?_
  rw [ByteArray.data_extract, Array.toList_extract, List.extract_eq_take_drop]
  show List.take (t.length + 1 - 1) t = t
  rw [List.take_of_length_le (by omega)]
set_option maxRecDepth 100000 in
set_option maxHeartbeats 4000000 in
/-- A table that has a node for the key's first byte. -/
theorem add_down (a T G N : Nat) (c : UInt8) (t : List UInt8) (ix : Nat) (hix : ix < 11) (f : Nat → Value) (hf : f ix = ptr N) (val : ByteArray) (prio : Int) (w : World)
    (h2 : w.cell? ⟨a, 2, none⟩ = some (.string ⟨#[]⟩)) (h4 : w.cell? ⟨a, 4, none⟩ = some (tabS T)) (KT : Blk w T 216 (tabC f)) (hm : w.cell? ⟨G, 6 + c.toNat, none⟩ = some (.int .u8 (ix : Int))) (R : World → Prop)
    (hcall : Calls Tryz.prog 166 #[ptr N, .string (toB t), .string val, .int .i64 prio, ptr G] w.drew.drew fun e w' => e = .returned (.tuple #[]) ∧ R w') :
    Calls Tryz.prog 166 #[ptr a, .string (toB (c :: t)), .string val, .int .i64 prio, ptr G] w fun e w' => e = .returned (.tuple #[]) ∧ R w' := by
  have hne : (toB (c :: t)).toList.isEmpty = false := by
    rw [List.isEmpty_eq_false_iff, ByteArray.toList_eq]
    exact List.cons_ne_nil _ _
  have hz : (toB (c :: t)).size = t.length + 1 := by rw [toB_size]; rfl
  have hz0 : 0 < (toB (c :: t)).size := by omega
  have hg0 : (toB (c :: t))[0]'hz0 = c := rfl
  have x0 := KT.cell ix
  rw [tabC_at f hix, hf] at x0
  have i0 : (0 : Int) ≤ (ix : Int) := Int.natCast_nonneg _
  have i1 : (ix : Int) < 11 := by omega
  have c0 : (0 : Int) ≤ (c.toNat : Int) := Int.natCast_nonneg _
  have c2 : c.toNat < 256 := c.toNat_lt
  have c1 : (c.toNat : Int) < 256 := by omega
  have hcut := cut_head c t
  unfold tabS at h4
  unfold ptr at *
  go_enter Tryz.func166, Tryz.ntmps166
  go_upto_region 28 with (fail)
  go_region
  go_upto_region 31 with (fail)
  first
  | (go_region_with (first
      | (go_at_call 166; (with_reducible refine hcall.mono ?_); rintro e w1 ⟨rfl, hR⟩)))
  | (fail)
  all_goals
    go_wp2
    first | go_end0 | refine bodyPost_ret (results_none rfl _ _ _) rfl ?_
    exact ⟨rfl, hR⟩
end Rep
end Go.Proofs.YteopighhhcikcaaGreatDoor
