/- (*strings.appendSliceWriter).WriteString, strings.getStringWriter. Conditions: the writer's bytes are the call's own. -/
import Derived.Test.YtdfcahdipalmkaaGreatDoorOnce
import Derived.Test.YtdfcahdipalmkaaGreatDoorScanSpec
import Derived.Test.YtdfcahdipalmkaaGreatDoorKt
import Derived.Laws.Append
import Derived.Deep.RegionWith
import Derived.Deep.Cut
import Derived.Deep.CutRange
import Derived.Deep.DeepCutAuto
import Derived.Test.YtdfcahdipalmkaaGreatDoorShelf
import Derived.Lib.AppendStr
/- The cells of a strings.genericReplacer; loads of an array that lies within a block. Conditions: as the theorems' premises say. -/
namespace Go.Proofs.YtdfcahdipalmkaaGreatDoor
open Go.ChangeShapes Go.WideShapes Go.ChangeAt Go.RowKit
namespace Rep
/-- append, by an equation of its run. -/
theorem wpList_app {P : Program} {ops : Array Oper} {rest : List Oper} {o : Oper} {a : Act} {w : World} {Q : Exit → Act → World → Prop} (hgd : o.guard = none) (s x : Operand) (t : TypeId)
    (ho : o.op = .call { callee := .builtin .append, args := #[s, x], argTypes := #[t, t] }) (v1 v2 vr : Value) (w' : World) (hs : a.eval s = v1) (hx : a.eval x = v2)
    (hrun : (Builtin.append_ #[t, t] o.type #[v1, v2]).run P w = .ok vr w') (h : wpList P ops Q rest (a.put o.dst vr) w') : wpList P ops Q (o :: rest) a w :=
  wpList_plain hgd fun _ hK => by
    unfold Oper.wp execOp
    simp only [ho, resolve, invoke, builtin, Sem.run_bind, Sem.run_pure, Result.andThen_ok, List.map_toArray, List.map_cons, List.map_nil, hs, hx, hrun]
    exact hK _ _ h
/-- Texts lie in a block, from its beginning. -/
def TxAt (w : World) (g : Nat) (l : List (List UInt8)) : Prop := g < w.heap.size ∧ ∀ (j : Nat) (x : Value), (strs l)[j]? = some x → w.cell? ⟨g, j, none⟩ = some x
theorem TxAt.below {B : Nat} {w w' : World} {g : Nat} {l : List (List UInt8)} (h : TxAt w g l) (hb : Below B w w') (hg : g < B) : TxAt w' g l :=
  ⟨Nat.lt_of_lt_of_le h.1 hb.size, fun j x hx => (hb.cell (p := ⟨g, j, none⟩) hg).trans (h.2 j x hx)⟩
theorem TxAt.next {w w' : World} {g : Nat} {l : List (List UInt8)} (h : TxAt w g l) (hb : Below w.heap.size w w') : TxAt w' g l := h.below hb h.1
theorem TxAt.drew {w : World} {g : Nat} {l : List (List UInt8)} (h : TxAt w g l) : TxAt w.drew g l := h
theorem TxAt.alloc {w : World} {g : Nat} {l : List (List UInt8)} (h : TxAt w g l) (o : Obj) : TxAt (w.alloc o) g l := h.next (below_al (Below.refl _ _) o)
theorem TxAt.far {w : World} {g : Nat} {l : List (List UInt8)} (h : TxAt w g l) {p : Addr} (hp : g ≠ p.block) (v : Value) : TxAt (w.setCell p v) g l :=
  ⟨by simpa using h.1, fun j x hx => (World.cell?_setCell_other _ p ⟨g, j, none⟩ _ (fun e => hp (by rw [e]))).trans (h.2 j x hx)⟩
theorem TxAt.at_ {w : World} {g : Nat} {l : List (List UInt8)} (h : TxAt w g l) {j : Nat} {t : List UInt8} (ht : l[j]? = some t) : w.cell? ⟨g, j, none⟩ = some (.string (toB t)) := h.2 j _ (by unfold strs; rw [List.getElem?_map, ht]; rfl)
theorem strs_len2 (xs : List (List UInt8)) : (strs xs).length = xs.length := by unfold strs; simp
theorem str_info : (Tryz.prog.info? 9).map (fun i => (i.zero, i.size, i.bytes)) = some (some (.string ⟨#[]⟩), 1, 16) := by kernel_rfl
theorem str_info' : ∃ i, Tryz.prog.info? 9 = some i ∧ i.zero = some (.string ⟨#[]⟩) ∧ i.size = 1 ∧ i.bytes = 16 := by
  have h := str_info
  cases hi : Tryz.prog.info? 9 with
  | none => rw [hi] at h; cases h
  | some i =>
    rw [hi] at h
    simp only [Option.map_some, Option.some.injEq, Prod.mk.injEq] at h
    exact ⟨i, rfl, h.1, h.2.1, h.2.2⟩
end Rep
end Go.Proofs.YtdfcahdipalmkaaGreatDoor
namespace Go.Proofs.YtdfcahdipalmkaaGreatDoor
open Go.ChangeShapes Go.WideShapes Go.ChangeAt Go.RowKit
namespace Rep
/-- An array or a struct loaded from a place, by its cells. -/
theorem run_loadVar_at {P : Program} (w : World) (p : Addr) (ty : TypeId) (cs : List Value) (d : TypeDesc) (hc : ∀ (j : Nat) (v : Value), cs[j]? = some v → w.cell? (p.add j) = some v)
    (hu : P.underlying ty = some d) (hd : (match d with | .struct _ | .array _ _ => true | _ => false) = true) (hi : (P.info? ty).map (·.size) = some cs.length) :
    (loadVar ty p).run P w = .ok (.agg cs.toArray) w := by
  have hl : (loadCells p cs.length).run P w = .ok cs.toArray w := run_loadCells_list (P := P) w p cs hc
  cases hq : P.info? ty with
  | none => simp [hq] at hi
  | some i =>
    have hs : i.size = cs.length := by simpa [hq] using hi
    have hagg : (isAgg ty).run P w = .ok true w := by
      unfold isAgg
      rw [Sem.run_bind, run_underlying hu w]
      cases d <;> simp_all
    simp [loadVar, Sem.run_bind, hagg, sizeOf, typeInfo, hq, hs, hl]
theorem wpList_load_at {P : Program} {ops : Array Oper} {rest : List Oper} {o : Oper} {a : Act} {w : World} {Q : Exit → Act → World → Prop} (hgd : o.guard = none) (ty : TypeId) (x : Operand) (ho : o.op = .load ty x)
    (p : Addr) (hx : a.eval x = .pointer (some p)) (cs : List Value) (d : TypeDesc) (hc : ∀ (j : Nat) (v : Value), cs[j]? = some v → w.cell? (p.add j) = some v)
    (hu : P.underlying ty = some d) (hd : (match d with | .struct _ | .array _ _ => true | _ => false) = true) (hi : (P.info? ty).map (·.size) = some cs.length)
    (h : wpList P ops Q rest (a.put o.dst (.agg cs.toArray)) w) : wpList P ops Q (o :: rest) a w :=
  wpList_plain hgd fun _ hK => by
    unfold Oper.wp execOp
    simp only [ho, hx, Instr.loadAt, Instr.sureAddr, Sem.run_bind, Sem.run_pure, Result.andThen_ok, run_loadVar_at w p ty cs d hc hu hd hi]
    exact hK _ _ h
/-- The mapping's cells. -/
def mapL (m : Nat → Int) : List Value := (List.range 256).map fun i => .int .u8 (m i)
def genH (tab : Value) (ts : Int) : List Value := [.string ⟨#[]⟩, .int .i64 0, .string ⟨#[]⟩, .pointer none, tab, .int .i64 ts]
def genC (tab : Value) (ts : Int) (m : Nat → Int) : Array Value := (genH tab ts ++ mapL m).toArray
theorem mapL_len (m : Nat → Int) : (mapL m).length = 256 := by unfold mapL; simp
theorem mapL_at (m : Nat → Int) {i : Nat} (h : i < 256) : (mapL m)[i]? = some (.int .u8 (m i)) := by
  unfold mapL
  rw [List.getElem?_map, List.getElem?_range h]
  rfl
theorem genC_at (tab : Value) (ts : Int) (m : Nat → Int) {i : Nat} (h : i < 256) : (genC tab ts m)[6 + i]? = some (.int .u8 (m i)) := by
  unfold genC
  rw [List.getElem?_toArray, List.getElem?_append_right (by show 6 ≤ 6 + i; omega), show 6 + i - (genH tab ts).length = i by show 6 + i - 6 = i; omega]
  exact mapL_at m h
theorem genC_4 (tab : Value) (ts : Int) (m : Nat → Int) : (genC tab ts m)[4]? = some tab := rfl
theorem genC_5 (tab : Value) (ts : Int) (m : Nat → Int) : (genC tab ts m)[5]? = some (.int .i64 ts) := rfl
theorem genC_1 (tab : Value) (ts : Int) (m : Nat → Int) : (genC tab ts m)[1]? = some (.int .i64 0) := rfl
theorem genC_set4 (tab tb : Value) (ts : Int) (m : Nat → Int) : (genC tab ts m).setIfInBounds 4 tb = genC tb ts m := by unfold genC genH; simp
theorem genC_set5 (tab : Value) (ts x : Int) (m : Nat → Int) : (genC tab ts m).setIfInBounds 5 (.int .i64 x) = genC tab x m := by unfold genC genH; simp
def upd (m : Nat → Int) (i : Nat) (v : Int) : Nat → Int := fun j => if j = i then v else m j
theorem mapL_set (m : Nat → Int) (i : Nat) (v : Int) : (mapL m).set i (.int .u8 v) = mapL (upd m i v) := by
  unfold mapL
  apply List.ext_getElem?
  intro j
  rw [List.getElem?_set]
  by_cases hj : j < 256
  · by_cases e : i = j
    · subst e
      rw [if_pos rfl, if_pos (by simpa using hj), List.getElem?_map, List.getElem?_range hj]
      simp [upd]
    · rw [if_neg e, List.getElem?_map, List.getElem?_map, List.getElem?_range hj]
      simp [upd, Ne.symm e]
  · by_cases e : i = j
    · subst e
      rw [if_pos rfl, if_neg (by simpa using hj)]
      simp [hj]
    · rw [if_neg e]
      simp [hj]
theorem genC_set (tab : Value) (ts : Int) (m : Nat → Int) (i : Nat) (v : Int) : (genC tab ts m).setIfInBounds (6 + i) (.int .u8 v) = genC tab ts (upd m i v) := by
  unfold genC
  rw [List.setIfInBounds_toArray, List.set_append_right _ _ (by show 6 ≤ 6 + i; omega), show 6 + i - (genH tab ts).length = i by show 6 + i - 6 = i; omega, mapL_set]
set_option maxRecDepth 100000 in
/-- An array value's part, by its number. -/
theorem idx_map (m : Nat → Int) {k : Nat} (h : k < 256) (w : World) : (Instr.index 236 (.agg (mapL m).toArray) (.int .i64 k)).run Tryz.prog w = .ok (.int .u8 (m k)) w := by
  have h1 := mapL_at m h
  have hu := run_underlying (P := Tryz.prog) Tryz.underlying236
  have k0 : (0 : Int) ≤ (k : Int) := Int.natCast_nonneg _
  have hs := Tryz.sizeOf5
  have ha := Tryz.isAgg5
  simp [Instr.index, asIntOf, hu, k0, part, hs, ha, h, h1]
end Rep
end Go.Proofs.YtdfcahdipalmkaaGreatDoor
/- (*strings.trieNode).add, in the four ways in which a trie of signs meets it. Conditions: as the theorems' premises say. -/
namespace Go.Proofs.YtdfcahdipalmkaaGreatDoor
open Go.ChangeShapes Go.WideShapes Go.ChangeAt Go.RowKit
namespace Rep
/-- The world is as it was, but for one block, and those behind. -/
structure Oth (a : Nat) (w w' : World) : Prop where
  os : w'.os = w.os
  tape : w'.tape = w.tape
  output : w'.output = w.output
  size : w.heap.size ≤ w'.heap.size
  block : ∀ b, b < w.heap.size → ¬ b = a → w'.heap[b]? = w.heap[b]?
theorem Oth.refl (a : Nat) (w : World) : Oth a w w := ⟨rfl, rfl, rfl, Nat.le_refl _, fun _ _ _ => rfl⟩
theorem Oth.alloc {a : Nat} {w W : World} (h : Oth a w W) (o : Obj) : Oth a w (W.alloc o) := by
  refine ⟨h.os, h.tape, h.output, by rw [size_al]; exact Nat.le_succ_of_le h.size, fun b hb hn => ?_⟩
  rw [Below.heap_alloc W o b (Nat.lt_of_lt_of_le hb h.size)]
  exact h.block b hb hn
theorem Oth.drew {a : Nat} {w W : World} (h : Oth a w W) : Oth a w W.drew := ⟨h.os, h.tape, h.output, h.size, h.block⟩
theorem Oth.set_ {a : Nat} {w W : World} (h : Oth a w W) {p : Addr} (hp : p.block = a ∨ w.heap.size ≤ p.block) (v : Value) : Oth a w (W.setCell p v) := by
  refine ⟨h.os, h.tape, h.output, by simpa using h.size, fun b hb hn => ?_⟩
  rw [Below.heap_setCell W p v b (by rcases hp with e | e <;> omega)]
  exact h.block b hb hn
theorem Oth.next {a : Nat} {w W W' : World} (h : Oth a w W) (h2 : Below W.heap.size W W') : Oth a w W' :=
  ⟨h2.os.trans h.os, h2.tape.trans h.tape, h2.output.trans h.output, Nat.le_trans h.size h2.size, fun b hb hn => (h2.block b (Nat.lt_of_lt_of_le hb h.size)).trans (h.block b hb hn)⟩
theorem Oth.trans {a b : Nat} {w W W' : World} (h : Oth a w W) (h2 : Oth b W W') (hb : b = a ∨ w.heap.size ≤ b) : Oth a w W' :=
  ⟨h2.os.trans h.os, h2.tape.trans h.tape, h2.output.trans h.output, Nat.le_trans h.size h2.size, fun c hc hn => (h2.block c (Nat.lt_of_lt_of_le hc h.size) (by rcases hb with e | e <;> omega)).trans (h.block c hc hn)⟩
theorem Oth.below {a : Nat} {w0 w W : World} (h : Oth a w W) (hB : Below w0.heap.size w0 w) (ha : w0.heap.size ≤ a) : Below w0.heap.size w0 W :=
  ⟨h.os.trans hB.os, h.tape.trans hB.tape, h.output.trans hB.output, Nat.le_trans hB.size h.size, fun b hb => (h.block b (Nat.lt_of_lt_of_le hb hB.size) (by omega)).trans (hB.block b hb)⟩
theorem blk_oth {w W : World} {g a : Nat} {t : TypeId} {cs : Array Value} (h : Blk w g t cs) (ho : Oth a w W) (hg : ¬ g = a) : Blk W g t cs := (ho.block g h.lt hg).trans h
def nodeC (v : ByteArray) (pr : Int) (pfx : ByteArray) (nx tb : Value) : Array Value := #[.string v, .int .i64 pr, .string pfx, nx, tb]
def ptr (b : Nat) : Value := .pointer (some ⟨b, 0, none⟩)
def nilS : Value := .slice none 0 0
/-- A table of eleven nodes. -/
def tabC (f : Nat → Value) : Array Value := ((List.range 11).map f).toArray
def updV (f : Nat → Value) (i : Nat) (v : Value) : Nat → Value := fun j => if j = i then v else f j
def nilP : Nat → Value := fun _ => .pointer none
theorem tabC_at (f : Nat → Value) {i : Nat} (h : i < 11) : (tabC f)[i]? = some (f i) := by
  unfold tabC
  rw [List.getElem?_toArray, List.getElem?_map, List.getElem?_range h]
  rfl
theorem tabC_set (f : Nat → Value) (i : Nat) (v : Value) : (tabC f).setIfInBounds i v = tabC (updV f i v) := by
  unfold tabC
  rw [List.setIfInBounds_toArray]
  congr 1
  apply List.ext_getElem?
  intro j
  rw [List.getElem?_set]
  by_cases hj : j < 11
  · by_cases e : i = j
    · subst e
      rw [if_pos rfl, if_pos (by simpa using hj), List.getElem?_map, List.getElem?_range hj]
      simp [updV]
    · rw [if_neg e, List.getElem?_map, List.getElem?_map, List.getElem?_range hj]
      simp [updV, Ne.symm e]
  · by_cases e : i = j
    · subst e
      rw [if_pos rfl, if_neg (by simpa using hj)]
      simp [hj]
    · rw [if_neg e]
      simp [hj]
def tabS (T : Nat) : Value := .slice (some ⟨T, 0, none⟩) 11 11
theorem cut_head (c : UInt8) (t : List UInt8) : (toB (c :: t)).extract 1 (t.length + 1) = toB t := by
  refine bytes_inj ?_
  rw [ByteArray.data_extract, Array.toList_extract, List.extract_eq_take_drop]
  show List.take (t.length + 1 - 1) t = t
  rw [List.take_of_length_le (by omega)]
end Rep
end Go.Proofs.YtdfcahdipalmkaaGreatDoor
/- (*strings.trieNode).add, where a node is turned into a table of two. Conditions: as the theorem's premises say. -/
namespace Go.Proofs.YtdfcahdipalmkaaGreatDoor
open Go.ChangeShapes Go.WideShapes Go.ChangeAt Go.RowKit
namespace Rep
theorem Oth.cell {a : Nat} {w W : World} (h : Oth a w W) {g o : Nat} (hg : g < w.heap.size) (hn : ¬ g = a) : W.cell? ⟨g, o, none⟩ = w.cell? ⟨g, o, none⟩ := by
  have := h.block g hg hn
  simp only [World.cell?, this]
theorem tab_zero : madeCells (Value.pointer none).cells 11 = tabC nilP := by kernel_rfl
end Rep
end Go.Proofs.YtdfcahdipalmkaaGreatDoor
/- strings.makeGenericReplacer, over the four signs. Conditions: the texts lie in memory. -/
namespace Go.Proofs.YtdfcahdipalmkaaGreatDoor
open Go.ChangeShapes Go.WideShapes Go.ChangeAt Go.RowKit
namespace Rep
def tellP : List (List UInt8) := [[38, 108, 116, 59], [60], [38, 103, 116, 59], [62], [38, 97, 109, 112, 59], [38], [38, 113, 117, 111, 116, 59], [34]]
def markB (m : Nat → Int) (key : List UInt8) : Nat → Int := key.foldl (fun m c => upd m c.toNat 1) m
theorem markB_step (m : Nat → Int) (key : List UInt8) (q : Nat) (h : q < key.length) : markB m (key.take (q + 1)) = upd (markB m (key.take q)) (key[q]).toNat 1 := by
  unfold markB
  rw [List.take_succ_eq_append_getElem h, List.foldl_append]
  rfl
def markK (l : List (List UInt8)) : Nat → (Nat → Int)
  | 0 => fun _ => 0
  | k + 1 => markB (markK l k) (l.getD (2 * k) [])
def sumK (m : Nat → Int) : Nat → Int
  | 0 => 0
  | k + 1 => sumK m k + m k
def bits (m : Nat → Int) : Prop := ∀ i, m i = 0 ∨ m i = 1
theorem bits_markB {m : Nat → Int} (h : bits m) : ∀ key : List UInt8, bits (markB m key) := by
  intro key
  induction key generalizing m with
  | nil => exact h
  | cons c t ih =>
    refine ih (m := upd m c.toNat 1) (fun i => ?_)
    unfold upd
    split
    · exact .inr rfl
    · exact h i
theorem bits_markK (l : List (List UInt8)) : ∀ k, bits (markK l k) := by
  intro k
  induction k with
  | zero => exact fun i => .inl rfl
  | succ k ih => exact bits_markB ih _
theorem sumK_le {m : Nat → Int} (h : bits m) : ∀ k : Nat, 0 ≤ sumK m k ∧ sumK m k ≤ k := by
  intro k
  induction k with
  | zero => exact ⟨Int.le_refl _, Int.le_refl _⟩
  | succ k ih => have := h k; unfold sumK; omega
/-- The mapping, when it is turned up to k. -/
def turnK (m : Nat → Int) (ts : Int) (k : Nat) : Nat → Int := fun i => if i < k then (if m i = 0 then ts else sumK m i) else m i
theorem turn_step (m : Nat → Int) (ts : Int) (k : Nat) (v : Int) (hv : v = if m k = 0 then ts else sumK m k) : upd (turnK m ts k) k v = turnK m ts (k + 1) := by
  funext i
  unfold upd turnK
  by_cases e : i = k
  · subst e
    rw [if_pos rfl, if_pos (by omega), hv]
  · rw [if_neg e]
    by_cases h : i < k
    · simp only [h, show i < k + 1 by omega, if_true]
    · simp only [h, show ¬ i < k + 1 by omega, if_false]
theorem turn_zero (m : Nat → Int) (ts : Int) : turnK m ts 0 = m := by funext i; unfold turnK; rw [if_neg (by omega)]
theorem sumK_mono {m : Nat → Int} (h : bits m) {k n : Nat} (hk : k ≤ n) : sumK m k ≤ sumK m n := by
  induction n with
  | zero =>
    obtain rfl : k = 0 := by omega
    exact Int.le_refl _
  | succ n ih =>
    by_cases e : k = n + 1
    · subst e; exact Int.le_refl _
    · have := ih (by omega)
      have := h n
      rw [sumK]
      omega
/-- The mapping of the four signs' bytes. -/
def mapT : Nat → Int := turnK (markK tellP 4) 11 256
theorem mapT_vals : mapT 38 = 0 ∧ mapT 108 = 4 ∧ mapT 103 = 3 ∧ mapT 97 = 2 ∧ mapT 113 = 8 := by decide +kernel
def fT (A : Nat) : Nat → Value := updV (updV nilP 4 (ptr A)) 3 (ptr (A + 1))
theorem Oth.undrew2 {b : Nat} {w w' : World} (h : Oth b w.drew.drew w') : Oth b w w' := ⟨h.os, h.tape, h.output, h.size, h.block⟩
theorem tx_oth {w w' : World} {g b : Nat} {l : List (List UInt8)} (h : TxAt w g l) (hO : Oth b w w') (hb : g < b) : TxAt w' g l :=
  ⟨Nat.lt_of_lt_of_le h.1 hO.size, fun j x hx => (hO.cell h.1 (Nat.ne_of_lt hb)).trans (h.2 j x hx)⟩
end Rep
end Go.Proofs.YtdfcahdipalmkaaGreatDoor
/- (*strings.Replacer).build and buildOnce, over the four signs. Conditions: as the theorems' premises say. -/
namespace Go.Proofs.YtdfcahdipalmkaaGreatDoor
open Go.ChangeShapes Go.WideShapes Go.ChangeAt Go.RowKit
namespace Rep
end Rep
end Go.Proofs.YtdfcahdipalmkaaGreatDoor
/- (*strings.genericReplacer).lookup, over the trie of the four signs. Conditions: the trie lies in memory; the text begins with '&'. -/
namespace Go.Proofs.YtdfcahdipalmkaaGreatDoor
open Go.ChangeShapes Go.WideShapes Go.ChangeAt Go.RowKit
namespace Rep
/-- The sign that a text begins with: what it tells, and how long it is. -/
def sgn (l : List UInt8) : Option (UInt8 × Nat) :=
  if [38, 108, 116, 59].isPrefixOf l then some (60, 4) else if [38, 103, 116, 59].isPrefixOf l then some (62, 4) else if [38, 97, 109, 112, 59].isPrefixOf l then some (38, 5) else if [38, 113, 117, 111, 116, 59].isPrefixOf l then some (34, 6) else none
def sgV : Option (UInt8 × Nat) → Value
  | some x => .tuple #[.string (toB [x.1]), .int .i64 x.2, .bool true]
  | none => .tuple #[.string ⟨#[]⟩, .int .i64 0, .bool false]
theorem mapT_fin : ∀ c : Fin 256, (0 ≤ mapT c.val ∧ mapT c.val ≤ 11) ∧ (mapT c.val = 4 ↔ c.val = 108) ∧ (mapT c.val = 3 ↔ c.val = 103) ∧ (mapT c.val = 2 ↔ c.val = 97) ∧ (mapT c.val = 8 ↔ c.val = 113) := by decide +kernel
theorem pre_cons (c d : UInt8) (a b : List UInt8) : (c :: a).isPrefixOf (d :: b) = (decide (c = d) && a.isPrefixOf b) := by
  by_cases h : c = d
  · subst h; simp [List.isPrefixOf]
  · have : (c == d) = false := beq_eq_false_iff_ne.2 h
    simp [List.isPrefixOf, this, h]
theorem sgn_lt (u : List UInt8) : sgn (38 :: 108 :: u) = if [116, 59].isPrefixOf u then some (60, 4) else none := by
  unfold sgn
  simp [List.isPrefixOf]
theorem sgn_gt (u : List UInt8) : sgn (38 :: 103 :: u) = if [116, 59].isPrefixOf u then some (62, 4) else none := by
  unfold sgn
  simp [List.isPrefixOf]
theorem sgn_amp (u : List UInt8) : sgn (38 :: 97 :: u) = if [109, 112, 59].isPrefixOf u then some (38, 5) else none := by
  unfold sgn
  simp [List.isPrefixOf]
theorem sgn_quot (u : List UInt8) : sgn (38 :: 113 :: u) = if [117, 111, 116, 59].isPrefixOf u then some (34, 6) else none := by
  unfold sgn
  simp [List.isPrefixOf]
theorem sgn_no {c : UInt8} (u : List UInt8) (h1 : ¬ c = 108) (h2 : ¬ c = 103) (h3 : ¬ c = 97) (h4 : ¬ c = 113) : sgn (38 :: c :: u) = none := by
  unfold sgn
  have e : ∀ d : UInt8, ¬ c = d → (d == c) = false := fun d h => beq_eq_false_iff_ne.2 (fun q => h q.symm)
  simp [List.isPrefixOf, e _ h1, e _ h2, e _ h3, e _ h4]
theorem cons_full (c : UInt8) (t : List UInt8) : (toB (c :: t)).toList.isEmpty = false := by
  rw [List.isEmpty_eq_false_iff, ByteArray.toList_eq]
  exact List.cons_ne_nil _ _
theorem nil_empty : (toB []).toList.isEmpty = true := by
  rw [List.isEmpty_iff, ByteArray.toList_eq]
  rfl
/-! lookup -/
end Rep
end Go.Proofs.YtdfcahdipalmkaaGreatDoor
namespace Go.Proofs.YtdfcahdipalmkaaGreatDoor
open Go.ChangeShapes Go.WideShapes Go.ChangeAt Go.RowKit Go.Lib
namespace Rep
/-- append, of any two types, by an equation of its run. -/
theorem wpList_app2 {P : Program} {ops : Array Oper} {rest : List Oper} {o : Oper} {a : Act} {w : World} {Q : Exit → Act → World → Prop} (hgd : o.guard = none) (s x : Operand) (t u : TypeId)
    (ho : o.op = .call { callee := .builtin .append, args := #[s, x], argTypes := #[t, u] }) (v1 v2 vr : Value) (w' : World) (hs : a.eval s = v1) (hx : a.eval x = v2)
    (hrun : (Builtin.append_ #[t, u] o.type #[v1, v2]).run P w = .ok vr w') (h : wpList P ops Q rest (a.put o.dst vr) w') : wpList P ops Q (o :: rest) a w :=
  wpList_plain hgd fun _ hK => by
    unfold Oper.wp execOp
    simp only [ho, resolve, invoke, builtin, Sem.run_bind, Sem.run_pure, Result.andThen_ok, List.map_toArray, List.map_cons, List.map_nil, hs, hx, hrun]
    exact hK _ _ h
theorem strCells_bv (s : ByteArray) : strCells s = s.data.toList.map bv := by
  unfold strCells bv
  simp
theorem bys_slice {w : World} {base : Nat} {v : Value} {l : List UInt8} (h : Bys w base v l) : ∃ A n c, v = .slice A n c := by
  rcases h.2 with ⟨rfl, _⟩ | ⟨g, cap, cur, rfl, _⟩
  · exact ⟨_, _, _, rfl⟩
  · exact ⟨_, _, _, rfl⟩
/-- The texts that the four signs tell. -/
def tellF : Nat → List UInt8 → List UInt8
  | 0, _ => []
  | _ + 1, [] => []
  | f + 1, c :: t => match sgn (c :: t) with
    | some x => x.1 :: tellF f ((c :: t).drop x.2)
    | none => c :: tellF f t
def tellL (l : List UInt8) : List UInt8 := tellF (l.length + 1) l
theorem sgn_not {c : UInt8} (t : List UInt8) (h : ¬ c = 38) : sgn (c :: t) = none := by
  have e : ((38 : UInt8) == c) = false := beq_eq_false_iff_ne.2 (fun q => h q.symm)
  unfold sgn
  simp [List.isPrefixOf, e]
theorem sgn_pos {l : List UInt8} {x : UInt8 × Nat} (h : sgn l = some x) : 0 < x.2 ∧ x.2 ≤ l.length := by
  unfold sgn at h
  split at h
  · rename_i hp; have := (List.isPrefixOf_iff_prefix.1 hp).length_le; obtain rfl := Option.some.inj h; exact ⟨by decide, this⟩
  · split at h
    · rename_i hp; have := (List.isPrefixOf_iff_prefix.1 hp).length_le; obtain rfl := Option.some.inj h; exact ⟨by decide, this⟩
    · split at h
      · rename_i hp; have := (List.isPrefixOf_iff_prefix.1 hp).length_le; obtain rfl := Option.some.inj h; exact ⟨by decide, this⟩
      · split at h
        · rename_i hp; have := (List.isPrefixOf_iff_prefix.1 hp).length_le; obtain rfl := Option.some.inj h; exact ⟨by decide, this⟩
        · cases h
theorem tellF_more : ∀ (f g : Nat) (l : List UInt8), l.length < f → l.length < g → tellF f l = tellF g l := by
  intro f
  induction f with
  | zero => intro g l h; omega
  | succ f ih =>
    intro g l hf hg
    cases g with
    | zero => omega
    | succ g =>
      cases l with
      | nil => rfl
      | cons c t =>
        rw [List.length_cons] at hf hg
        unfold tellF
        cases hs : sgn (c :: t) with
        | none => simp only; rw [ih g t (by omega) (by omega)]
        | some x =>
          obtain ⟨p1, p2⟩ := sgn_pos hs
          rw [List.length_cons] at p2
          have hl : ((c :: t).drop x.2).length = t.length + 1 - x.2 := by rw [List.length_drop, List.length_cons]
          simp only
          rw [ih g ((c :: t).drop x.2) (by omega) (by omega)]
theorem tellL_nil : tellL [] = [] := rfl
theorem tellL_no {c : UInt8} {t : List UInt8} (h : sgn (c :: t) = none) : tellL (c :: t) = c :: tellL t := by
  unfold tellL
  rw [List.length_cons, tellF, h]
theorem tellL_yes {c : UInt8} {t : List UInt8} {x : UInt8 × Nat} (h : sgn (c :: t) = some x) : tellL (c :: t) = x.1 :: tellL ((c :: t).drop x.2) := by
  obtain ⟨p1, p2⟩ := sgn_pos h
  rw [List.length_cons] at p2
  unfold tellL
  rw [List.length_cons, tellF, h]
  simp only
  rw [tellF_more (t.length + 1) (((c :: t).drop x.2).length + 1) _ (by rw [List.length_drop, List.length_cons]; omega) (by omega)]
end Rep
end Go.Proofs.YtdfcahdipalmkaaGreatDoor
