/- The cells of a strings.genericReplacer; loads of an array that lies within a block. Conditions: as the theorems' premises say. -/
import Derived.Test.YthacboofbbfmlaaDoorOnce
import Derived.Test.YthacboofbbfmlaaDoorScanMath
import Derived.Test.YthacboofbbfmlaaDoorValBase
import Derived.Test.YthacboofbbfmlaaDoorAppend
import Derived.Laws.Append
import Derived.Deep.RegionWith
import Derived.Deep.Cut
import Derived.Deep.CutRange
import Derived.Deep.DeepCutAuto
/- strings.NewReplacer: what it makes. Conditions: the texts lie in memory, an even number of them. -/
namespace Go.Proofs.YthacboofbbfmlaaDoor
open Go.ChangeShapes Go.WideShapes Go.ChangeAt Go.RowKit
namespace Rep
/-- append, by an equation of its run. -/
theorem wpList_app {P : Program} {ops : Array Oper} {rest : List Oper} {o : Oper} {a : Act} {w : World} {Q : Exit → Act → World → Prop} (hgd : o.guard = none) (s x : Operand) (t : TypeId)
    (ho : o.op = .call { callee := .builtin .append, args := #[s, x], argTypes := #[t, t] }) (v1 v2 vr : Value) (w' : World) (hs : a.eval s = v1) (hx : a.eval x = v2)
    (hrun : (Builtin.append_ #[t, t] o.type #[v1, v2]).run P w = .ok vr w') (h : wpList P ops Q rest (a.put o.dst vr) w') : wpList P ops Q (o :: rest) a w :=
  wpList_plain hgd fun _ hK => by
    unfold Oper.wp execOp
    simp only [ho, resolve, invoke, builtin, Sem.run_bind, Sem.run_pure, Result.andThen_ok, List.map_toArray, List.map_cons, List.map_nil, hs, hx, hrun]
    exact hK _ _ h
/-- Texts lie in a block, from its beginning. -/
def TxAt (w : World) (g : Nat) (l : List (List UInt8)) : Prop := g < w.heap.size ∧ ∀ (j : Nat) (x : Value), (strs l)[j]? = some x → w.cell? ⟨g, j, none⟩ = some x
theorem TxAt.below {B : Nat} {w w' : World} {g : Nat} {l : List (List UInt8)} (h : TxAt w g l) (hb : Below B w w') (hg : g < B) : TxAt w' g l :=
  ⟨Nat.lt_of_lt_of_le h.1 hb.size, fun j x hx => (hb.cell (p := ⟨g, j, none⟩) hg).trans (h.2 j x hx)⟩
theorem TxAt.next {w w' : World} {g : Nat} {l : List (List UInt8)} (h : TxAt w g l) (hb : Below w.heap.size w w') : TxAt w' g l := h.below hb h.1
theorem TxAt.drew {w : World} {g : Nat} {l : List (List UInt8)} (h : TxAt w g l) : TxAt w.drew g l := h
theorem TxAt.alloc {w : World} {g : Nat} {l : List (List UInt8)} (h : TxAt w g l) (o : Obj) : TxAt (w.alloc o) g l := h.next (below_al (Below.refl _ _) o)
theorem TxAt.far {w : World} {g : Nat} {l : List (List UInt8)} (h : TxAt w g l) {p : Addr} (hp : g ≠ p.block) (v : Value) : TxAt (w.setCell p v) g l :=
  ⟨by simpa using h.1, fun j x hx => (World.cell?_setCell_other _ p ⟨g, j, none⟩ _ (fun e => hp (by rw [e]))).trans (h.2 j x hx)⟩
theorem TxAt.at_ {w : World} {g : Nat} {l : List (List UInt8)} (h : TxAt w g l) {j : Nat} {t : List UInt8} (ht : l[j]? = some t) : w.cell? ⟨g, j, none⟩ = some (.string (toB t)) := h.2 j _ (by unfold strs; rw [List.getElem?_map, ht]; rfl)
theorem strs_len2 (xs : List (List UInt8)) : (strs xs).length = xs.length := by unfold strs; simp
theorem str_info : (Tryd.prog.info? 9).map (fun i => (i.zero, i.size, i.bytes)) = some (some (.string ⟨#[]⟩), 1, 16) := by kernel_rfl
theorem str_info' : ∃ i, Tryd.prog.info? 9 = some i ∧ i.zero = some (.string ⟨#[]⟩) ∧ i.size = 1 ∧ i.bytes = 16 := by
  have h := str_info
  cases hi : Tryd.prog.info? 9 with
  | none => rw [hi] at h; cases h
  | some i =>
    rw [hi] at h
    simp only [Option.map_some, Option.some.injEq, Prod.mk.injEq] at h
    exact ⟨i, rfl, h.1, h.2.1, h.2.2⟩
end Rep
end Go.Proofs.YthacboofbbfmlaaDoor
namespace Go.Proofs.YthacboofbbfmlaaDoor
open Go.ChangeShapes Go.WideShapes Go.ChangeAt Go.RowKit
namespace Rep
/-- An array or a struct loaded from a place, by its cells. -/
theorem run_loadVar_at {P : Program} (w : World) (p : Addr) (ty : TypeId) (cs : List Value) (d : TypeDesc) (hc : ∀ (j : Nat) (v : Value), cs[j]? = some v → w.cell? (p.add j) = some v)
    (hu : P.underlying ty = some d) (hd : (match d with | .struct _ | .array _ _ => true | _ => false) = true) (hi : (P.info? ty).map (·.size) = some cs.length) :
    (loadVar ty p).run P w = .ok (.agg cs.toArray) w := by
  have hl : (loadCells p cs.length).run P w = .ok cs.toArray w := run_loadCells_list (P := P) w p cs hc
  cases hq : P.info? ty with
  | none => simp [hq] at hi
  | some i =>
    have hs : i.size = cs.length := by simpa [hq] using hi
    have hagg : (isAgg ty).run P w = .ok true w := by
      unfold isAgg
      rw [Sem.run_bind, run_underlying hu w]
      cases d <;> simp_all
    simp [loadVar, Sem.run_bind, hagg, sizeOf, typeInfo, hq, hs, hl]
theorem wpList_load_at {P : Program} {ops : Array Oper} {rest : List Oper} {o : Oper} {a : Act} {w : World} {Q : Exit → Act → World → Prop} (hgd : o.guard = none) (ty : TypeId) (x : Operand) (ho : o.op = .load ty x)
    (p : Addr) (hx : a.eval x = .pointer (some p)) (cs : List Value) (d : TypeDesc) (hc : ∀ (j : Nat) (v : Value), cs[j]? = some v → w.cell? (p.add j) = some v)
    (hu : P.underlying ty = some d) (hd : (match d with | .struct _ | .array _ _ => true | _ => false) = true) (hi : (P.info? ty).map (·.size) = some cs.length)
    (h : wpList P ops Q rest (a.put o.dst (.agg cs.toArray)) w) : wpList P ops Q (o :: rest) a w :=
  wpList_plain hgd fun _ hK => by
    unfold Oper.wp execOp
    simp only [ho, hx, Instr.loadAt, Instr.sureAddr, Sem.run_bind, Sem.run_pure, Result.andThen_ok, run_loadVar_at w p ty cs d hc hu hd hi]
    exact hK _ _ h
/-- The mapping's cells. -/
def mapL (m : Nat → Int) : List Value := (List.range 256).map fun i => .int .u8 (m i)
def genH (tab : Value) (ts : Int) : List Value := [.string ⟨#[]⟩, .int .i64 0, .string ⟨#[]⟩, .pointer none, tab, .int .i64 ts]
def genC (tab : Value) (ts : Int) (m : Nat → Int) : Array Value := (genH tab ts ++ mapL m).toArray
theorem mapL_len (m : Nat → Int) : (mapL m).length = 256 := by unfold mapL; simp
theorem mapL_at (m : Nat → Int) {i : Nat} (h : i < 256) : (mapL m)[i]? = some (.int .u8 (m i)) := by
  unfold mapL
  rw [List.getElem?_map, List.getElem?_range h]
  rfl
theorem genC_at (tab : Value) (ts : Int) (m : Nat → Int) {i : Nat} (h : i < 256) : (genC tab ts m)[6 + i]? = some (.int .u8 (m i)) := by
  unfold genC
  rw [List.getElem?_toArray, List.getElem?_append_right (by show 6 ≤ 6 + i; omega), show 6 + i - (genH tab ts).length = i by show 6 + i - 6 = i; omega]
  exact mapL_at m h
theorem genC_4 (tab : Value) (ts : Int) (m : Nat → Int) : (genC tab ts m)[4]? = some tab := rfl
theorem genC_5 (tab : Value) (ts : Int) (m : Nat → Int) : (genC tab ts m)[5]? = some (.int .i64 ts) := rfl
theorem genC_1 (tab : Value) (ts : Int) (m : Nat → Int) : (genC tab ts m)[1]? = some (.int .i64 0) := rfl
theorem genC_set4 (tab tb : Value) (ts : Int) (m : Nat → Int) : (genC tab ts m).setIfInBounds 4 tb = genC tb ts m := by unfold genC genH; simp
theorem genC_set5 (tab : Value) (ts x : Int) (m : Nat → Int) : (genC tab ts m).setIfInBounds 5 (.int .i64 x) = genC tab x m := by unfold genC genH; simp
def upd (m : Nat → Int) (i : Nat) (v : Int) : Nat → Int := fun j => if j = i then v else m j
theorem mapL_set (m : Nat → Int) (i : Nat) (v : Int) : (mapL m).set i (.int .u8 v) = mapL (upd m i v) := by
  unfold mapL
  apply List.ext_getElem?
  intro j
  rw [List.getElem?_set]
  by_cases hj : j < 256
  · by_cases e : i = j
    · subst e
      rw [if_pos rfl, if_pos (by simpa using hj), List.getElem?_map, List.getElem?_range hj]
      simp [upd]
    · rw [if_neg e, List.getElem?_map, List.getElem?_map, List.getElem?_range hj]
      simp [upd, Ne.symm e]
  · by_cases e : i = j
    · subst e
      rw [if_pos rfl, if_neg (by simpa using hj)]
      simp [hj]
    · rw [if_neg e]
      simp [hj]
theorem genC_set (tab : Value) (ts : Int) (m : Nat → Int) (i : Nat) (v : Int) : (genC tab ts m).setIfInBounds (6 + i) (.int .u8 v) = genC tab ts (upd m i v) := by
  unfold genC
  rw [List.setIfInBounds_toArray, List.set_append_right _ _ (by show 6 ≤ 6 + i; omega), show 6 + i - (genH tab ts).length = i by show 6 + i - 6 = i; omega, mapL_set]
set_option maxRecDepth 100000 in
/-- An array value's part, by its number. -/
theorem idx_map (m : Nat → Int) {k : Nat} (h : k < 256) (w : World) : (Instr.index 110 (.agg (mapL m).toArray) (.int .i64 k)).run Tryd.prog w = .ok (.int .u8 (m k)) w := by
  have h1 := mapL_at m h
  have hu := run_underlying (P := Tryd.prog) Tryd.underlying110
  have k0 : (0 : Int) ≤ (k : Int) := Int.natCast_nonneg _
  have hs := Tryd.sizeOf5
  have ha := Tryd.isAgg5
  simp [Instr.index, asIntOf, hu, k0, part, hs, ha, h, h1]
end Rep
end Go.Proofs.YthacboofbbfmlaaDoor
