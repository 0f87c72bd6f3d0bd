/- The sort of any property, of the landed code of package value. Conditions: none. -/
import Derived.Test.YtdfcahdipalmkaaGreatDoorValC
import Derived.Laws.Tables
/- Sorts' makers, of the landed code of package value. Conditions: none. -/
namespace Go.Proofs.YtdfcahdipalmkaaGreatDoor
open Go.ChangeShapes Go.WideShapes Go.ChangeAt Go.RowKit
namespace Val
set_option maxHeartbeats 4000000 in
set_option maxRecDepth 100000 in
theorem size_any (a : ByteArray) (w : World) : Calls Tryz.prog 148 #[.string a] w fun e w' => e = .returned (.agg #[.string a, .int .i64 14, .int .i64 0, .string ⟨#[]⟩, .int .i64 1, .int .i64 0]) ∧ Below w.heap.size w w' := by
  go_enter Tryz.func148, Tryz.ntmps148
  go_wp2
  exact bodyPost_ret (v := .agg #[.string a, .int .i64 14, .int .i64 0, .string ⟨#[]⟩, .int .i64 1, .int .i64 0]) (results_cell_row Tryz.results148 _ _ w.heap.size 166 #[.string a, .int .i64 14, .int .i64 0, .string ⟨#[]⟩, .int .i64 1, .int .i64 0] _ _ rfl (heap_alloc_new _ _) Tryz.underlying166 rfl (by kernel_rfl)) rfl ⟨rfl, below_al (Below.refl _ _) _⟩
set_option maxHeartbeats 4000000 in
set_option maxRecDepth 100000 in
theorem margin_any (a : ByteArray) (w : World) : Calls Tryz.prog 149 #[.string a] w fun e w' => e = .returned (.agg #[.string a, .int .i64 6, .int .i64 (-63999999999), .string ⟨#[]⟩, .int .i64 2, .int .i64 0]) ∧ Below w.heap.size w w' := by
  go_enter Tryz.func149, Tryz.ntmps149
  go_wp2
  exact bodyPost_ret (v := .agg #[.string a, .int .i64 6, .int .i64 (-63999999999), .string ⟨#[]⟩, .int .i64 2, .int .i64 0]) (results_cell_row Tryz.results149 _ _ w.heap.size 166 #[.string a, .int .i64 6, .int .i64 (-63999999999), .string ⟨#[]⟩, .int .i64 2, .int .i64 0] _ _ rfl (heap_alloc_new _ _) Tryz.underlying166 rfl (by kernel_rfl)) rfl ⟨rfl, below_al (Below.refl _ _) _⟩
set_option maxHeartbeats 4000000 in
set_option maxRecDepth 100000 in
theorem side_any (a : ByteArray) (n : Int) (w : World) : Calls Tryz.prog 150 #[.string a, .int .i64 n] w fun e w' => e = .returned (.agg #[.string a, .int .i64 4, .int .i64 0, .string ⟨#[]⟩, .int .i64 2, .int .i64 n]) ∧ Below w.heap.size w w' := by
  go_enter Tryz.func150, Tryz.ntmps150
  go_wp2
  exact bodyPost_ret (v := .agg #[.string a, .int .i64 4, .int .i64 0, .string ⟨#[]⟩, .int .i64 2, .int .i64 n]) (results_cell_row Tryz.results150 _ _ w.heap.size 166 #[.string a, .int .i64 4, .int .i64 0, .string ⟨#[]⟩, .int .i64 2, .int .i64 n] _ _ rfl (heap_alloc_new _ _) Tryz.underlying166 rfl (by kernel_rfl)) rfl ⟨rfl, below_al (Below.refl _ _) _⟩
set_option maxHeartbeats 4000000 in
set_option maxRecDepth 100000 in
theorem shift_any (a : ByteArray) (w : World) : Calls Tryz.prog 151 #[.string a] w fun e w' => e = .returned (.agg #[.string a, .int .i64 4, .int .i64 (-63999999999), .string ⟨#[]⟩, .int .i64 2, .int .i64 0]) ∧ Below w.heap.size w w' := by
  go_enter Tryz.func151, Tryz.ntmps151
  go_wp2
  exact bodyPost_ret (v := .agg #[.string a, .int .i64 4, .int .i64 (-63999999999), .string ⟨#[]⟩, .int .i64 2, .int .i64 0]) (results_cell_row Tryz.results151 _ _ w.heap.size 166 #[.string a, .int .i64 4, .int .i64 (-63999999999), .string ⟨#[]⟩, .int .i64 2, .int .i64 0] _ _ rfl (heap_alloc_new _ _) Tryz.underlying166 rfl (by kernel_rfl)) rfl ⟨rfl, below_al (Below.refl _ _) _⟩
set_option maxHeartbeats 4000000 in
set_option maxRecDepth 100000 in
theorem paint_any (a : ByteArray) (n : Int) (w : World) : Calls Tryz.prog 152 #[.string a, .int .i64 n] w fun e w' => e = .returned (.agg #[.string a, .int .i64 16, .int .i64 0, .string ⟨#[]⟩, .int .i64 4, .int .i64 n]) ∧ Below w.heap.size w w' := by
  go_enter Tryz.func152, Tryz.ntmps152
  go_wp2
  exact bodyPost_ret (v := .agg #[.string a, .int .i64 16, .int .i64 0, .string ⟨#[]⟩, .int .i64 4, .int .i64 n]) (results_cell_row Tryz.results152 _ _ w.heap.size 166 #[.string a, .int .i64 16, .int .i64 0, .string ⟨#[]⟩, .int .i64 4, .int .i64 n] _ _ rfl (heap_alloc_new _ _) Tryz.underlying166 rfl (by kernel_rfl)) rfl ⟨rfl, below_al (Below.refl _ _) _⟩
set_option maxHeartbeats 4000000 in
set_option maxRecDepth 100000 in
theorem choice_any (a : ByteArray) (b : ByteArray) (n : Int) (w : World) : Calls Tryz.prog 153 #[.string a, .string b, .int .i64 n] w fun e w' => e = .returned (.agg #[.string a, .int .i64 32, .int .i64 0, .string b, .int .i64 5, .int .i64 n]) ∧ Below w.heap.size w w' := by
  go_enter Tryz.func153, Tryz.ntmps153
  go_wp2
  exact bodyPost_ret (v := .agg #[.string a, .int .i64 32, .int .i64 0, .string b, .int .i64 5, .int .i64 n]) (results_cell_row Tryz.results153 _ _ w.heap.size 166 #[.string a, .int .i64 32, .int .i64 0, .string b, .int .i64 5, .int .i64 n] _ _ rfl (heap_alloc_new _ _) Tryz.underlying166 rfl (by kernel_rfl)) rfl ⟨rfl, below_al (Below.refl _ _) _⟩
set_option maxHeartbeats 4000000 in
set_option maxRecDepth 100000 in
theorem count_any (a : ByteArray) (m : Int) (n : Int) (w : World) : Calls Tryz.prog 154 #[.string a, .int .i64 m, .int .i64 n] w fun e w' => e = .returned (.agg #[.string a, .int .i64 64, .int .i64 m, .string ⟨#[]⟩, .int .i64 6, .int .i64 n]) ∧ Below w.heap.size w w' := by
  go_enter Tryz.func154, Tryz.ntmps154
  go_wp2
  exact bodyPost_ret (v := .agg #[.string a, .int .i64 64, .int .i64 m, .string ⟨#[]⟩, .int .i64 6, .int .i64 n]) (results_cell_row Tryz.results154 _ _ w.heap.size 166 #[.string a, .int .i64 64, .int .i64 m, .string ⟨#[]⟩, .int .i64 6, .int .i64 n] _ _ rfl (heap_alloc_new _ _) Tryz.underlying166 rfl (by kernel_rfl)) rfl ⟨rfl, below_al (Below.refl _ _) _⟩
end Val
end Go.Proofs.YtdfcahdipalmkaaGreatDoor
/- The table of all properties' sorts, of the landed code of package value. Conditions: none. -/
namespace Go.Proofs.YtdfcahdipalmkaaGreatDoor
open Go.ChangeShapes Go.WideShapes Go.ChangeAt Go.RowKit
namespace Val
/-- All cells of the table: six a property. -/
def tableCells : Array Value := #[
  .string ⟨#[]⟩, .int .i64 0, .int .i64 0, .string ⟨#[]⟩, .int .i64 0, .int .i64 0,
  .string ⟨#[100, 105, 115, 112, 108, 97, 121]⟩, .int .i64 32, .int .i64 0, .string ⟨#[98, 108, 111, 99, 107, 32, 105, 110, 108, 105, 110, 101, 32, 102, 108, 101, 120, 32, 110, 111, 110, 101]⟩, .int .i64 5, .int .i64 1,
  .string ⟨#[119, 105, 100, 116, 104]⟩, .int .i64 14, .int .i64 0, .string ⟨#[]⟩, .int .i64 1, .int .i64 0,
  .string ⟨#[104, 101, 105, 103, 104, 116]⟩, .int .i64 14, .int .i64 0, .string ⟨#[]⟩, .int .i64 1, .int .i64 0,
  .string ⟨#[109, 97, 114, 103, 105, 110, 45, 116, 111, 112]⟩, .int .i64 6, .int .i64 (-63999999999), .string ⟨#[]⟩, .int .i64 2, .int .i64 0,
  .string ⟨#[109, 97, 114, 103, 105, 110, 45, 114, 105, 103, 104, 116]⟩, .int .i64 6, .int .i64 (-63999999999), .string ⟨#[]⟩, .int .i64 2, .int .i64 0,
  .string ⟨#[109, 97, 114, 103, 105, 110, 45, 98, 111, 116, 116, 111, 109]⟩, .int .i64 6, .int .i64 (-63999999999), .string ⟨#[]⟩, .int .i64 2, .int .i64 0,
  .string ⟨#[109, 97, 114, 103, 105, 110, 45, 108, 101, 102, 116]⟩, .int .i64 6, .int .i64 (-63999999999), .string ⟨#[]⟩, .int .i64 2, .int .i64 0,
  .string ⟨#[112, 97, 100, 100, 105, 110, 103, 45, 116, 111, 112]⟩, .int .i64 4, .int .i64 0, .string ⟨#[]⟩, .int .i64 2, .int .i64 0,
  .string ⟨#[112, 97, 100, 100, 105, 110, 103, 45, 114, 105, 103, 104, 116]⟩, .int .i64 4, .int .i64 0, .string ⟨#[]⟩, .int .i64 2, .int .i64 0,
  .string ⟨#[112, 97, 100, 100, 105, 110, 103, 45, 98, 111, 116, 116, 111, 109]⟩, .int .i64 4, .int .i64 0, .string ⟨#[]⟩, .int .i64 2, .int .i64 0,
  .string ⟨#[112, 97, 100, 100, 105, 110, 103, 45, 108, 101, 102, 116]⟩, .int .i64 4, .int .i64 0, .string ⟨#[]⟩, .int .i64 2, .int .i64 0,
  .string ⟨#[98, 111, 114, 100, 101, 114, 45, 116, 111, 112, 45, 119, 105, 100, 116, 104]⟩, .int .i64 4, .int .i64 0, .string ⟨#[]⟩, .int .i64 2, .int .i64 0,
  .string ⟨#[98, 111, 114, 100, 101, 114, 45, 114, 105, 103, 104, 116, 45, 119, 105, 100, 116, 104]⟩, .int .i64 4, .int .i64 0, .string ⟨#[]⟩, .int .i64 2, .int .i64 0,
  .string ⟨#[98, 111, 114, 100, 101, 114, 45, 98, 111, 116, 116, 111, 109, 45, 119, 105, 100, 116, 104]⟩, .int .i64 4, .int .i64 0, .string ⟨#[]⟩, .int .i64 2, .int .i64 0,
  .string ⟨#[98, 111, 114, 100, 101, 114, 45, 108, 101, 102, 116, 45, 119, 105, 100, 116, 104]⟩, .int .i64 4, .int .i64 0, .string ⟨#[]⟩, .int .i64 2, .int .i64 0,
  .string ⟨#[99, 111, 108, 111, 114]⟩, .int .i64 16, .int .i64 0, .string ⟨#[]⟩, .int .i64 4, .int .i64 0,
  .string ⟨#[98, 97, 99, 107, 103, 114, 111, 117, 110, 100, 45, 99, 111, 108, 111, 114]⟩, .int .i64 16, .int .i64 0, .string ⟨#[]⟩, .int .i64 4, .int .i64 16777215,
  .string ⟨#[102, 111, 110, 116, 45, 115, 105, 122, 101]⟩, .int .i64 4, .int .i64 0, .string ⟨#[]⟩, .int .i64 2, .int .i64 1024,
  .string ⟨#[116, 101, 120, 116, 45, 97, 108, 105, 103, 110]⟩, .int .i64 32, .int .i64 0, .string ⟨#[108, 101, 102, 116, 32, 99, 101, 110, 116, 101, 114, 32, 114, 105, 103, 104, 116]⟩, .int .i64 5, .int .i64 0,
  .string ⟨#[102, 108, 101, 120, 45, 103, 114, 111, 119]⟩, .int .i64 64, .int .i64 0, .string ⟨#[]⟩, .int .i64 6, .int .i64 0,
  .string ⟨#[102, 108, 101, 120, 45, 115, 104, 114, 105, 110, 107]⟩, .int .i64 64, .int .i64 0, .string ⟨#[]⟩, .int .i64 6, .int .i64 64,
  .string ⟨#[102, 108, 101, 120, 45, 100, 105, 114, 101, 99, 116, 105, 111, 110]⟩, .int .i64 32, .int .i64 0, .string ⟨#[114, 111, 119, 32, 99, 111, 108, 117, 109, 110]⟩, .int .i64 5, .int .i64 0,
  .string ⟨#[106, 117, 115, 116, 105, 102, 121, 45, 99, 111, 110, 116, 101, 110, 116]⟩, .int .i64 32, .int .i64 0, .string ⟨#[115, 116, 97, 114, 116, 32, 99, 101, 110, 116, 101, 114, 32, 101, 110, 100, 32, 98, 101, 116, 119, 101, 101, 110]⟩, .int .i64 5, .int .i64 0,
  .string ⟨#[111, 114, 100, 101, 114]⟩, .int .i64 64, .int .i64 (-63999999999), .string ⟨#[]⟩, .int .i64 6, .int .i64 0,
  .string ⟨#[108, 101, 102, 116]⟩, .int .i64 4, .int .i64 (-63999999999), .string ⟨#[]⟩, .int .i64 2, .int .i64 0,
  .string ⟨#[116, 111, 112]⟩, .int .i64 4, .int .i64 (-63999999999), .string ⟨#[]⟩, .int .i64 2, .int .i64 0]
theorem wpList_build_to {P : Program} {ops : Array Oper} {rest : List Oper} {o : Oper} {a : Act} {w : World} {Q : Exit → Act → World → Prop} (hg : o.guard = none) (t : TypeId) (parts : Array (Nat × Operand)) (ho : o.op = .build t parts)
    (cells : Array Value) (hb : P.built t (parts.map fun (i, x) => (i, a.eval x)).toList = some cells)
    (h : wpList P ops Q rest (a.put o.dst (.agg cells)) w) : wpList P ops Q (o :: rest) a w := by
  refine wpList_build hg t parts ho (by rw [hb]; rfl) ?_
  rw [hb]
  exact h
theorem setRow_heap {w : World} {g : Nat} {t : TypeId} {old cells : Array Value} (h : w.heap[g]? = some (.cells old t (0, 0))) : (w.setRow g cells).heap[g]? = some (.cells cells t (0, 0)) := by
  unfold World.setRow
  simp [Array.getElem?_modify, h]
theorem below_setRow {w E : World} (h : Below w.heap.size w E) {g : Nat} (hg : w.heap.size ≤ g) (cs : Array Value) : Below w.heap.size w (E.setRow g cs) := by
  refine ⟨h.os, h.tape, h.output, by unfold World.setRow; simpa using h.size, fun b hb => ?_⟩
  unfold World.setRow
  rw [Array.getElem?_modify, if_neg (by omega)]
  exact h.block b hb
theorem table_one : ∀ v ∈ tableCells.toList, v.oneCell' = true := List.all_eq_true.1 (by kernel_rfl)
def zTab : Array Value := (List.replicate 27 [.string ⟨#[]⟩, .int .i64 0, .int .i64 0, .string ⟨#[]⟩, .int .i64 0, .int .i64 0]).flatten.toArray
theorem zero_tab (w : World) : (zeroValue 167).run Tryz.prog w = .ok (.agg zTab) w := by kernel_rfl
theorem store_table (w1 : World) (g : Nat) {old : Array Value} (h : w1.heap[g]? = some (.cells old 167 (0, 0))) (hs : 0 + tableCells.toList.length = old.size) :
    (storeCells ⟨g, 0, none⟩ tableCells.toList).run Tryz.prog w1 = .ok () (w1.setRow g tableCells) := by
  have hst := run_storeCells_from (P := Tryz.prog) g 167 tableCells.toList 0 _ w1 h hs table_one
  rw [List.take_zero, List.nil_append, Array.toArray_toList] at hst
  exact hst
set_option maxHeartbeats 8000000 in
set_option maxRecDepth 100000 in
theorem sorts_any (w : World) : Calls Tryz.prog 109 #[] w fun e w' => e = .returned (.agg tableCells) ∧ Below w.heap.size w w' := by
  have hB := Below.refl w.heap.size w
  have hz := fun w => zero_tab w
  go_enter Tryz.func109, Tryz.ntmps109
  go_wp2_with (first
    | (go_at_call 148; (with_reducible refine (size_any _ _).mono ?_); rintro e w1 ⟨rfl, hb⟩; (first | (replace K0 := Blk.next K0 hb) | (have K0 := Blk.next (Blk.new w 167 _) hb)); (first | (replace hB := below_next hB hb) | (replace hB := below_next (below_al hB _) hb)); clear hb)
    | (go_at_call 149; (with_reducible refine (margin_any _ _).mono ?_); rintro e w1 ⟨rfl, hb⟩; (first | (replace K0 := Blk.next K0 hb) | (have K0 := Blk.next (Blk.new w 167 _) hb)); (first | (replace hB := below_next hB hb) | (replace hB := below_next (below_al hB _) hb)); clear hb)
    | (go_at_call 150; (with_reducible refine (side_any _ _ _).mono ?_); rintro e w1 ⟨rfl, hb⟩; (first | (replace K0 := Blk.next K0 hb) | (have K0 := Blk.next (Blk.new w 167 _) hb)); (first | (replace hB := below_next hB hb) | (replace hB := below_next (below_al hB _) hb)); clear hb)
    | (go_at_call 151; (with_reducible refine (shift_any _ _).mono ?_); rintro e w1 ⟨rfl, hb⟩; (first | (replace K0 := Blk.next K0 hb) | (have K0 := Blk.next (Blk.new w 167 _) hb)); (first | (replace hB := below_next hB hb) | (replace hB := below_next (below_al hB _) hb)); clear hb)
    | (go_at_call 152; (with_reducible refine (paint_any _ _ _).mono ?_); rintro e w1 ⟨rfl, hb⟩; (first | (replace K0 := Blk.next K0 hb) | (have K0 := Blk.next (Blk.new w 167 _) hb)); (first | (replace hB := below_next hB hb) | (replace hB := below_next (below_al hB _) hb)); clear hb)
    | (go_at_call 153; (with_reducible refine (choice_any _ _ _ _).mono ?_); rintro e w1 ⟨rfl, hb⟩; (first | (replace K0 := Blk.next K0 hb) | (have K0 := Blk.next (Blk.new w 167 _) hb)); (first | (replace hB := below_next hB hb) | (replace hB := below_next (below_al hB _) hb)); clear hb)
    | (go_at_call 154; (with_reducible refine (count_any _ _ _ _).mono ?_); rintro e w1 ⟨rfl, hb⟩; (first | (replace K0 := Blk.next K0 hb) | (have K0 := Blk.next (Blk.new w 167 _) hb)); (first | (replace hB := below_next hB hb) | (replace hB := below_next (below_al hB _) hb)); clear hb)
    | (with_reducible refine wpList_build_to rfl 167 _ rfl tableCells ?_ ?_; focus (kernel_rfl)))
  have hst := store_table w1 w.heap.size K0 (by kernel_rfl)
  rw [hst]
  go_wp2
  exact bodyPost_ret (v := .agg tableCells) (results_cell_row Tryz.results109 _ _ w.heap.size 167 tableCells _ _ rfl (setRow_heap K0) Tryz.underlying167 rfl (by kernel_rfl)) rfl ⟨rfl, below_setRow hB (Nat.le_refl _) _⟩
end Val
end Go.Proofs.YtdfcahdipalmkaaGreatDoor
namespace Go.Proofs.YtdfcahdipalmkaaGreatDoor
open Go.ChangeShapes Go.WideShapes Go.ChangeAt Go.RowKit
namespace Val
def kindsT : List Int := [0, 32, 14, 14, 6, 6, 6, 6, 4, 4, 4, 4, 4, 4, 4, 4, 16, 16, 4, 32, 64, 64, 32, 32, 64, 4, 4]
def leastT : List Int := [0, 0, 0, 0, -63999999999, -63999999999, -63999999999, -63999999999, 0, 0, 0, 0, 0, 0, 0, 0, 0, 0, 0, 0, 0, 0, 0, 0, -63999999999, -63999999999, -63999999999]
def wordsT : List (List UInt8) := [[], [98, 108, 111, 99, 107, 32, 105, 110, 108, 105, 110, 101, 32, 102, 108, 101, 120, 32, 110, 111, 110, 101], [], [], [], [], [], [], [], [], [], [], [], [], [], [], [], [], [], [108, 101, 102, 116, 32, 99, 101, 110, 116, 101, 114, 32, 114, 105, 103, 104, 116], [], [], [114, 111, 119, 32, 99, 111, 108, 117, 109, 110], [115, 116, 97, 114, 116, 32, 99, 101, 110, 116, 101, 114, 32, 101, 110, 100, 32, 98, 101, 116, 119, 101, 101, 110], [], [], []]
def kindsN (p : Int) : Int := if 0 ≤ p ∧ p < 27 then kindsT.getD p.toNat 0 else 0
def leastN (p : Int) : Int := if 0 ≤ p ∧ p < 27 then leastT.getD p.toNat 0 else 0
def wordsB (p : Int) : List UInt8 := if 0 ≤ p ∧ p < 27 then wordsT.getD p.toNat [] else []
/-- A sort's cells. -/
def sortCells (p : Int) : Array Value := #[.string (toB (nameP p)), .int .i64 (kindsN p), .int .i64 (leastN p), .string (toB (wordsB p)), .int .i64 (firstP p).1, .int .i64 (firstP p).2]
set_option maxRecDepth 100000 in
theorem row_at (p : Int) (h0 : 0 ≤ p) (h1 : p < 27) (w : World) : (Instr.index 167 (.agg tableCells) (.int .i64 p)).run Tryz.prog w = .ok (.agg (sortCells p)) w := by
  obtain ⟨i, rfl⟩ : ∃ i : Nat, p = (i : Int) := ⟨p.toNat, by omega⟩
  have hi : i < 27 := by omega
  clear h0 h1
  match i, hi with
  | 0, _ =>
    show (Instr.index 167 (.agg tableCells) (.int .i64 0)).run Tryz.prog w = .ok (.agg (sortCells 0)) w
    rfl
  | 1, _ =>
    show (Instr.index 167 (.agg tableCells) (.int .i64 1)).run Tryz.prog w = .ok (.agg (sortCells 1)) w
    rfl
  | 2, _ =>
    show (Instr.index 167 (.agg tableCells) (.int .i64 2)).run Tryz.prog w = .ok (.agg (sortCells 2)) w
    rfl
  | 3, _ =>
    show (Instr.index 167 (.agg tableCells) (.int .i64 3)).run Tryz.prog w = .ok (.agg (sortCells 3)) w
    rfl
  | 4, _ =>
    show (Instr.index 167 (.agg tableCells) (.int .i64 4)).run Tryz.prog w = .ok (.agg (sortCells 4)) w
    rfl
  | 5, _ =>
    show (Instr.index 167 (.agg tableCells) (.int .i64 5)).run Tryz.prog w = .ok (.agg (sortCells 5)) w
    rfl
  | 6, _ =>
    show (Instr.index 167 (.agg tableCells) (.int .i64 6)).run Tryz.prog w = .ok (.agg (sortCells 6)) w
    rfl
  | 7, _ =>
    show (Instr.index 167 (.agg tableCells) (.int .i64 7)).run Tryz.prog w = .ok (.agg (sortCells 7)) w
    rfl
  | 8, _ =>
    show (Instr.index 167 (.agg tableCells) (.int .i64 8)).run Tryz.prog w = .ok (.agg (sortCells 8)) w
    rfl
  | 9, _ =>
    show (Instr.index 167 (.agg tableCells) (.int .i64 9)).run Tryz.prog w = .ok (.agg (sortCells 9)) w
    rfl
  | 10, _ =>
    show (Instr.index 167 (.agg tableCells) (.int .i64 10)).run Tryz.prog w = .ok (.agg (sortCells 10)) w
    rfl
  | 11, _ =>
    show (Instr.index 167 (.agg tableCells) (.int .i64 11)).run Tryz.prog w = .ok (.agg (sortCells 11)) w
    rfl
  | 12, _ =>
    show (Instr.index 167 (.agg tableCells) (.int .i64 12)).run Tryz.prog w = .ok (.agg (sortCells 12)) w
    rfl
  | 13, _ =>
    show (Instr.index 167 (.agg tableCells) (.int .i64 13)).run Tryz.prog w = .ok (.agg (sortCells 13)) w
    rfl
  | 14, _ =>
    show (Instr.index 167 (.agg tableCells) (.int .i64 14)).run Tryz.prog w = .ok (.agg (sortCells 14)) w
    rfl
  | 15, _ =>
    show (Instr.index 167 (.agg tableCells) (.int .i64 15)).run Tryz.prog w = .ok (.agg (sortCells 15)) w
    rfl
  | 16, _ =>
    show (Instr.index 167 (.agg tableCells) (.int .i64 16)).run Tryz.prog w = .ok (.agg (sortCells 16)) w
    rfl
  | 17, _ =>
    show (Instr.index 167 (.agg tableCells) (.int .i64 17)).run Tryz.prog w = .ok (.agg (sortCells 17)) w
    rfl
  | 18, _ =>
    show (Instr.index 167 (.agg tableCells) (.int .i64 18)).run Tryz.prog w = .ok (.agg (sortCells 18)) w
    rfl
  | 19, _ =>
    show (Instr.index 167 (.agg tableCells) (.int .i64 19)).run Tryz.prog w = .ok (.agg (sortCells 19)) w
    rfl
  | 20, _ =>
    show (Instr.index 167 (.agg tableCells) (.int .i64 20)).run Tryz.prog w = .ok (.agg (sortCells 20)) w
    rfl
  | 21, _ =>
    show (Instr.index 167 (.agg tableCells) (.int .i64 21)).run Tryz.prog w = .ok (.agg (sortCells 21)) w
    rfl
  | 22, _ =>
    show (Instr.index 167 (.agg tableCells) (.int .i64 22)).run Tryz.prog w = .ok (.agg (sortCells 22)) w
    rfl
  | 23, _ =>
    show (Instr.index 167 (.agg tableCells) (.int .i64 23)).run Tryz.prog w = .ok (.agg (sortCells 23)) w
    rfl
  | 24, _ =>
    show (Instr.index 167 (.agg tableCells) (.int .i64 24)).run Tryz.prog w = .ok (.agg (sortCells 24)) w
    rfl
  | 25, _ =>
    show (Instr.index 167 (.agg tableCells) (.int .i64 25)).run Tryz.prog w = .ok (.agg (sortCells 25)) w
    rfl
  | 26, _ =>
    show (Instr.index 167 (.agg tableCells) (.int .i64 26)).run Tryz.prog w = .ok (.agg (sortCells 26)) w
    rfl
  | k + 27, h => exact absurd h (by omega)
set_option maxHeartbeats 8000000 in
set_option maxRecDepth 100000 in
theorem sortOf_in (p : Int) (h0 : 0 ≤ p) (h1 : p < 27) (w : World) : Calls Tryz.prog 117 #[.int .i64 p] w fun e w' => e = .returned (.agg (sortCells p)) ∧ Below w.heap.size w w' := by
  have hx := fun w => row_at p h0 h1 w
  unfold sortCells at hx ⊢
  generalize toB (nameP p) = a1 at *
  generalize kindsN p = a2 at *
  generalize leastN p = a3 at *
  generalize toB (wordsB p) = a4 at *
  generalize (firstP p).1 = a5 at *
  generalize (firstP p).2 = a6 at *
  have hB := below_al (Below.refl w.heap.size w) (.cells #[.string ⟨#[]⟩, .int .i64 0, .int .i64 0, .string ⟨#[]⟩, .int .i64 0, .int .i64 0] 166)
  have K0 := Blk.new w 166 #[.string ⟨#[]⟩, .int .i64 0, .int .i64 0, .string ⟨#[]⟩, .int .i64 0, .int .i64 0]
  go_enter Tryz.func117, Tryz.ntmps117
  go_wp2_with (first
    | (go_at_call 109; (with_reducible refine (sorts_any _).mono ?_); rintro e w1 ⟨rfl, hb⟩
       have hB1 := below_next hB hb
       have K1 := K0.next hb
       have c0 := K1.cell 0
       have c1 := K1.cell 1
       have c2 := K1.cell 2
       have c3 := K1.cell 3
       have c4 := K1.cell 4
       have c5 := K1.cell 5
       have f0 := K1.frozen 0
       have f1 := K1.frozen 1
       have f2 := K1.frozen 2
       have f3 := K1.frozen 3
       have f4 := K1.frozen 4
       have f5 := K1.frozen 5))
  refine bodyPost_ret (v := .agg #[.string a1, .int .i64 a2, .int .i64 a3, .string a4, .int .i64 a5, .int .i64 a6]) (by simp [results, Tryz.results117, go_sem, c0, c1, c2, c3, c4, c5]) rfl ⟨rfl, ?_⟩
  repeat (first | (with_reducible refine below_set ?_ (Nat.le_refl _) _) | (with_reducible exact hB1))
set_option maxHeartbeats 4000000 in
set_option maxRecDepth 100000 in
theorem sortOf_out (p : Int) (h : p < 0 ∨ 27 ≤ p) (w : World) : Calls Tryz.prog 117 #[.int .i64 p] w fun e w' => e = .returned (.agg (sortCells p)) ∧ Below w.heap.size w w' := by
  have hn : ¬ (0 ≤ p ∧ p < 27) := by omega
  have hc : sortCells p = #[.string ⟨#[]⟩, .int .i64 0, .int .i64 0, .string ⟨#[]⟩, .int .i64 0, .int .i64 0] := by
    unfold sortCells nameP kindsN leastN wordsB
    rw [if_neg hn, if_neg hn, if_neg hn, if_neg hn, first_else (by omega)]
    rfl
  rw [hc]
  rcases h with h | h
  · have h2 : ¬ 0 ≤ p := by omega
    go_enter Tryz.func117, Tryz.ntmps117
    go_wp2
    refine bodyPost_ret (v := .agg #[.string ⟨#[]⟩, .int .i64 0, .int .i64 0, .string ⟨#[]⟩, .int .i64 0, .int .i64 0]) (by simp [results, Tryz.results117, go_sem]) rfl ⟨rfl, ?_⟩
    repeat (first | (with_reducible refine below_set ?_ (Nat.le_refl _) _) | (with_reducible refine below_al ?_ _) | (with_reducible exact Below.refl _ _))
  · have h2 : 0 ≤ p := by omega
    go_enter Tryz.func117, Tryz.ntmps117
    go_wp2
    refine bodyPost_ret (v := .agg #[.string ⟨#[]⟩, .int .i64 0, .int .i64 0, .string ⟨#[]⟩, .int .i64 0, .int .i64 0]) (by simp [results, Tryz.results117, go_sem]) rfl ⟨rfl, ?_⟩
    repeat (first | (with_reducible refine below_set ?_ (Nat.le_refl _) _) | (with_reducible refine below_al ?_ _) | (with_reducible exact Below.refl _ _))
theorem sortOf_any (p : Int) (w : World) : Calls Tryz.prog 117 #[.int .i64 p] w fun e w' => e = .returned (.agg (sortCells p)) ∧ Below w.heap.size w w' := by
  by_cases h : 0 ≤ p ∧ p < 27
  · exact sortOf_in p h.1 h.2 w
  · exact sortOf_out p (by omega) w
set_option maxRecDepth 100000 in
theorem field0 (a1 : ByteArray) (a2 a3 : Int) (a4 : ByteArray) (a5 a6 : Int) (w : World) : (Instr.field 166 (.agg #[.string a1, .int .i64 a2, .int .i64 a3, .string a4, .int .i64 a5, .int .i64 a6]) 0).run Tryz.prog w = .ok (.string a1) w := rfl
set_option maxRecDepth 100000 in
theorem field4 (a1 : ByteArray) (a2 a3 : Int) (a4 : ByteArray) (a5 a6 : Int) (w : World) : (Instr.field 166 (.agg #[.string a1, .int .i64 a2, .int .i64 a3, .string a4, .int .i64 a5, .int .i64 a6]) 4).run Tryz.prog w = .ok (.agg #[.int .i64 a5, .int .i64 a6]) w := rfl
set_option maxHeartbeats 4000000 in
set_option maxRecDepth 100000 in
theorem name_any : NameC := by
  intro p w
  have c := sortOf_any p w
  unfold sortCells at c
  have hf := fun w => field0 (toB (nameP p)) (kindsN p) (leastN p) (toB (wordsB p)) (firstP p).1 (firstP p).2 w
  generalize toB (nameP p) = a1 at *
  go_enter Tryz.func125, Tryz.ntmps125
  go_wp2_with (first
    | (go_at_call 117; (with_reducible refine c.mono ?_); rintro e w1 ⟨rfl, hb⟩))
  go_ret
  exact ⟨rfl, hb⟩
end Val
end Go.Proofs.YtdfcahdipalmkaaGreatDoor
