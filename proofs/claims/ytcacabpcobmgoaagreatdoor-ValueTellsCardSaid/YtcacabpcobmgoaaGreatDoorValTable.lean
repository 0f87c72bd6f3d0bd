/- The table of all properties' sorts, of the landed code of package value. Conditions: none. -/
import Derived.Test.YtcacabpcobmgoaaGreatDoorValSorts
import Derived.Laws.Tables
namespace Go.Proofs.YtcacabpcobmgoaaGreatDoor
open Go.ChangeShapes Go.WideShapes Go.ChangeAt Go.RowKit
namespace Val
/-- All cells of the table: six a property. -/
def tableCells : Array Value := #[
  .string ⟨#[]⟩, .int .i64 0, .int .i64 0, .string ⟨#[]⟩, .int .i64 0, .int .i64 0,
  .string ⟨#[100, 105, 115, 112, 108, 97, 121]⟩, .int .i64 32, .int .i64 0, .string ⟨#[98, 108, 111, 99, 107, 32, 105, 110, 108, 105, 110, 101, 32, 102, 108, 101, 120, 32, 110, 111, 110, 101]⟩, .int .i64 5, .int .i64 1,
  .string ⟨#[119, 105, 100, 116, 104]⟩, .int .i64 14, .int .i64 0, .string ⟨#[]⟩, .int .i64 1, .int .i64 0,
  .string ⟨#[104, 101, 105, 103, 104, 116]⟩, .int .i64 14, .int .i64 0, .string ⟨#[]⟩, .int .i64 1, .int .i64 0,
  .string ⟨#[109, 97, 114, 103, 105, 110, 45, 116, 111, 112]⟩, .int .i64 6, .int .i64 (-63999999999), .string ⟨#[]⟩, .int .i64 2, .int .i64 0,
  .string ⟨#[109, 97, 114, 103, 105, 110, 45, 114, 105, 103, 104, 116]⟩, .int .i64 6, .int .i64 (-63999999999), .string ⟨#[]⟩, .int .i64 2, .int .i64 0,
  .string ⟨#[109, 97, 114, 103, 105, 110, 45, 98, 111, 116, 116, 111, 109]⟩, .int .i64 6, .int .i64 (-63999999999), .string ⟨#[]⟩, .int .i64 2, .int .i64 0,
  .string ⟨#[109, 97, 114, 103, 105, 110, 45, 108, 101, 102, 116]⟩, .int .i64 6, .int .i64 (-63999999999), .string ⟨#[]⟩, .int .i64 2, .int .i64 0,
  .string ⟨#[112, 97, 100, 100, 105, 110, 103, 45, 116, 111, 112]⟩, .int .i64 4, .int .i64 0, .string ⟨#[]⟩, .int .i64 2, .int .i64 0,
  .string ⟨#[112, 97, 100, 100, 105, 110, 103, 45, 114, 105, 103, 104, 116]⟩, .int .i64 4, .int .i64 0, .string ⟨#[]⟩, .int .i64 2, .int .i64 0,
  .string ⟨#[112, 97, 100, 100, 105, 110, 103, 45, 98, 111, 116, 116, 111, 109]⟩, .int .i64 4, .int .i64 0, .string ⟨#[]⟩, .int .i64 2, .int .i64 0,
  .string ⟨#[112, 97, 100, 100, 105, 110, 103, 45, 108, 101, 102, 116]⟩, .int .i64 4, .int .i64 0, .string ⟨#[]⟩, .int .i64 2, .int .i64 0,
  .string ⟨#[98, 111, 114, 100, 101, 114, 45, 116, 111, 112, 45, 119, 105, 100, 116, 104]⟩, .int .i64 4, .int .i64 0, .string ⟨#[]⟩, .int .i64 2, .int .i64 0,
  .string ⟨#[98, 111, 114, 100, 101, 114, 45, 114, 105, 103, 104, 116, 45, 119, 105, 100, 116, 104]⟩, .int .i64 4, .int .i64 0, .string ⟨#[]⟩, .int .i64 2, .int .i64 0,
  .string ⟨#[98, 111, 114, 100, 101, 114, 45, 98, 111, 116, 116, 111, 109, 45, 119, 105, 100, 116, 104]⟩, .int .i64 4, .int .i64 0, .string ⟨#[]⟩, .int .i64 2, .int .i64 0,
  .string ⟨#[98, 111, 114, 100, 101, 114, 45, 108, 101, 102, 116, 45, 119, 105, 100, 116, 104]⟩, .int .i64 4, .int .i64 0, .string ⟨#[]⟩, .int .i64 2, .int .i64 0,
  .string ⟨#[99, 111, 108, 111, 114]⟩, .int .i64 16, .int .i64 0, .string ⟨#[]⟩, .int .i64 4, .int .i64 0,
  .string ⟨#[98, 97, 99, 107, 103, 114, 111, 117, 110, 100, 45, 99, 111, 108, 111, 114]⟩, .int .i64 16, .int .i64 0, .string ⟨#[]⟩, .int .i64 4, .int .i64 16777215,
  .string ⟨#[102, 111, 110, 116, 45, 115, 105, 122, 101]⟩, .int .i64 4, .int .i64 0, .string ⟨#[]⟩, .int .i64 2, .int .i64 1024,
  .string ⟨#[116, 101, 120, 116, 45, 97, 108, 105, 103, 110]⟩, .int .i64 32, .int .i64 0, .string ⟨#[108, 101, 102, 116, 32, 99, 101, 110, 116, 101, 114, 32, 114, 105, 103, 104, 116]⟩, .int .i64 5, .int .i64 0,
  .string ⟨#[102, 108, 101, 120, 45, 103, 114, 111, 119]⟩, .int .i64 64, .int .i64 0, .string ⟨#[]⟩, .int .i64 6, .int .i64 0,
  .string ⟨#[102, 108, 101, 120, 45, 115, 104, 114, 105, 110, 107]⟩, .int .i64 64, .int .i64 0, .string ⟨#[]⟩, .int .i64 6, .int .i64 64,
  .string ⟨#[102, 108, 101, 120, 45, 100, 105, 114, 101, 99, 116, 105, 111, 110]⟩, .int .i64 32, .int .i64 0, .string ⟨#[114, 111, 119, 32, 99, 111, 108, 117, 109, 110]⟩, .int .i64 5, .int .i64 0,
  .string ⟨#[106, 117, 115, 116, 105, 102, 121, 45, 99, 111, 110, 116, 101, 110, 116]⟩, .int .i64 32, .int .i64 0, .string ⟨#[115, 116, 97, 114, 116, 32, 99, 101, 110, 116, 101, 114, 32, 101, 110, 100, 32, 98, 101, 116, 119, 101, 101, 110]⟩, .int .i64 5, .int .i64 0,
  .string ⟨#[111, 114, 100, 101, 114]⟩, .int .i64 64, .int .i64 (-63999999999), .string ⟨#[]⟩, .int .i64 6, .int .i64 0,
  .string ⟨#[108, 101, 102, 116]⟩, .int .i64 4, .int .i64 (-63999999999), .string ⟨#[]⟩, .int .i64 2, .int .i64 0,
  .string ⟨#[116, 111, 112]⟩, .int .i64 4, .int .i64 (-63999999999), .string ⟨#[]⟩, .int .i64 2, .int .i64 0]
theorem wpList_build_to {P : Program} {ops : Array Oper} {rest : List Oper} {o : Oper} {a : Act} {w : World} {Q : Exit → Act → World → Prop} (hg : o.guard = none) (t : TypeId) (parts : Array (Nat × Operand)) (ho : o.op = .build t parts)
    (cells : Array Value) (hb : P.built t (parts.map fun (i, x) => (i, a.eval x)).toList = some cells)
    (h : wpList P ops Q rest (a.put o.dst (.agg cells)) w) : wpList P ops Q (o :: rest) a w := by
  refine wpList_build hg t parts ho (by rw [hb]; rfl) ?_
  rw [hb]
  exact h
theorem setRow_heap {w : World} {g : Nat} {t : TypeId} {old cells : Array Value} (h : w.heap[g]? = some (.cells old t (0, 0))) : (w.setRow g cells).heap[g]? = some (.cells cells t (0, 0)) := by
  unfold World.setRow
  simp [Array.getElem?_modify, h]
theorem below_setRow {w E : World} (h : Below w.heap.size w E) {g : Nat} (hg : w.heap.size ≤ g) (cs : Array Value) : Below w.heap.size w (E.setRow g cs) := by
  refine ⟨h.os, h.tape, h.output, by unfold World.setRow; simpa using h.size, fun b hb => ?_⟩
  unfold World.setRow
  rw [Array.getElem?_modify, if_neg (by omega)]
  exact h.block b hb
theorem table_one : ∀ v ∈ tableCells.toList, v.oneCell' = true := List.all_eq_true.1 (by kernel_rfl)
def zTab : Array Value := (List.replicate 27 [.string ⟨#[]⟩, .int .i64 0, .int .i64 0, .string ⟨#[]⟩, .int .i64 0, .int .i64 0]).flatten.toArray
theorem zero_tab (w : World) : (zeroValue 45).run Tryz.prog w = .ok (.agg zTab) w := by kernel_rfl
theorem store_table (w1 : World) (g : Nat) {old : Array Value} (h : w1.heap[g]? = some (.cells old 45 (0, 0))) (hs : 0 + tableCells.toList.length = old.size) :
    (storeCells ⟨g, 0, none⟩ tableCells.toList).run Tryz.prog w1 = .ok () (w1.setRow g tableCells) := by
  have hst := run_storeCells_from (P := Tryz.prog) g 45 tableCells.toList 0 _ w1 h hs table_one
  rw [List.take_zero, List.nil_append, Array.toArray_toList] at hst
  exact hst
set_option maxHeartbeats 8000000 in
set_option maxRecDepth 100000 in
theorem sorts_any (w : World) : Calls Tryz.prog 28 #[] w fun e w' => e = .returned (.agg tableCells) ∧ Below w.heap.size w w' := by
  have hB := Below.refl w.heap.size w
  have hz := fun w => zero_tab w
  go_enter Tryz.func28, Tryz.ntmps28
  go_wp2_with (first
    | (go_at_call 47; (with_reducible refine (size_any _ _).mono ?_); rintro e w1 ⟨rfl, hb⟩; (first | (replace K0 := Blk.next K0 hb) | (have K0 := Blk.next (Blk.new w 45 _) hb)); (first | (replace hB := below_next hB hb) | (replace hB := below_next (below_al hB _) hb)); clear hb)
    | (go_at_call 48; (with_reducible refine (margin_any _ _).mono ?_); rintro e w1 ⟨rfl, hb⟩; (first | (replace K0 := Blk.next K0 hb) | (have K0 := Blk.next (Blk.new w 45 _) hb)); (first | (replace hB := below_next hB hb) | (replace hB := below_next (below_al hB _) hb)); clear hb)
    | (go_at_call 49; (with_reducible refine (side_any _ _ _).mono ?_); rintro e w1 ⟨rfl, hb⟩; (first | (replace K0 := Blk.next K0 hb) | (have K0 := Blk.next (Blk.new w 45 _) hb)); (first | (replace hB := below_next hB hb) | (replace hB := below_next (below_al hB _) hb)); clear hb)
    | (go_at_call 50; (with_reducible refine (shift_any _ _).mono ?_); rintro e w1 ⟨rfl, hb⟩; (first | (replace K0 := Blk.next K0 hb) | (have K0 := Blk.next (Blk.new w 45 _) hb)); (first | (replace hB := below_next hB hb) | (replace hB := below_next (below_al hB _) hb)); clear hb)
    | (go_at_call 51; (with_reducible refine (paint_any _ _ _).mono ?_); rintro e w1 ⟨rfl, hb⟩; (first | (replace K0 := Blk.next K0 hb) | (have K0 := Blk.next (Blk.new w 45 _) hb)); (first | (replace hB := below_next hB hb) | (replace hB := below_next (below_al hB _) hb)); clear hb)
    | (go_at_call 52; (with_reducible refine (choice_any _ _ _ _).mono ?_); rintro e w1 ⟨rfl, hb⟩; (first | (replace K0 := Blk.next K0 hb) | (have K0 := Blk.next (Blk.new w 45 _) hb)); (first | (replace hB := below_next hB hb) | (replace hB := below_next (below_al hB _) hb)); clear hb)
    | (go_at_call 53; (with_reducible refine (count_any _ _ _ _).mono ?_); rintro e w1 ⟨rfl, hb⟩; (first | (replace K0 := Blk.next K0 hb) | (have K0 := Blk.next (Blk.new w 45 _) hb)); (first | (replace hB := below_next hB hb) | (replace hB := below_next (below_al hB _) hb)); clear hb)
    | (with_reducible refine wpList_build_to rfl 45 _ rfl tableCells ?_ ?_; focus (kernel_rfl)))
  have hst := store_table w1 w.heap.size K0 (by kernel_rfl)
  rw [hst]
  go_wp2
  exact bodyPost_ret (v := .agg tableCells) (results_cell_row Tryz.results28 _ _ w.heap.size 45 tableCells _ _ rfl (setRow_heap K0) Tryz.underlying45 rfl (by kernel_rfl)) rfl ⟨rfl, below_setRow hB (Nat.le_refl _) _⟩
end Val
end Go.Proofs.YtcacabpcobmgoaaGreatDoor
