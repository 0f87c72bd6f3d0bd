/- awake of the statements of layer 17 answers true. Conditions: none. -/
import Derived.Test.YtfamhjmdffaphaaBlockF
import Derived.Test.YtfamhjmdffaphaaBlockH
import Derived.Test.YtfamhjmdffaphaaBlockC
namespace Go.Proofs.Ytfamhjmdffaphaa
open Go.ChangeShapes Go.WideShapes Go.ChangeAt Go.RowKit
namespace blockAwake
def sF (j : Nat) : Int := if 1 ≤ j / 2 ∧ j / 2 < 27 then (if j % 2 = 0 then (firstP ((j / 2 : Nat) : Int)).1 else (firstP ((j / 2 : Nat) : Int)).2) else 0
def sA (j : Nat) : Int := if j = 4 then 2 else if j = 5 then 40 else if j = 14 then 1 else if j = 15 then 0 else if j = 19 then 6 else sF j
theorem first_is : Val.firstA 27 = styF sF := by kernel_rfl
theorem sA_is : ((((((styF sF).setIfInBounds 4 (.int .i64 2)).setIfInBounds 5 (.int .i64 40)).setIfInBounds 14 (.int .i64 1)).setIfInBounds 15 (.int .i64 0)).setIfInBounds 19 (.int .i64 6)) = styF sA := by kernel_rfl
theorem e1 : shiF sA 100 40 = (54, true) := by decide +kernel
theorem e2 : widF sF 100 = (100, true) := by decide +kernel
theorem e3 : meetF 5 (-3) = (2, true) := by decide +kernel
theorem e4 : stackF [⟨5, 10, 8⟩, ⟨3, 4, 1⟩] = ([5, 23], 28, true) := by decide +kernel
theorem e5 : togF (ofF sA) 3 1 = (6, true) := by decide +kernel
theorem e6 : togF (ofF sA) 0 2 = (0, true) := by decide +kernel
theorem e7 : higF sA 7 = 7 := by decide +kernel
theorem styF_one (s : Nat → Int) : ∀ v ∈ (styF s).toList, v.oneCell' = true := List.all_eq_true.1 (by kernel_rfl)
theorem store_styF (s : Nat → Int) (w1 : World) (g : Nat) {old : Array Value} (h : w1.heap[g]? = some (.cells old 25 (0, 0))) (hs : 0 + (styF s).toList.length = old.size) :
    (storeCells ⟨g, 0, none⟩ (styF s).toList).run Try.prog w1 = .ok () (w1.setRow g (styF s)) := by
  have hst := run_storeCells_from (P := Try.prog) g 25 (styF s).toList 0 _ w1 h hs (styF_one s)
  rw [List.take_zero, List.nil_append, Array.toArray_toList] at hst
  exact hst
theorem wpList_load_row_w {P : Program} {ops : Array Oper} {rest : List Oper} {o : Oper} {a : Act} {w : World} {Q : Exit → Act → World → Prop} (hw : Region.wanted o (yielded ops a.tmps) = true) (ty : TypeId) (x : Operand) (ho : o.op = .load ty x)
    (g : Nat) (hx : a.eval x = .pointer (some ⟨g, 0, none⟩)) (t : TypeId) (cs : Array Value) (fr : Nat × Nat) (d : TypeDesc) (hg : w.heap[g]? = some (.cells cs t fr))
    (hu : P.underlying ty = some d) (hd : (match d with | .struct _ | .array _ _ => true | _ => false) = true) (hi : (P.info? ty).map (·.size) = some cs.size)
    (h : wpList P ops Q rest (a.put o.dst (.agg cs)) w) : wpList P ops Q (o :: rest) a w := by
  unfold wpList
  rw [if_pos hw]
  exact .inl (wp_load_row ty x ho g hx t cs fr d hg hu hd hi h)
def stack2 : List It := [⟨5, 10, 8⟩, ⟨3, 4, 1⟩]
set_option maxHeartbeats 16000000 in
set_option maxRecDepth 100000 in
theorem awake_any (w : World) : Calls Try.prog 4 #[] w fun e w' => e = .returned (.bool true) ∧ Below w.heap.size w w' := by
  have hz := fun w => Val.zero_sty w
  have c1 := fun w => Val.style_first w
  rw [first_is] at c1
  have c2 := fun w => shift_any sA w 100 40
  rw [e1] at c2
  have c3 := fun w => width_any sF w 100
  rw [e2] at c3
  have c4 := fun w => meet_any 5 (-3) w
  rw [e3] at c4
  have c5 := fun (w : World) hr => stack_any (some ⟨w.heap.size, 0, none⟩) 2 2 stack2 (w.alloc (.cells #[.int .i64 5, .int .i64 10, .int .i64 8, .int .i64 3, .int .i64 4, .int .i64 1] 43)) hr (by omega)
  have c5' := fun (w : World) => c5 w (reads_blk (Blk.new w 43 #[.int .i64 5, .int .i64 10, .int .i64 8, .int .i64 3, .int .i64 4, .int .i64 1]) (by rw [size_al]; omega) rfl)
  rw [show stackF stack2 = ([5, 23], 28, true) from e4] at c5'
  clear c5
  have c6 := fun w => of_any sA w
  have c7 := fun w => across_any (ofF sA) w
  rw [e5] at c7
  have c8 := fun w => down_any (ofF sA) w
  rw [e6] at c8
  have c9 := fun w => height_any sA w 7
  rw [e7] at c9
  go_enter Try.func4, Try.ntmps4
  go_upto_region 2 with (go_at_call 10; (with_reducible refine (c1 _).mono ?_); rintro e w1 ⟨rfl, hb1⟩)
  have hst := store_styF sF (w1.alloc (.cells (Val.firstA 1) 25)) w1.heap.size (Blk.new w1 _ _) (by kernel_rfl)
  rw [hst]
  have K := Val.setRow_heap (cells := styF sF) (Blk.new w1 25 (Val.firstA 1))
  have hB := Val.below_setRow (below_al hb1 (.cells (Val.firstA 1) 25)) hb1.size (styF sF)
  generalize (w1.alloc (.cells (Val.firstA 1) 25)).setRow w1.heap.size (styF sF) = W at *
  have hg := hb1.size
  clear hst hb1
  generalize w1.heap.size = g at *
  have K0 : Blk W g 25 (styF sF) := K
  clear K
  go_upto_region 2 with (fail)
  have a0 : (W).cell? ⟨g, 4, none⟩ = some (.int .i64 (sF 4)) := K0.cell 4
  have f0 := K0.frozen 4
  have K1 := K0.set_ 4 (.int .i64 2)
  have a1 : (W.setCell ⟨g, 4, none⟩ (.int .i64 2)).cell? ⟨g, 5, none⟩ = some (.int .i64 (sF 5)) := K1.cell 5
  have f1 := K1.frozen 5
  have K2 := K1.set_ 5 (.int .i64 40)
  have a2 : ((W.setCell ⟨g, 4, none⟩ (.int .i64 2)).setCell ⟨g, 5, none⟩ (.int .i64 40)).cell? ⟨g, 14, none⟩ = some (.int .i64 (sF 14)) := K2.cell 14
  have f2 := K2.frozen 14
  have K3 := K2.set_ 14 (.int .i64 1)
  have a3 : (((W.setCell ⟨g, 4, none⟩ (.int .i64 2)).setCell ⟨g, 5, none⟩ (.int .i64 40)).setCell ⟨g, 14, none⟩ (.int .i64 1)).cell? ⟨g, 15, none⟩ = some (.int .i64 (sF 15)) := K3.cell 15
  have f3 := K3.frozen 15
  have K4 := K3.set_ 15 (.int .i64 0)
  have a4 : ((((W.setCell ⟨g, 4, none⟩ (.int .i64 2)).setCell ⟨g, 5, none⟩ (.int .i64 40)).setCell ⟨g, 14, none⟩ (.int .i64 1)).setCell ⟨g, 15, none⟩ (.int .i64 0)).cell? ⟨g, 19, none⟩ = some (.int .i64 (sF 19)) := K4.cell 19
  have f4 := K4.frozen 19
  have K5 := K4.set_ 19 (.int .i64 6)
  have hB5 := below_set (below_set (below_set (below_set (below_set hB (p := ⟨g, 4, none⟩) hg (.int .i64 2)) (p := ⟨g, 5, none⟩) hg (.int .i64 40)) (p := ⟨g, 14, none⟩) hg (.int .i64 1)) (p := ⟨g, 15, none⟩) hg (.int .i64 0)) (p := ⟨g, 19, none⟩) hg (.int .i64 6)
  rw [sA_is] at K5
  go_upto_region 5 with (fail)
  generalize ((((W.setCell ⟨g, 4, none⟩ (.int .i64 2)).setCell ⟨g, 5, none⟩ (.int .i64 40)).setCell ⟨g, 14, none⟩ (.int .i64 1)).setCell ⟨g, 15, none⟩ (.int .i64 0)).setCell ⟨g, 19, none⟩ (.int .i64 6) = W5 at *
  clear a0 a1 a2 a3 a4 f0 f1 f2 f3 f4 K0 K1 K2 K3 K4 hB
  go_upto_region 9 with (first
    | (go_at_call 9; (with_reducible refine (c2 _).mono ?_); rintro e w2 ⟨rfl, hb2⟩
       have K6 := K5.next hb2
       have hB6 := below_next hB5 hb2)
    | (go_at_call 10; (with_reducible refine (c1 _).mono ?_); rintro e w3 ⟨rfl, hb3⟩
       have K7 := K6.next hb3
       have hB7 := below_next hB6 hb3)
    | (go_at_call 8; (with_reducible refine (c3 _).mono ?_); rintro e w4 ⟨rfl, hb4⟩
       have K8 := K7.next hb4
       have hB8 := below_next hB7 hb4)
    | (go_at_call 11; (with_reducible refine (c4 _).mono ?_); rintro e w' ⟨rfl, rfl⟩)
    | (go_at_call 12; (with_reducible refine (c5' _).mono ?_); rintro e w5 ⟨A5, n5, rfl, hR5, hb5⟩
       have K9 := (K8.alloc _).next hb5
       have hB9 := below_next (below_al hB8 _) hb5)
    | (refine wpList_load_row rfl 25 _ rfl g rfl 25 (styF sA) (0, 0) _ (by assumption) Try.underlying25 rfl (by kernel_rfl) ?_))
  obtain ⟨ad, rfl, hab, hc⟩ := hR5.2 (by omega)
  have hc0 : w5.cell? (ad.add 0) = some (.int .i64 5) := hc 0 _ rfl
  have hc1 : w5.cell? (ad.add 1) = some (.int .i64 23) := hc 1 _ rfl
  clear hc hR5 K5 K6 K7 K8 hb2 hb3 hb4 hb5 hB5 hB6 hB7 hB8
  go_upto_region 10 with (first
    | (go_at_call 7; (with_reducible refine (c6 _).mono ?_); rintro e w6 ⟨rfl, hb6⟩
       have K10 := K9.next hb6
       have hB10 := below_next hB9 hb6)
    | (go_at_call 6; (with_reducible refine (c7 _).mono ?_); rintro e w7 ⟨rfl, hb7⟩
       have K11 := K10.next hb7
       have hB11 := below_next hB10 hb7)
    | (refine wpList_load_row rfl 25 _ rfl g rfl 25 (styF sA) (0, 0) _ (by assumption) Try.underlying25 rfl (by kernel_rfl) ?_))
  have h67 := below_next hb6 hb7
  clear K9 K10 hB9 hB10 hb6 hb7
  go_upto_region 11 with (first
    | (go_at_call 7; (with_reducible refine (c6 _).mono ?_); rintro e w8 ⟨rfl, hb8⟩
       have K12 := K11.next hb8
       have hB12 := below_next hB11 hb8)
    | (go_at_call 13; (with_reducible refine (c8 _).mono ?_); rintro e w9 ⟨rfl, hb9⟩
       have K13 := K12.next hb9
       have hB13 := below_next hB12 hb9)
    | (refine wpList_load_row rfl 25 _ rfl g rfl 25 (styF sA) (0, 0) _ (by assumption) Try.underlying25 rfl (by kernel_rfl) ?_))
  have h69 := below_next (below_next h67 hb8) hb9
  have d0 := (h69.cell (p := ad.add 0) (by rw [block_of_add]; exact hab)).trans hc0
  have d1 := (h69.cell (p := ad.add 1) (by rw [block_of_add]; exact hab)).trans hc1
  rw [show ad.add 0 = ad from by simp [Addr.add]] at d0
  rw [add_one] at d1
  clear K11 K12 hB11 hB12 hb8 hb9 h67 h69 hc0 hc1
  go_wp2_with (first
    | (go_at_call 14; (with_reducible refine (c9 _).mono ?_); rintro e w10 ⟨rfl, hb10⟩)
    | (refine wpList_load_row_w (by rfl) 25 _ rfl g rfl 25 (styF sA) (0, 0) _ (by assumption) Try.underlying25 rfl (by kernel_rfl) ?_))
  go_ret
  exact ⟨rfl, below_next hB13 hb10⟩
end blockAwake
end Go.Proofs.Ytfamhjmdffaphaa
