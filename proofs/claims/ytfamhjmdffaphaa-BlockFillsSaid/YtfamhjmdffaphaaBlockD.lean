/- What Of of package block answers, of any style. Conditions: none. -/
import Derived.Test.YtfamhjmdffaphaaBlockC
import Derived.WalkKit
namespace Go.Proofs.Ytfamhjmdffaphaa
open Go.ChangeShapes Go.WideShapes Go.ChangeAt Go.RowKit
/-- A style, by its 54 numbers. -/
def styF (s : Nat → Int) : Array Value := #[.int .i64 (s 0), .int .i64 (s 1), .int .i64 (s 2), .int .i64 (s 3), .int .i64 (s 4), .int .i64 (s 5), .int .i64 (s 6), .int .i64 (s 7), .int .i64 (s 8), .int .i64 (s 9), .int .i64 (s 10), .int .i64 (s 11), .int .i64 (s 12), .int .i64 (s 13), .int .i64 (s 14), .int .i64 (s 15), .int .i64 (s 16), .int .i64 (s 17), .int .i64 (s 18), .int .i64 (s 19), .int .i64 (s 20), .int .i64 (s 21), .int .i64 (s 22), .int .i64 (s 23), .int .i64 (s 24), .int .i64 (s 25), .int .i64 (s 26), .int .i64 (s 27), .int .i64 (s 28), .int .i64 (s 29), .int .i64 (s 30), .int .i64 (s 31), .int .i64 (s 32), .int .i64 (s 33), .int .i64 (s 34), .int .i64 (s 35), .int .i64 (s 36), .int .i64 (s 37), .int .i64 (s 38), .int .i64 (s 39), .int .i64 (s 40), .int .i64 (s 41), .int .i64 (s 42), .int .i64 (s 43), .int .i64 (s 44), .int .i64 (s 45), .int .i64 (s 46), .int .i64 (s 47), .int .i64 (s 48), .int .i64 (s 49), .int .i64 (s 50), .int .i64 (s 51), .int .i64 (s 52), .int .i64 (s 53)]
/-- Sides, by their 12 numbers. -/
def sidF (m : Nat → Int) : Array Value := #[.int .i64 (m 0), .int .i64 (m 1), .int .i64 (m 2), .int .i64 (m 3), .int .i64 (m 4), .int .i64 (m 5), .int .i64 (m 6), .int .i64 (m 7), .int .i64 (m 8), .int .i64 (m 9), .int .i64 (m 10), .int .i64 (m 11)]
/-- How long property p is. -/
def lenS (s : Nat → Int) (p : Nat) : Int := lenF (s (2 * p)) (s (2 * p + 1))
/-- The first k sides of each of the three. -/
def ofK (s : Nat → Int) (k : Nat) (j : Nat) : Int := if j % 4 < k then (if j < 4 then lenS s (4 + j) else if j < 8 then lenS s (12 + (j - 4)) else lenS s (8 + (j - 8))) else 0
def ofF (s : Nat → Int) : Nat → Int := ofK s 4
theorem of_zero (s : Nat → Int) : sidF (ofK s 0) = #[.int .i64 0, .int .i64 0, .int .i64 0, .int .i64 0, .int .i64 0, .int .i64 0, .int .i64 0, .int .i64 0, .int .i64 0, .int .i64 0, .int .i64 0, .int .i64 0] := rfl
theorem of_one (s : Nat → Int) (k : Nat) (h : k < 4) : (((sidF (ofK s k)).setIfInBounds k (.int .i64 (lenF (s (8 + 2 * k)) (s (9 + 2 * k))))).setIfInBounds (4 + k) (.int .i64 (lenF (s (24 + 2 * k)) (s (25 + 2 * k))))).setIfInBounds (8 + k) (.int .i64 (lenF (s (16 + 2 * k)) (s (17 + 2 * k)))) = sidF (ofK s (k + 1)) := by
  match k, h with
  | 0, _ | 1, _ | 2, _ | 3, _ => rfl
  | k + 4, h => omega
theorem sid_cell (m : Nat → Int) (j : Nat) (h : j < 12) : (sidF m)[j]? = some (.int .i64 (m j)) := by
  match j, h with
  | 0, _ | 1, _ | 2, _ | 3, _ | 4, _ | 5, _ | 6, _ | 7, _ | 8, _ | 9, _ | 10, _ | 11, _ => rfl
  | j + 12, h => omega
theorem sid_one (m : Nat → Int) : ∀ v ∈ (sidF m).toList, v.oneCell' = true := List.all_eq_true.1 (by kernel_rfl)
theorem store_sid (w1 : World) (g : Nat) (m : Nat → Int) {old : Array Value} (h : w1.heap[g]? = some (.cells old 32 (0, 0))) (hs : 0 + (sidF m).toList.length = old.size) :
    (storeCells ⟨g, 0, none⟩ (sidF m).toList).run Try.prog w1 = .ok () (w1.setRow g (sidF m)) := by
  have hst := run_storeCells_from (P := Try.prog) g 32 (sidF m).toList 0 _ w1 h hs (sid_one m)
  rw [List.take_zero, List.nil_append, Array.toArray_toList] at hst
  exact hst
set_option maxHeartbeats 8000000 in
set_option maxRecDepth 100000 in
theorem of_any (s : Nat → Int) (w : World) : Calls Try.prog 7 #[.agg (styF s)] w fun e w' => e = .returned (.agg (sidF (ofF s))) ∧ Below w.heap.size w w' := by
  have cL := fun (k n : Int) w => length_any k n w
  have hzero := of_zero s
  go_enter Try.func7, Try.ntmps7
  go_wp2
  rw [← hzero]
  have J0 := (Blk.new w 25 (styF s))
  have J1 := (Blk.new (w.alloc (.cells (styF s) 25)) 32 (sidF (ofK s 0)))
  have J2 := (Blk.new ((w.alloc (.cells (styF s) 25)).alloc (.cells (sidF (ofK s 0)) 32)) 32 (sidF (ofK s 0)))
  rw [size_al] at J1
  rw [size_al, size_al] at J2
  go_loopw [5] (fun i wr => ∃ k : Nat, k ≤ 4 ∧ i = .int .i64 k ∧ Blk wr w.heap.size 25 (styF s) ∧ Blk wr (w.heap.size + 1) 32 (sidF (ofK s 0)) ∧ Blk wr (w.heap.size + 1 + 1) 32 (sidF (ofK s k)) ∧ Below w.heap.size w wr) (fun i _ => 4 - (intOf i).toNat)
  case atStart => exact ⟨0, by omega, rfl, (J0.alloc _).alloc _, J1.alloc _, J2, below_al (below_al (below_al (Below.refl _ _) _) _) _⟩
  case round =>
    clear J0 J1 J2
    obtain ⟨k, hk, rfl, K0, K1, K2, hB⟩ := hrel
    have ho := of_one s k
    match k, hk with
    | 0, _ =>
      have ho := Lib.hid (ho (by omega))
      have d0 : wr.cell? ⟨w.heap.size, 8, none⟩ = some (.int .i64 (s 8)) := K0.cell 8
      have d1 : wr.cell? ⟨w.heap.size, 9, none⟩ = some (.int .i64 (s 9)) := K0.cell 9
      go_wp2_with (first
        | (go_at_call 17; (with_reducible refine (cL (s 8) (s 9) _).mono ?_); rintro e w1 ⟨rfl, hb1⟩
           have M1 := K2.next hb1
           have c1 : w1.cell? ⟨w.heap.size + 1 + 1, 0, none⟩ = some _ := M1.cell 0
           have f1 := M1.frozen 0
           have L1 := M1.set_ 0 (.int .i64 (lenF (s 8) (s 9)))
           have Z1 := (K0.next hb1).far (p := ⟨w.heap.size + 1 + 1, 0, none⟩) (by simp; omega) (.int .i64 (lenF (s 8) (s 9)))
           have Y1 := (K1.next hb1).far (p := ⟨w.heap.size + 1 + 1, 0, none⟩) (by simp) (.int .i64 (lenF (s 8) (s 9)))
           have B1 := below_set (below_next hB hb1) (p := ⟨w.heap.size + 1 + 1, 0, none⟩) (by simp; omega) (.int .i64 (lenF (s 8) (s 9)))
           have e10 : (w1.setCell ⟨w.heap.size + 1 + 1, 0, none⟩ (.int .i64 (lenF (s 8) (s 9)))).cell? ⟨w.heap.size, 24, none⟩ = some (.int .i64 (s 24)) := Z1.cell 24
           have e11 : (w1.setCell ⟨w.heap.size + 1 + 1, 0, none⟩ (.int .i64 (lenF (s 8) (s 9)))).cell? ⟨w.heap.size, 25, none⟩ = some (.int .i64 (s 25)) := Z1.cell 25)
        | (go_at_call 17; (with_reducible refine (cL (s 24) (s 25) _).mono ?_); rintro e w2 ⟨rfl, hb2⟩
           have M2 := L1.next hb2
           have c2 : w2.cell? ⟨w.heap.size + 1 + 1, 4, none⟩ = some _ := M2.cell 4
           have f2 := M2.frozen 4
           have L2 := M2.set_ 4 (.int .i64 (lenF (s 24) (s 25)))
           have Z2 := (Z1.next hb2).far (p := ⟨w.heap.size + 1 + 1, 4, none⟩) (by simp; omega) (.int .i64 (lenF (s 24) (s 25)))
           have Y2 := (Y1.next hb2).far (p := ⟨w.heap.size + 1 + 1, 4, none⟩) (by simp) (.int .i64 (lenF (s 24) (s 25)))
           have B2 := below_set (below_next B1 hb2) (p := ⟨w.heap.size + 1 + 1, 4, none⟩) (by simp; omega) (.int .i64 (lenF (s 24) (s 25)))
           have e20 : (w2.setCell ⟨w.heap.size + 1 + 1, 4, none⟩ (.int .i64 (lenF (s 24) (s 25)))).cell? ⟨w.heap.size, 16, none⟩ = some (.int .i64 (s 16)) := Z2.cell 16
           have e21 : (w2.setCell ⟨w.heap.size + 1 + 1, 4, none⟩ (.int .i64 (lenF (s 24) (s 25)))).cell? ⟨w.heap.size, 17, none⟩ = some (.int .i64 (s 17)) := Z2.cell 17)
        | (go_at_call 17; (with_reducible refine (cL (s 16) (s 17) _).mono ?_); rintro e w3 ⟨rfl, hb3⟩
           have M3 := L2.next hb3
           have c3 : w3.cell? ⟨w.heap.size + 1 + 1, 8, none⟩ = some _ := M3.cell 8
           have f3 := M3.frozen 8
           have L3 := M3.set_ 8 (.int .i64 (lenF (s 16) (s 17)))
           have Z3 := (Z2.next hb3).far (p := ⟨w.heap.size + 1 + 1, 8, none⟩) (by simp; omega) (.int .i64 (lenF (s 16) (s 17)))
           have Y3 := (Y2.next hb3).far (p := ⟨w.heap.size + 1 + 1, 8, none⟩) (by simp) (.int .i64 (lenF (s 16) (s 17)))
           have B3 := below_set (below_next B2 hb3) (p := ⟨w.heap.size + 1 + 1, 8, none⟩) (by simp; omega) (.int .i64 (lenF (s 16) (s 17)))))
      go_roundw
      case rel => exact ⟨1, by omega, by go_num, Z3, Y3, by rw [← ho.out]; exact L3, B3⟩
      case measure => simp [intOf]
    | 1, _ =>
      have ho := Lib.hid (ho (by omega))
      have d0 : wr.cell? ⟨w.heap.size, 10, none⟩ = some (.int .i64 (s 10)) := K0.cell 10
      have d1 : wr.cell? ⟨w.heap.size, 11, none⟩ = some (.int .i64 (s 11)) := K0.cell 11
      go_wp2_with (first
        | (go_at_call 17; (with_reducible refine (cL (s 10) (s 11) _).mono ?_); rintro e w1 ⟨rfl, hb1⟩
           have M1 := K2.next hb1
           have c1 : w1.cell? ⟨w.heap.size + 1 + 1, 1, none⟩ = some _ := M1.cell 1
           have f1 := M1.frozen 1
           have L1 := M1.set_ 1 (.int .i64 (lenF (s 10) (s 11)))
           have Z1 := (K0.next hb1).far (p := ⟨w.heap.size + 1 + 1, 1, none⟩) (by simp; omega) (.int .i64 (lenF (s 10) (s 11)))
           have Y1 := (K1.next hb1).far (p := ⟨w.heap.size + 1 + 1, 1, none⟩) (by simp) (.int .i64 (lenF (s 10) (s 11)))
           have B1 := below_set (below_next hB hb1) (p := ⟨w.heap.size + 1 + 1, 1, none⟩) (by simp; omega) (.int .i64 (lenF (s 10) (s 11)))
           have e10 : (w1.setCell ⟨w.heap.size + 1 + 1, 1, none⟩ (.int .i64 (lenF (s 10) (s 11)))).cell? ⟨w.heap.size, 26, none⟩ = some (.int .i64 (s 26)) := Z1.cell 26
           have e11 : (w1.setCell ⟨w.heap.size + 1 + 1, 1, none⟩ (.int .i64 (lenF (s 10) (s 11)))).cell? ⟨w.heap.size, 27, none⟩ = some (.int .i64 (s 27)) := Z1.cell 27)
        | (go_at_call 17; (with_reducible refine (cL (s 26) (s 27) _).mono ?_); rintro e w2 ⟨rfl, hb2⟩
           have M2 := L1.next hb2
           have c2 : w2.cell? ⟨w.heap.size + 1 + 1, 5, none⟩ = some _ := M2.cell 5
           have f2 := M2.frozen 5
           have L2 := M2.set_ 5 (.int .i64 (lenF (s 26) (s 27)))
           have Z2 := (Z1.next hb2).far (p := ⟨w.heap.size + 1 + 1, 5, none⟩) (by simp; omega) (.int .i64 (lenF (s 26) (s 27)))
           have Y2 := (Y1.next hb2).far (p := ⟨w.heap.size + 1 + 1, 5, none⟩) (by simp) (.int .i64 (lenF (s 26) (s 27)))
           have B2 := below_set (below_next B1 hb2) (p := ⟨w.heap.size + 1 + 1, 5, none⟩) (by simp; omega) (.int .i64 (lenF (s 26) (s 27)))
           have e20 : (w2.setCell ⟨w.heap.size + 1 + 1, 5, none⟩ (.int .i64 (lenF (s 26) (s 27)))).cell? ⟨w.heap.size, 18, none⟩ = some (.int .i64 (s 18)) := Z2.cell 18
           have e21 : (w2.setCell ⟨w.heap.size + 1 + 1, 5, none⟩ (.int .i64 (lenF (s 26) (s 27)))).cell? ⟨w.heap.size, 19, none⟩ = some (.int .i64 (s 19)) := Z2.cell 19)
        | (go_at_call 17; (with_reducible refine (cL (s 18) (s 19) _).mono ?_); rintro e w3 ⟨rfl, hb3⟩
           have M3 := L2.next hb3
           have c3 : w3.cell? ⟨w.heap.size + 1 + 1, 9, none⟩ = some _ := M3.cell 9
           have f3 := M3.frozen 9
           have L3 := M3.set_ 9 (.int .i64 (lenF (s 18) (s 19)))
           have Z3 := (Z2.next hb3).far (p := ⟨w.heap.size + 1 + 1, 9, none⟩) (by simp; omega) (.int .i64 (lenF (s 18) (s 19)))
           have Y3 := (Y2.next hb3).far (p := ⟨w.heap.size + 1 + 1, 9, none⟩) (by simp) (.int .i64 (lenF (s 18) (s 19)))
           have B3 := below_set (below_next B2 hb3) (p := ⟨w.heap.size + 1 + 1, 9, none⟩) (by simp; omega) (.int .i64 (lenF (s 18) (s 19)))))
      go_roundw
      case rel => exact ⟨2, by omega, by go_num, Z3, Y3, by rw [← ho.out]; exact L3, B3⟩
      case measure => simp [intOf]
    | 2, _ =>
      have ho := Lib.hid (ho (by omega))
      have d0 : wr.cell? ⟨w.heap.size, 12, none⟩ = some (.int .i64 (s 12)) := K0.cell 12
      have d1 : wr.cell? ⟨w.heap.size, 13, none⟩ = some (.int .i64 (s 13)) := K0.cell 13
      go_wp2_with (first
        | (go_at_call 17; (with_reducible refine (cL (s 12) (s 13) _).mono ?_); rintro e w1 ⟨rfl, hb1⟩
           have M1 := K2.next hb1
           have c1 : w1.cell? ⟨w.heap.size + 1 + 1, 2, none⟩ = some _ := M1.cell 2
           have f1 := M1.frozen 2
           have L1 := M1.set_ 2 (.int .i64 (lenF (s 12) (s 13)))
           have Z1 := (K0.next hb1).far (p := ⟨w.heap.size + 1 + 1, 2, none⟩) (by simp; omega) (.int .i64 (lenF (s 12) (s 13)))
           have Y1 := (K1.next hb1).far (p := ⟨w.heap.size + 1 + 1, 2, none⟩) (by simp) (.int .i64 (lenF (s 12) (s 13)))
           have B1 := below_set (below_next hB hb1) (p := ⟨w.heap.size + 1 + 1, 2, none⟩) (by simp; omega) (.int .i64 (lenF (s 12) (s 13)))
           have e10 : (w1.setCell ⟨w.heap.size + 1 + 1, 2, none⟩ (.int .i64 (lenF (s 12) (s 13)))).cell? ⟨w.heap.size, 28, none⟩ = some (.int .i64 (s 28)) := Z1.cell 28
           have e11 : (w1.setCell ⟨w.heap.size + 1 + 1, 2, none⟩ (.int .i64 (lenF (s 12) (s 13)))).cell? ⟨w.heap.size, 29, none⟩ = some (.int .i64 (s 29)) := Z1.cell 29)
        | (go_at_call 17; (with_reducible refine (cL (s 28) (s 29) _).mono ?_); rintro e w2 ⟨rfl, hb2⟩
           have M2 := L1.next hb2
           have c2 : w2.cell? ⟨w.heap.size + 1 + 1, 6, none⟩ = some _ := M2.cell 6
           have f2 := M2.frozen 6
           have L2 := M2.set_ 6 (.int .i64 (lenF (s 28) (s 29)))
           have Z2 := (Z1.next hb2).far (p := ⟨w.heap.size + 1 + 1, 6, none⟩) (by simp; omega) (.int .i64 (lenF (s 28) (s 29)))
           have Y2 := (Y1.next hb2).far (p := ⟨w.heap.size + 1 + 1, 6, none⟩) (by simp) (.int .i64 (lenF (s 28) (s 29)))
           have B2 := below_set (below_next B1 hb2) (p := ⟨w.heap.size + 1 + 1, 6, none⟩) (by simp; omega) (.int .i64 (lenF (s 28) (s 29)))
           have e20 : (w2.setCell ⟨w.heap.size + 1 + 1, 6, none⟩ (.int .i64 (lenF (s 28) (s 29)))).cell? ⟨w.heap.size, 20, none⟩ = some (.int .i64 (s 20)) := Z2.cell 20
           have e21 : (w2.setCell ⟨w.heap.size + 1 + 1, 6, none⟩ (.int .i64 (lenF (s 28) (s 29)))).cell? ⟨w.heap.size, 21, none⟩ = some (.int .i64 (s 21)) := Z2.cell 21)
        | (go_at_call 17; (with_reducible refine (cL (s 20) (s 21) _).mono ?_); rintro e w3 ⟨rfl, hb3⟩
           have M3 := L2.next hb3
           have c3 : w3.cell? ⟨w.heap.size + 1 + 1, 10, none⟩ = some _ := M3.cell 10
           have f3 := M3.frozen 10
           have L3 := M3.set_ 10 (.int .i64 (lenF (s 20) (s 21)))
           have Z3 := (Z2.next hb3).far (p := ⟨w.heap.size + 1 + 1, 10, none⟩) (by simp; omega) (.int .i64 (lenF (s 20) (s 21)))
           have Y3 := (Y2.next hb3).far (p := ⟨w.heap.size + 1 + 1, 10, none⟩) (by simp) (.int .i64 (lenF (s 20) (s 21)))
           have B3 := below_set (below_next B2 hb3) (p := ⟨w.heap.size + 1 + 1, 10, none⟩) (by simp; omega) (.int .i64 (lenF (s 20) (s 21)))))
      go_roundw
      case rel => exact ⟨3, by omega, by go_num, Z3, Y3, by rw [← ho.out]; exact L3, B3⟩
      case measure => simp [intOf]
    | 3, _ =>
      have ho := Lib.hid (ho (by omega))
      have d0 : wr.cell? ⟨w.heap.size, 14, none⟩ = some (.int .i64 (s 14)) := K0.cell 14
      have d1 : wr.cell? ⟨w.heap.size, 15, none⟩ = some (.int .i64 (s 15)) := K0.cell 15
      go_wp2_with (first
        | (go_at_call 17; (with_reducible refine (cL (s 14) (s 15) _).mono ?_); rintro e w1 ⟨rfl, hb1⟩
           have M1 := K2.next hb1
           have c1 : w1.cell? ⟨w.heap.size + 1 + 1, 3, none⟩ = some _ := M1.cell 3
           have f1 := M1.frozen 3
           have L1 := M1.set_ 3 (.int .i64 (lenF (s 14) (s 15)))
           have Z1 := (K0.next hb1).far (p := ⟨w.heap.size + 1 + 1, 3, none⟩) (by simp; omega) (.int .i64 (lenF (s 14) (s 15)))
           have Y1 := (K1.next hb1).far (p := ⟨w.heap.size + 1 + 1, 3, none⟩) (by simp) (.int .i64 (lenF (s 14) (s 15)))
           have B1 := below_set (below_next hB hb1) (p := ⟨w.heap.size + 1 + 1, 3, none⟩) (by simp; omega) (.int .i64 (lenF (s 14) (s 15)))
           have e10 : (w1.setCell ⟨w.heap.size + 1 + 1, 3, none⟩ (.int .i64 (lenF (s 14) (s 15)))).cell? ⟨w.heap.size, 30, none⟩ = some (.int .i64 (s 30)) := Z1.cell 30
           have e11 : (w1.setCell ⟨w.heap.size + 1 + 1, 3, none⟩ (.int .i64 (lenF (s 14) (s 15)))).cell? ⟨w.heap.size, 31, none⟩ = some (.int .i64 (s 31)) := Z1.cell 31)
        | (go_at_call 17; (with_reducible refine (cL (s 30) (s 31) _).mono ?_); rintro e w2 ⟨rfl, hb2⟩
           have M2 := L1.next hb2
           have c2 : w2.cell? ⟨w.heap.size + 1 + 1, 7, none⟩ = some _ := M2.cell 7
           have f2 := M2.frozen 7
           have L2 := M2.set_ 7 (.int .i64 (lenF (s 30) (s 31)))
           have Z2 := (Z1.next hb2).far (p := ⟨w.heap.size + 1 + 1, 7, none⟩) (by simp; omega) (.int .i64 (lenF (s 30) (s 31)))
           have Y2 := (Y1.next hb2).far (p := ⟨w.heap.size + 1 + 1, 7, none⟩) (by simp) (.int .i64 (lenF (s 30) (s 31)))
           have B2 := below_set (below_next B1 hb2) (p := ⟨w.heap.size + 1 + 1, 7, none⟩) (by simp; omega) (.int .i64 (lenF (s 30) (s 31)))
           have e20 : (w2.setCell ⟨w.heap.size + 1 + 1, 7, none⟩ (.int .i64 (lenF (s 30) (s 31)))).cell? ⟨w.heap.size, 22, none⟩ = some (.int .i64 (s 22)) := Z2.cell 22
           have e21 : (w2.setCell ⟨w.heap.size + 1 + 1, 7, none⟩ (.int .i64 (lenF (s 30) (s 31)))).cell? ⟨w.heap.size, 23, none⟩ = some (.int .i64 (s 23)) := Z2.cell 23)
        | (go_at_call 17; (with_reducible refine (cL (s 22) (s 23) _).mono ?_); rintro e w3 ⟨rfl, hb3⟩
           have M3 := L2.next hb3
           have c3 : w3.cell? ⟨w.heap.size + 1 + 1, 11, none⟩ = some _ := M3.cell 11
           have f3 := M3.frozen 11
           have L3 := M3.set_ 11 (.int .i64 (lenF (s 22) (s 23)))
           have Z3 := (Z2.next hb3).far (p := ⟨w.heap.size + 1 + 1, 11, none⟩) (by simp; omega) (.int .i64 (lenF (s 22) (s 23)))
           have Y3 := (Y2.next hb3).far (p := ⟨w.heap.size + 1 + 1, 11, none⟩) (by simp) (.int .i64 (lenF (s 22) (s 23)))
           have B3 := below_set (below_next B2 hb3) (p := ⟨w.heap.size + 1 + 1, 11, none⟩) (by simp; omega) (.int .i64 (lenF (s 22) (s 23)))))
      go_roundw
      case rel => exact ⟨4, by omega, by go_num, Z3, Y3, by rw [← ho.out]; exact L3, B3⟩
      case measure => simp [intOf]
    | 4, _ =>
      go_wp2_with (refine wpList_load_row rfl 32 _ rfl (w.heap.size + 1 + 1) rfl 32 (sidF (ofK s 4)) (0, 0) _ K2 Try.underlying32 rfl (by kernel_rfl) ?_)
      have hst := store_sid wr (w.heap.size + 1) (ofK s 4) K1 (by kernel_rfl)
      rw [hst]
      go_wp2
      exact bodyPost_ret (v := .agg (sidF (ofF s))) (results_cell_row Try.results7 _ _ (w.heap.size + 1) 32 (sidF (ofK s 4)) _ _ rfl (Val.setRow_heap K1) Try.underlying32 rfl (by kernel_rfl)) rfl ⟨rfl, Val.below_setRow hB (by omega) _⟩
    | k + 5, h => omega
end Go.Proofs.Ytfamhjmdffaphaa
