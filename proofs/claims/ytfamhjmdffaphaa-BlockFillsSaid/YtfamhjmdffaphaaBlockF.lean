/- What Width, Height and Shift of package block answer. Conditions: none. -/
import Derived.Test.YtfamhjmdffaphaaBlockE
import Derived.Test.YtfamhjmdffaphaaFxSub
import Derived.Test.YtfamhjmdffaphaaFxPart
import Derived.Lib.MinMax
namespace Go.Proofs.Ytfamhjmdffaphaa
open Go.ChangeShapes Go.WideShapes Go.ChangeAt Go.RowKit
def widF (s : Nat → Int) (room : Int) : Int × Bool :=
  if s 4 = 2 then (s 5, true) else if s 4 = 3 then (part2 room (min (s 5) 640000) 6400, partOk room (min (s 5) 640000) 6400)
  else (max (sub2 room (togF (ofF s) 3 1).1) 0, (togF (ofF s) 3 1).2 && subOk room (togF (ofF s) 3 1).1)
def higF (s : Nat → Int) (high : Int) : Int := if s 6 = 2 then s 7 else high
def shiF (s : Nat → Int) (room wide : Int) : Int × Bool :=
  if s 4 = 1 ∨ s 14 ≠ 1 then (lenS s 7, true)
  else if room ≤ add2 wide (togF (ofF s) 3 1).1 then (lenS s 7, (togF (ofF s) 3 1).2 && addOk wide (togF (ofF s) 3 1).1)
  else ((if s 10 = 1 then (sub2 room (add2 wide (togF (ofF s) 3 1).1)).tdiv 2 else sub2 room (add2 wide (togF (ofF s) 3 1).1)), ((togF (ofF s) 3 1).2 && addOk wide (togF (ofF s) 3 1).1) && subOk room (add2 wide (togF (ofF s) 3 1).1))
section
variable (s : Nat → Int) (w : World)
set_option maxHeartbeats 8000000 in
set_option maxRecDepth 100000 in
theorem height_any (high : Int) : Calls Try.prog 14 #[.agg (styF s), .int .i64 high] w fun e w' => e = .returned (.int .i64 (higF s high)) ∧ Below w.heap.size w w' := by
  have h6 : (styF s)[6]? = some (.int .i64 (s 6)) := rfl
  have h7 : (styF s)[7]? = some (.int .i64 (s 7)) := rfl
  have hB0 := below_al (Below.refl w.heap.size w) (.cells (styF s) 25)
  by_cases h : s 6 = 2
  · have e : higF s high = s 7 := by unfold higF; rw [if_pos h]
    have hk : (s 6 == 2) = true := by simpa using h
    rw [e]
    clear e h
    generalize s 6 = a at *
    generalize s 7 = b at *
    go_enter Try.func14, Try.ntmps14
    go_wp2
    go_ret
    exact ⟨rfl, hB0⟩
  · have e : higF s high = high := by unfold higF; rw [if_neg h]
    have hk : (s 6 == 2) = false := by simpa using h
    rw [e]
    clear e h
    generalize s 6 = a at *
    go_enter Try.func14, Try.ntmps14
    go_wp2
    go_ret
    exact ⟨rfl, hB0⟩
set_option maxHeartbeats 8000000 in
set_option maxRecDepth 100000 in
theorem width_any (room : Int) : Calls Try.prog 8 #[.agg (styF s), .int .i64 room] w fun e w' => e = .returned (.tuple #[.int .i64 (widF s room).1, .bool (widF s room).2]) ∧ Below w.heap.size w w' := by
  have h4 : (styF s)[4]? = some (.int .i64 (s 4)) := rfl
  have h5 : (styF s)[5]? = some (.int .i64 (s 5)) := rfl
  have hB0 := below_al (Below.refl w.heap.size w) (.cells (styF s) 25)
  have hB1 := below_al hB0 (.cells #[.int .i64 (s 4), .int .i64 (s 5)] 23)
  have K0 := Blk.new w 25 (styF s)
  have K1 := K0.alloc (.cells #[.int .i64 (s 4), .int .i64 (s 5)] 23)
  by_cases h : s 4 = 2
  · have e : widF s room = (s 5, true) := by unfold widF; rw [if_pos h]
    have hk : (s 4 == 2) = true := by simpa using h
    rw [e]
    clear e h K0 K1
    generalize s 4 = a at *
    generalize s 5 = b at *
    go_enter Try.func8, Try.ntmps8
    go_wp2
    go_ret2
    exact ⟨rfl, hB1⟩
  · have hk : (s 4 == 2) = false := by simpa using h
    by_cases h3 : s 4 = 3
    · have e : widF s room = (part2 room (min (s 5) 640000) 6400, partOk room (min (s 5) 640000) 6400) := by unfold widF; rw [if_neg h, if_pos h3]
      have hk3 : (s 4 == 3) = true := by simpa using h3
      rw [e]
      clear e h h3 K0 K1
      generalize s 4 = a at *
      generalize s 5 = b at *
      have cP := fun w => part_any room (min b 640000) 6400 w
      generalize part2 room (min b 640000) 6400 = x at *
      generalize partOk room (min b 640000) 6400 = y at *
      go_enter Try.func8, Try.ntmps8
      go_wp2_with (go_at_call 18; (with_reducible refine (cP _).mono ?_); rintro e w1 ⟨rfl, hb⟩)
      go_ret2
      exact ⟨rfl, below_next hB1 hb⟩
    · have e : widF s room = (max (sub2 room (togF (ofF s) 3 1).1) 0, (togF (ofF s) 3 1).2 && subOk room (togF (ofF s) 3 1).1) := by unfold widF; rw [if_neg h, if_neg h3]
      have hk3 : (s 4 == 3) = false := by simpa using h3
      have cO := fun w => of_any s w
      have cA := fun w => across_any (ofF s) w
      have cS := fun w => sub_any room (togF (ofF s) 3 1).1 w
      rw [e]
      clear e h h3
      generalize s 4 = a at *
      generalize s 5 = b at *
      generalize (togF (ofF s) 3 1).1 = t1 at *
      generalize (togF (ofF s) 3 1).2 = t2 at *
      generalize sub2 room t1 = x at *
      generalize subOk room t1 = y at *
      cases t2
      all_goals
        go_enter Try.func8, Try.ntmps8
        go_wp2_with (first
          | (go_at_call 7; (with_reducible refine (cO _).mono ?_); rintro e w1 ⟨rfl, hb1⟩)
          | (go_at_call 6; (with_reducible refine (cA _).mono ?_); rintro e w2 ⟨rfl, hb2⟩)
          | (go_at_call 19; (with_reducible refine (cS _).mono ?_); rintro e w3 ⟨rfl, rfl⟩)
          | (refine wpList_load_row rfl 25 _ rfl (w.heap.size) rfl 25 (styF s) (0, 0) _ K1 Try.underlying25 rfl (by kernel_rfl) ?_))
        go_ret2
        exact ⟨rfl, below_next (below_next hB1 hb1) hb2⟩
set_option maxHeartbeats 16000000 in
set_option maxRecDepth 100000 in
theorem shift_any (room wide : Int) : Calls Try.prog 9 #[.agg (styF s), .int .i64 room, .int .i64 wide] w fun e w' => e = .returned (.tuple #[.int .i64 (shiF s room wide).1, .bool (shiF s room wide).2]) ∧ Below w.heap.size w w' := by
  have hB0 := below_al (Below.refl w.heap.size w) (.cells (styF s) 25)
  have K0 := Blk.new w 25 (styF s)
  have cO := fun w => of_any s w
  have x4 : (styF s)[4]? = some (.int .i64 (s 4)) := rfl
  have x14 : (styF s)[14]? = some (.int .i64 (s 14)) := rfl
  have x10 : (styF s)[10]? = some (.int .i64 (s 10)) := rfl
  have cA := fun w => across_any (ofF s) w
  have cP := fun w => add_any wide (togF (ofF s) 3 1).1 w
  have cS := fun w => sub_any room (add2 wide (togF (ofF s) 3 1).1) w
  have b1 : -1099511627776 ≤ sub2 room (add2 wide (togF (ofF s) 3 1).1) := cl_lo _
  have b2 : sub2 room (add2 wide (togF (ofF s) 3 1).1) ≤ 1099511627776 := cl_hi _
  obtain ⟨r, hr⟩ : ∃ r, r = shiF s room wide := ⟨_, rfl⟩
  rw [← hr]
  unfold shiF at hr
  rw [show lenS s 7 = ofF s 3 from rfl] at hr
  unfold sidF at cO cA
  generalize (togF (ofF s) 3 1).1 = t1 at *
  generalize (togF (ofF s) 3 1).2 = t2 at *
  generalize ofF s = m at *
  generalize add2 wide t1 = a at *
  generalize addOk wide t1 = ao at *
  generalize sub2 room a = o at *
  generalize subOk room a = oo at *
  generalize s 4 = k4 at *
  generalize s 14 = k14 at *
  generalize s 10 = k10 at *
  by_cases h4 : k4 = 1
  · rw [if_pos (.inl h4)] at hr
    subst hr
    have d4 : (k4 == 1) = true := by simpa using h4
    clear h4
    go_enter Try.func9, Try.ntmps9
    go_wp2_with (first
        | (go_at_call 7; (with_reducible refine (cO _).mono ?_); rintro e w1 ⟨rfl, hb1⟩
           have hB1 := below_next hB0 hb1
           have K1 := K0.next hb1
           have hz1 := K1.lt
           have Ka := K1.alloc (.cells #[.int .i64 (m 0), .int .i64 (m 1), .int .i64 (m 2), .int .i64 (m 3), .int .i64 (m 4), .int .i64 (m 5), .int .i64 (m 6), .int .i64 (m 7), .int .i64 (m 8), .int .i64 (m 9), .int .i64 (m 10), .int .i64 (m 11)] 32)
           have Kb := Blk.new w1 32 #[.int .i64 (m 0), .int .i64 (m 1), .int .i64 (m 2), .int .i64 (m 3), .int .i64 (m 4), .int .i64 (m 5), .int .i64 (m 6), .int .i64 (m 7), .int .i64 (m 8), .int .i64 (m 9), .int .i64 (m 10), .int .i64 (m 11)]
           have hBa := below_al hB1 (.cells #[.int .i64 (m 0), .int .i64 (m 1), .int .i64 (m 2), .int .i64 (m 3), .int .i64 (m 4), .int .i64 (m 5), .int .i64 (m 6), .int .i64 (m 7), .int .i64 (m 8), .int .i64 (m 9), .int .i64 (m 10), .int .i64 (m 11)] 32)
           have e4 : w1.cell? ⟨w.heap.size, 4, none⟩ = some (.int .i64 k4) := (K1.cell 4).trans x4
           have e14 : w1.cell? ⟨w.heap.size, 14, none⟩ = some (.int .i64 k14) := (K1.cell 14).trans x14)
        | (go_at_call 6; (with_reducible refine (cA _).mono ?_); rintro e w2 ⟨rfl, hb2⟩
           have hB2 := below_next hBa hb2
           have K2 := Ka.next hb2
           have N2 := Kb.next hb2
           have e10 : w2.cell? ⟨w.heap.size, 10, none⟩ = some (.int .i64 k10) := (K2.cell 10).trans x10
           have e3 : w2.cell? ⟨w1.heap.size, 3, none⟩ = some (.int .i64 (m 3)) := N2.cell 3)
        | (go_at_call 20; (with_reducible refine (cP _).mono ?_); rintro e w3 ⟨rfl, rfl⟩)
        | (go_at_call 19; (with_reducible refine (cS _).mono ?_); rintro e w4 ⟨rfl, rfl⟩)
        | (refine wpList_load_row rfl 25 _ rfl (w.heap.size) rfl 25 (styF s) (0, 0) _ K0 Try.underlying25 rfl (by kernel_rfl) ?_))
    go_ret2
    exact ⟨rfl, hBa⟩
  have d4 : (k4 == 1) = false := by simpa using h4
  by_cases h14 : k14 = 1
  rotate_left
  · rw [if_pos (.inr h14)] at hr
    subst hr
    have d14 : (k14 != 1) = true := by simpa using h14
    clear h4 h14
    go_enter Try.func9, Try.ntmps9
    go_wp2_with (first
        | (go_at_call 7; (with_reducible refine (cO _).mono ?_); rintro e w1 ⟨rfl, hb1⟩
           have hB1 := below_next hB0 hb1
           have K1 := K0.next hb1
           have hz1 := K1.lt
           have Ka := K1.alloc (.cells #[.int .i64 (m 0), .int .i64 (m 1), .int .i64 (m 2), .int .i64 (m 3), .int .i64 (m 4), .int .i64 (m 5), .int .i64 (m 6), .int .i64 (m 7), .int .i64 (m 8), .int .i64 (m 9), .int .i64 (m 10), .int .i64 (m 11)] 32)
           have Kb := Blk.new w1 32 #[.int .i64 (m 0), .int .i64 (m 1), .int .i64 (m 2), .int .i64 (m 3), .int .i64 (m 4), .int .i64 (m 5), .int .i64 (m 6), .int .i64 (m 7), .int .i64 (m 8), .int .i64 (m 9), .int .i64 (m 10), .int .i64 (m 11)]
           have hBa := below_al hB1 (.cells #[.int .i64 (m 0), .int .i64 (m 1), .int .i64 (m 2), .int .i64 (m 3), .int .i64 (m 4), .int .i64 (m 5), .int .i64 (m 6), .int .i64 (m 7), .int .i64 (m 8), .int .i64 (m 9), .int .i64 (m 10), .int .i64 (m 11)] 32)
           have e4 : w1.cell? ⟨w.heap.size, 4, none⟩ = some (.int .i64 k4) := (K1.cell 4).trans x4
           have e14 : w1.cell? ⟨w.heap.size, 14, none⟩ = some (.int .i64 k14) := (K1.cell 14).trans x14)
        | (go_at_call 6; (with_reducible refine (cA _).mono ?_); rintro e w2 ⟨rfl, hb2⟩
           have hB2 := below_next hBa hb2
           have K2 := Ka.next hb2
           have N2 := Kb.next hb2
           have e10 : w2.cell? ⟨w.heap.size, 10, none⟩ = some (.int .i64 k10) := (K2.cell 10).trans x10
           have e3 : w2.cell? ⟨w1.heap.size, 3, none⟩ = some (.int .i64 (m 3)) := N2.cell 3)
        | (go_at_call 20; (with_reducible refine (cP _).mono ?_); rintro e w3 ⟨rfl, rfl⟩)
        | (go_at_call 19; (with_reducible refine (cS _).mono ?_); rintro e w4 ⟨rfl, rfl⟩)
        | (refine wpList_load_row rfl 25 _ rfl (w.heap.size) rfl 25 (styF s) (0, 0) _ K0 Try.underlying25 rfl (by kernel_rfl) ?_))
    go_ret2
    exact ⟨rfl, hBa⟩
  rw [if_neg (by omega)] at hr
  have d14 : (k14 != 1) = false := by simpa using h14
  clear h4 h14
  by_cases hra : room ≤ a
  · rw [if_pos hra] at hr
    subst hr
    cases t2
    all_goals
      go_enter Try.func9, Try.ntmps9
      go_wp2_with (first
          | (go_at_call 7; (with_reducible refine (cO _).mono ?_); rintro e w1 ⟨rfl, hb1⟩
             have hB1 := below_next hB0 hb1
             have K1 := K0.next hb1
             have hz1 := K1.lt
             have Ka := K1.alloc (.cells #[.int .i64 (m 0), .int .i64 (m 1), .int .i64 (m 2), .int .i64 (m 3), .int .i64 (m 4), .int .i64 (m 5), .int .i64 (m 6), .int .i64 (m 7), .int .i64 (m 8), .int .i64 (m 9), .int .i64 (m 10), .int .i64 (m 11)] 32)
             have Kb := Blk.new w1 32 #[.int .i64 (m 0), .int .i64 (m 1), .int .i64 (m 2), .int .i64 (m 3), .int .i64 (m 4), .int .i64 (m 5), .int .i64 (m 6), .int .i64 (m 7), .int .i64 (m 8), .int .i64 (m 9), .int .i64 (m 10), .int .i64 (m 11)]
             have hBa := below_al hB1 (.cells #[.int .i64 (m 0), .int .i64 (m 1), .int .i64 (m 2), .int .i64 (m 3), .int .i64 (m 4), .int .i64 (m 5), .int .i64 (m 6), .int .i64 (m 7), .int .i64 (m 8), .int .i64 (m 9), .int .i64 (m 10), .int .i64 (m 11)] 32)
             have e4 : w1.cell? ⟨w.heap.size, 4, none⟩ = some (.int .i64 k4) := (K1.cell 4).trans x4
             have e14 : w1.cell? ⟨w.heap.size, 14, none⟩ = some (.int .i64 k14) := (K1.cell 14).trans x14)
          | (go_at_call 6; (with_reducible refine (cA _).mono ?_); rintro e w2 ⟨rfl, hb2⟩
             have hB2 := below_next hBa hb2
             have K2 := Ka.next hb2
             have N2 := Kb.next hb2
             have e10 : w2.cell? ⟨w.heap.size, 10, none⟩ = some (.int .i64 k10) := (K2.cell 10).trans x10
             have e3 : w2.cell? ⟨w1.heap.size, 3, none⟩ = some (.int .i64 (m 3)) := N2.cell 3)
          | (go_at_call 20; (with_reducible refine (cP _).mono ?_); rintro e w3 ⟨rfl, rfl⟩)
          | (go_at_call 19; (with_reducible refine (cS _).mono ?_); rintro e w4 ⟨rfl, rfl⟩)
          | (refine wpList_load_row rfl 25 _ rfl (w.heap.size) rfl 25 (styF s) (0, 0) _ K0 Try.underlying25 rfl (by kernel_rfl) ?_))
      go_ret2
      exact ⟨rfl, hB2⟩
  · rw [if_neg hra] at hr
    by_cases h10 : k10 = 1
    · rw [if_pos h10] at hr
      subst hr
      have d10 : (k10 == 1) = true := by simpa using h10
      clear h10
      cases t2 <;> cases ao
      all_goals
        go_enter Try.func9, Try.ntmps9
        go_wp2_with (first
            | (go_at_call 7; (with_reducible refine (cO _).mono ?_); rintro e w1 ⟨rfl, hb1⟩
               have hB1 := below_next hB0 hb1
               have K1 := K0.next hb1
               have hz1 := K1.lt
               have Ka := K1.alloc (.cells #[.int .i64 (m 0), .int .i64 (m 1), .int .i64 (m 2), .int .i64 (m 3), .int .i64 (m 4), .int .i64 (m 5), .int .i64 (m 6), .int .i64 (m 7), .int .i64 (m 8), .int .i64 (m 9), .int .i64 (m 10), .int .i64 (m 11)] 32)
               have Kb := Blk.new w1 32 #[.int .i64 (m 0), .int .i64 (m 1), .int .i64 (m 2), .int .i64 (m 3), .int .i64 (m 4), .int .i64 (m 5), .int .i64 (m 6), .int .i64 (m 7), .int .i64 (m 8), .int .i64 (m 9), .int .i64 (m 10), .int .i64 (m 11)]
               have hBa := below_al hB1 (.cells #[.int .i64 (m 0), .int .i64 (m 1), .int .i64 (m 2), .int .i64 (m 3), .int .i64 (m 4), .int .i64 (m 5), .int .i64 (m 6), .int .i64 (m 7), .int .i64 (m 8), .int .i64 (m 9), .int .i64 (m 10), .int .i64 (m 11)] 32)
               have e4 : w1.cell? ⟨w.heap.size, 4, none⟩ = some (.int .i64 k4) := (K1.cell 4).trans x4
               have e14 : w1.cell? ⟨w.heap.size, 14, none⟩ = some (.int .i64 k14) := (K1.cell 14).trans x14)
            | (go_at_call 6; (with_reducible refine (cA _).mono ?_); rintro e w2 ⟨rfl, hb2⟩
               have hB2 := below_next hBa hb2
               have K2 := Ka.next hb2
               have N2 := Kb.next hb2
               have e10 : w2.cell? ⟨w.heap.size, 10, none⟩ = some (.int .i64 k10) := (K2.cell 10).trans x10
               have e3 : w2.cell? ⟨w1.heap.size, 3, none⟩ = some (.int .i64 (m 3)) := N2.cell 3)
            | (go_at_call 20; (with_reducible refine (cP _).mono ?_); rintro e w3 ⟨rfl, rfl⟩)
            | (go_at_call 19; (with_reducible refine (cS _).mono ?_); rintro e w4 ⟨rfl, rfl⟩)
            | (refine wpList_load_row rfl 25 _ rfl (w.heap.size) rfl 25 (styF s) (0, 0) _ K0 Try.underlying25 rfl (by kernel_rfl) ?_))
        go_ret2
        exact ⟨rfl, hB2⟩
    · rw [if_neg h10] at hr
      subst hr
      have d10 : (k10 == 1) = false := by simpa using h10
      clear h10
      cases t2 <;> cases ao
      all_goals
        go_enter Try.func9, Try.ntmps9
        go_wp2_with (first
            | (go_at_call 7; (with_reducible refine (cO _).mono ?_); rintro e w1 ⟨rfl, hb1⟩
               have hB1 := below_next hB0 hb1
               have K1 := K0.next hb1
               have hz1 := K1.lt
               have Ka := K1.alloc (.cells #[.int .i64 (m 0), .int .i64 (m 1), .int .i64 (m 2), .int .i64 (m 3), .int .i64 (m 4), .int .i64 (m 5), .int .i64 (m 6), .int .i64 (m 7), .int .i64 (m 8), .int .i64 (m 9), .int .i64 (m 10), .int .i64 (m 11)] 32)
               have Kb := Blk.new w1 32 #[.int .i64 (m 0), .int .i64 (m 1), .int .i64 (m 2), .int .i64 (m 3), .int .i64 (m 4), .int .i64 (m 5), .int .i64 (m 6), .int .i64 (m 7), .int .i64 (m 8), .int .i64 (m 9), .int .i64 (m 10), .int .i64 (m 11)]
               have hBa := below_al hB1 (.cells #[.int .i64 (m 0), .int .i64 (m 1), .int .i64 (m 2), .int .i64 (m 3), .int .i64 (m 4), .int .i64 (m 5), .int .i64 (m 6), .int .i64 (m 7), .int .i64 (m 8), .int .i64 (m 9), .int .i64 (m 10), .int .i64 (m 11)] 32)
               have e4 : w1.cell? ⟨w.heap.size, 4, none⟩ = some (.int .i64 k4) := (K1.cell 4).trans x4
               have e14 : w1.cell? ⟨w.heap.size, 14, none⟩ = some (.int .i64 k14) := (K1.cell 14).trans x14)
            | (go_at_call 6; (with_reducible refine (cA _).mono ?_); rintro e w2 ⟨rfl, hb2⟩
               have hB2 := below_next hBa hb2
               have K2 := Ka.next hb2
               have N2 := Kb.next hb2
               have e10 : w2.cell? ⟨w.heap.size, 10, none⟩ = some (.int .i64 k10) := (K2.cell 10).trans x10
               have e3 : w2.cell? ⟨w1.heap.size, 3, none⟩ = some (.int .i64 (m 3)) := N2.cell 3)
            | (go_at_call 20; (with_reducible refine (cP _).mono ?_); rintro e w3 ⟨rfl, rfl⟩)
            | (go_at_call 19; (with_reducible refine (cS _).mono ?_); rintro e w4 ⟨rfl, rfl⟩)
            | (refine wpList_load_row rfl 25 _ rfl (w.heap.size) rfl 25 (styF s) (0, 0) _ K0 Try.underlying25 rfl (by kernel_rfl) ?_))
        go_ret2
        exact ⟨rfl, hB2⟩
end
end Go.Proofs.Ytfamhjmdffaphaa
