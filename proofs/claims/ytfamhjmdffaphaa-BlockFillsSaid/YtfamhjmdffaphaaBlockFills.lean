/- Rows.BlockFillsSaid: the law's walk. Conditions: what awake and value.May answer. -/
import Derived.Test.YtfamhjmdffaphaaBlockI
import Derived.Test.YtfamhjmdffaphaaBlockL
namespace Go.Proofs.Ytfamhjmdffaphaa
open Go.ChangeShapes Go.WideShapes Go.ChangeAt Go.RowKit
namespace blockFills
set_option maxHeartbeats 16000000 in
set_option maxRecDepth 100000 in
theorem walk (cA : ∀ w, Calls Try.prog 4 #[] w fun e w' => e = .returned (.bool true) ∧ Below w.heap.size w w') (cMay : Val.MayC) (s : Nat → Int) (room : Int) (w : World) :
    Calls Try.prog 3 #[.agg (styF s), .int .i64 room] w fun e w' => e = .returned (.bool true) ∧ Below w.heap.size w w' := by
  have hB0 := below_al (Below.refl w.heap.size w) (.cells (styF s) 25)
  have K0 := Blk.new w 25 (styF s)
  have cY := fun w => may17_any cMay s w
  cases hm : mayS s with
  | false =>
    rw [hm] at cY
    clear hm cMay
    go_enter Try.func3, Try.ntmps3
    go_wp2_with (first
      | (go_at_call 4; (with_reducible refine (cA _).mono ?_); rintro e w1 ⟨rfl, hb1⟩
         have K1 := K0.next hb1
         have hB1 := below_next hB0 hb1)
      | (go_at_call 5; (with_reducible refine (cY _).mono ?_); rintro e w2 ⟨rfl, hb2⟩
         have hB2 := below_next hB1 hb2)
      | (refine wpList_load_row rfl 25 _ rfl w.heap.size rfl 25 (styF s) (0, 0) _ (by assumption) Try.underlying25 rfl (by kernel_rfl) ?_))
    go_ret
    exact ⟨rfl, hB2⟩
  | true =>
    rw [hm] at cY
    have cO := fun w => of_any s w
    have cX := fun w => across_any (ofF s) w
    have cW := fun w => width_any s w room
    have cS := fun w => shift_any s w room (widF s room).1
    have y4 : (styF s)[4]? = some (.int .i64 (s 4)) := rfl
    have y14 : (styF s)[14]? = some (.int .i64 (s 14)) := rfl
    have y10 : (styF s)[10]? = some (.int .i64 (s 10)) := rfl
    have wb := wid_bd hm room
    have tb := tog_bd (ofF s) 3 1
    have HA := fun h => wid_auto (s := s) h room
    have HH := fun h4 h => shi_is (s := s) (room := room) (wide := (widF s room).1) h4 h
    generalize (shiF s room (widF s room).1).1 = h1 at *
    generalize (shiF s room (widF s room).1).2 = h2 at *
    generalize (widF s room).1 = u1 at *
    generalize (widF s room).2 = u2 at *
    unfold sidF at cO cX
    generalize (togF (ofF s) 3 1).1 = t1 at *
    generalize (togF (ofF s) 3 1).2 = t2 at *
    generalize ofF s = m at *
    generalize s 4 = k4 at *
    generalize s 14 = k14 at *
    generalize s 10 = k10 at *
    clear hm cMay
    by_cases hr0 : room < 0
    · have hr1 : ¬ 0 ≤ room := by omega
      clear HA HH
      go_enter Try.func3, Try.ntmps3
      go_wp2_with (first
        | (go_at_call 4; (with_reducible refine (cA _).mono ?_); rintro e w1 ⟨rfl, hb1⟩
           have K1 := K0.next hb1
           have hB1 := below_next hB0 hb1)
        | (go_at_call 5; (with_reducible refine (cY _).mono ?_); rintro e w2 ⟨rfl, hb2⟩
           have K2 := K1.next hb2
           have hB2 := below_next hB1 hb2
           clear hb2)
        | (go_at_call 7; (with_reducible refine (cO _).mono ?_); rintro e w3 ⟨rfl, hb3⟩
           have K3 := K2.next hb3
           have hB3 := below_next hB2 hb3)
        | (go_at_call 6; (with_reducible refine (cX _).mono ?_); rintro e w4 ⟨rfl, hb4⟩
           have K4 := K3.next hb4
           have hB4 := below_next hB3 hb4)
        | (go_at_call 8; (with_reducible refine (cW _).mono ?_); rintro e w5 ⟨rfl, hb5⟩
           have K5 := K4.next hb5
           have hB5 := below_next hB4 hb5
           have x4 : w5.cell? ⟨w.heap.size, 4, none⟩ = some (.int .i64 k4) := (K5.cell 4).trans y4)
        | (go_at_call 9; (with_reducible refine (cS _).mono ?_); rintro e w6 ⟨rfl, hb6⟩
           have K6 := K5.next hb6
           have hB6 := below_next hB5 hb6
           have z4 : w6.cell? ⟨w.heap.size, 4, none⟩ = some (.int .i64 k4) := (K6.cell 4).trans y4)
        | (refine wpList_load_row rfl 25 _ rfl w.heap.size rfl 25 (styF s) (0, 0) _ (by assumption) Try.underlying25 rfl (by kernel_rfl) ?_))
      go_ret
      exact ⟨rfl, hB2⟩
    have hr0' : 0 ≤ room := by omega
    by_cases hr1 : 1099511627776 < room
    · clear HA HH
      go_enter Try.func3, Try.ntmps3
      go_wp2_with (first
        | (go_at_call 4; (with_reducible refine (cA _).mono ?_); rintro e w1 ⟨rfl, hb1⟩
           have K1 := K0.next hb1
           have hB1 := below_next hB0 hb1)
        | (go_at_call 5; (with_reducible refine (cY _).mono ?_); rintro e w2 ⟨rfl, hb2⟩
           have K2 := K1.next hb2
           have hB2 := below_next hB1 hb2
           clear hb2)
        | (go_at_call 7; (with_reducible refine (cO _).mono ?_); rintro e w3 ⟨rfl, hb3⟩
           have K3 := K2.next hb3
           have hB3 := below_next hB2 hb3)
        | (go_at_call 6; (with_reducible refine (cX _).mono ?_); rintro e w4 ⟨rfl, hb4⟩
           have K4 := K3.next hb4
           have hB4 := below_next hB3 hb4)
        | (go_at_call 8; (with_reducible refine (cW _).mono ?_); rintro e w5 ⟨rfl, hb5⟩
           have K5 := K4.next hb5
           have hB5 := below_next hB4 hb5
           have x4 : w5.cell? ⟨w.heap.size, 4, none⟩ = some (.int .i64 k4) := (K5.cell 4).trans y4)
        | (go_at_call 9; (with_reducible refine (cS _).mono ?_); rintro e w6 ⟨rfl, hb6⟩
           have K6 := K5.next hb6
           have hB6 := below_next hB5 hb6
           have z4 : w6.cell? ⟨w.heap.size, 4, none⟩ = some (.int .i64 k4) := (K6.cell 4).trans y4)
        | (refine wpList_load_row rfl 25 _ rfl w.heap.size rfl 25 (styF s) (0, 0) _ (by assumption) Try.underlying25 rfl (by kernel_rfl) ?_))
      go_ret
      exact ⟨rfl, hB2⟩
    have hr1' : room ≤ 1099511627776 := by omega
    have wr1 : IntKind.i64.wrap (u1 + t1) = u1 + t1 := by rw [IntKind.wrap_i64]; omega
    have wr2 : IntKind.i64.wrap (room - u1) = room - u1 := by rw [IntKind.wrap_i64]; omega
    have wr3 : IntKind.i64.wrap (room - u1 - t1) = room - u1 - t1 := by rw [IntKind.wrap_i64]; omega
    by_cases h4 : k4 = 1
    · have d4 : (k4 == 1) = true := by simpa using h4
      obtain ⟨p0, pe⟩ := HA h4
      have p0' : ¬ u1 < 0 := by omega
      clear HA HH h4
      cases t2
      · clear pe
        cases u2 <;> cases h2
        all_goals
          go_enter Try.func3, Try.ntmps3
          go_wp2_with (first
            | (go_at_call 4; (with_reducible refine (cA _).mono ?_); rintro e w1 ⟨rfl, hb1⟩
               have K1 := K0.next hb1
               have hB1 := below_next hB0 hb1)
            | (go_at_call 5; (with_reducible refine (cY _).mono ?_); rintro e w2 ⟨rfl, hb2⟩
               have K2 := K1.next hb2
               have hB2 := below_next hB1 hb2
               clear hb2)
            | (go_at_call 7; (with_reducible refine (cO _).mono ?_); rintro e w3 ⟨rfl, hb3⟩
               have K3 := K2.next hb3
               have hB3 := below_next hB2 hb3)
            | (go_at_call 6; (with_reducible refine (cX _).mono ?_); rintro e w4 ⟨rfl, hb4⟩
               have K4 := K3.next hb4
               have hB4 := below_next hB3 hb4)
            | (go_at_call 8; (with_reducible refine (cW _).mono ?_); rintro e w5 ⟨rfl, hb5⟩
               have K5 := K4.next hb5
               have hB5 := below_next hB4 hb5
               have x4 : w5.cell? ⟨w.heap.size, 4, none⟩ = some (.int .i64 k4) := (K5.cell 4).trans y4)
            | (go_at_call 9; (with_reducible refine (cS _).mono ?_); rintro e w6 ⟨rfl, hb6⟩
               have K6 := K5.next hb6
               have hB6 := below_next hB5 hb6
               have z4 : w6.cell? ⟨w.heap.size, 4, none⟩ = some (.int .i64 k4) := (K6.cell 4).trans y4)
            | (refine wpList_load_row rfl 25 _ rfl w.heap.size rfl 25 (styF s) (0, 0) _ (by assumption) Try.underlying25 rfl (by kernel_rfl) ?_))
          go_ret
          exact ⟨rfl, hB6⟩
      · cases u2
        · clear pe
          cases h2
          all_goals
            go_enter Try.func3, Try.ntmps3
            go_wp2_with (first
              | (go_at_call 4; (with_reducible refine (cA _).mono ?_); rintro e w1 ⟨rfl, hb1⟩
                 have K1 := K0.next hb1
                 have hB1 := below_next hB0 hb1)
              | (go_at_call 5; (with_reducible refine (cY _).mono ?_); rintro e w2 ⟨rfl, hb2⟩
                 have K2 := K1.next hb2
                 have hB2 := below_next hB1 hb2
                 clear hb2)
              | (go_at_call 7; (with_reducible refine (cO _).mono ?_); rintro e w3 ⟨rfl, hb3⟩
                 have K3 := K2.next hb3
                 have hB3 := below_next hB2 hb3)
              | (go_at_call 6; (with_reducible refine (cX _).mono ?_); rintro e w4 ⟨rfl, hb4⟩
                 have K4 := K3.next hb4
                 have hB4 := below_next hB3 hb4)
              | (go_at_call 8; (with_reducible refine (cW _).mono ?_); rintro e w5 ⟨rfl, hb5⟩
                 have K5 := K4.next hb5
                 have hB5 := below_next hB4 hb5
                 have x4 : w5.cell? ⟨w.heap.size, 4, none⟩ = some (.int .i64 k4) := (K5.cell 4).trans y4)
              | (go_at_call 9; (with_reducible refine (cS _).mono ?_); rintro e w6 ⟨rfl, hb6⟩
                 have K6 := K5.next hb6
                 have hB6 := below_next hB5 hb6
                 have z4 : w6.cell? ⟨w.heap.size, 4, none⟩ = some (.int .i64 k4) := (K6.cell 4).trans y4)
              | (refine wpList_load_row rfl 25 _ rfl w.heap.size rfl 25 (styF s) (0, 0) _ (by assumption) Try.underlying25 rfl (by kernel_rfl) ?_))
            go_ret
            exact ⟨rfl, hB6⟩
        · by_cases hle : t1 ≤ room
          · have pe := pe rfl rfl hle
            cases h2
            all_goals
              go_enter Try.func3, Try.ntmps3
              go_wp2_with (first
                | (go_at_call 4; (with_reducible refine (cA _).mono ?_); rintro e w1 ⟨rfl, hb1⟩
                   have K1 := K0.next hb1
                   have hB1 := below_next hB0 hb1)
                | (go_at_call 5; (with_reducible refine (cY _).mono ?_); rintro e w2 ⟨rfl, hb2⟩
                   have K2 := K1.next hb2
                   have hB2 := below_next hB1 hb2
                   clear hb2)
                | (go_at_call 7; (with_reducible refine (cO _).mono ?_); rintro e w3 ⟨rfl, hb3⟩
                   have K3 := K2.next hb3
                   have hB3 := below_next hB2 hb3)
                | (go_at_call 6; (with_reducible refine (cX _).mono ?_); rintro e w4 ⟨rfl, hb4⟩
                   have K4 := K3.next hb4
                   have hB4 := below_next hB3 hb4)
                | (go_at_call 8; (with_reducible refine (cW _).mono ?_); rintro e w5 ⟨rfl, hb5⟩
                   have K5 := K4.next hb5
                   have hB5 := below_next hB4 hb5
                   have x4 : w5.cell? ⟨w.heap.size, 4, none⟩ = some (.int .i64 k4) := (K5.cell 4).trans y4)
                | (go_at_call 9; (with_reducible refine (cS _).mono ?_); rintro e w6 ⟨rfl, hb6⟩
                   have K6 := K5.next hb6
                   have hB6 := below_next hB5 hb6
                   have z4 : w6.cell? ⟨w.heap.size, 4, none⟩ = some (.int .i64 k4) := (K6.cell 4).trans y4)
                | (refine wpList_load_row rfl 25 _ rfl w.heap.size rfl 25 (styF s) (0, 0) _ (by assumption) Try.underlying25 rfl (by kernel_rfl) ?_))
              go_ret
              exact ⟨rfl, hB6⟩
          · clear pe
            cases h2
            all_goals
              go_enter Try.func3, Try.ntmps3
              go_wp2_with (first
                | (go_at_call 4; (with_reducible refine (cA _).mono ?_); rintro e w1 ⟨rfl, hb1⟩
                   have K1 := K0.next hb1
                   have hB1 := below_next hB0 hb1)
                | (go_at_call 5; (with_reducible refine (cY _).mono ?_); rintro e w2 ⟨rfl, hb2⟩
                   have K2 := K1.next hb2
                   have hB2 := below_next hB1 hb2
                   clear hb2)
                | (go_at_call 7; (with_reducible refine (cO _).mono ?_); rintro e w3 ⟨rfl, hb3⟩
                   have K3 := K2.next hb3
                   have hB3 := below_next hB2 hb3)
                | (go_at_call 6; (with_reducible refine (cX _).mono ?_); rintro e w4 ⟨rfl, hb4⟩
                   have K4 := K3.next hb4
                   have hB4 := below_next hB3 hb4)
                | (go_at_call 8; (with_reducible refine (cW _).mono ?_); rintro e w5 ⟨rfl, hb5⟩
                   have K5 := K4.next hb5
                   have hB5 := below_next hB4 hb5
                   have x4 : w5.cell? ⟨w.heap.size, 4, none⟩ = some (.int .i64 k4) := (K5.cell 4).trans y4)
                | (go_at_call 9; (with_reducible refine (cS _).mono ?_); rintro e w6 ⟨rfl, hb6⟩
                   have K6 := K5.next hb6
                   have hB6 := below_next hB5 hb6
                   have z4 : w6.cell? ⟨w.heap.size, 4, none⟩ = some (.int .i64 k4) := (K6.cell 4).trans y4)
                | (refine wpList_load_row rfl 25 _ rfl w.heap.size rfl 25 (styF s) (0, 0) _ (by assumption) Try.underlying25 rfl (by kernel_rfl) ?_))
              go_ret
              exact ⟨rfl, hB6⟩
    · have d4 : (k4 == 1) = false := by simpa using h4
      clear HA
      cases t2
      · clear HH
        cases u2 <;> cases h2
        all_goals
          go_enter Try.func3, Try.ntmps3
          go_wp2_with (first
            | (go_at_call 4; (with_reducible refine (cA _).mono ?_); rintro e w1 ⟨rfl, hb1⟩
               have K1 := K0.next hb1
               have hB1 := below_next hB0 hb1)
            | (go_at_call 5; (with_reducible refine (cY _).mono ?_); rintro e w2 ⟨rfl, hb2⟩
               have K2 := K1.next hb2
               have hB2 := below_next hB1 hb2
               clear hb2)
            | (go_at_call 7; (with_reducible refine (cO _).mono ?_); rintro e w3 ⟨rfl, hb3⟩
               have K3 := K2.next hb3
               have hB3 := below_next hB2 hb3)
            | (go_at_call 6; (with_reducible refine (cX _).mono ?_); rintro e w4 ⟨rfl, hb4⟩
               have K4 := K3.next hb4
               have hB4 := below_next hB3 hb4)
            | (go_at_call 8; (with_reducible refine (cW _).mono ?_); rintro e w5 ⟨rfl, hb5⟩
               have K5 := K4.next hb5
               have hB5 := below_next hB4 hb5
               have x4 : w5.cell? ⟨w.heap.size, 4, none⟩ = some (.int .i64 k4) := (K5.cell 4).trans y4)
            | (go_at_call 9; (with_reducible refine (cS _).mono ?_); rintro e w6 ⟨rfl, hb6⟩
               have K6 := K5.next hb6
               have hB6 := below_next hB5 hb6
               have z4 : w6.cell? ⟨w.heap.size, 4, none⟩ = some (.int .i64 k4) := (K6.cell 4).trans y4)
            | (refine wpList_load_row rfl 25 _ rfl w.heap.size rfl 25 (styF s) (0, 0) _ (by assumption) Try.underlying25 rfl (by kernel_rfl) ?_))
          go_ret
          exact ⟨rfl, hB6⟩
      cases u2
      · clear HH
        cases h2
        all_goals
          go_enter Try.func3, Try.ntmps3
          go_wp2_with (first
            | (go_at_call 4; (with_reducible refine (cA _).mono ?_); rintro e w1 ⟨rfl, hb1⟩
               have K1 := K0.next hb1
               have hB1 := below_next hB0 hb1)
            | (go_at_call 5; (with_reducible refine (cY _).mono ?_); rintro e w2 ⟨rfl, hb2⟩
               have K2 := K1.next hb2
               have hB2 := below_next hB1 hb2
               clear hb2)
            | (go_at_call 7; (with_reducible refine (cO _).mono ?_); rintro e w3 ⟨rfl, hb3⟩
               have K3 := K2.next hb3
               have hB3 := below_next hB2 hb3)
            | (go_at_call 6; (with_reducible refine (cX _).mono ?_); rintro e w4 ⟨rfl, hb4⟩
               have K4 := K3.next hb4
               have hB4 := below_next hB3 hb4)
            | (go_at_call 8; (with_reducible refine (cW _).mono ?_); rintro e w5 ⟨rfl, hb5⟩
               have K5 := K4.next hb5
               have hB5 := below_next hB4 hb5
               have x4 : w5.cell? ⟨w.heap.size, 4, none⟩ = some (.int .i64 k4) := (K5.cell 4).trans y4)
            | (go_at_call 9; (with_reducible refine (cS _).mono ?_); rintro e w6 ⟨rfl, hb6⟩
               have K6 := K5.next hb6
               have hB6 := below_next hB5 hb6
               have z4 : w6.cell? ⟨w.heap.size, 4, none⟩ = some (.int .i64 k4) := (K6.cell 4).trans y4)
            | (refine wpList_load_row rfl 25 _ rfl w.heap.size rfl 25 (styF s) (0, 0) _ (by assumption) Try.underlying25 rfl (by kernel_rfl) ?_))
          go_ret
          exact ⟨rfl, hB6⟩
      cases h2
      · clear HH
        go_enter Try.func3, Try.ntmps3
        go_wp2_with (first
          | (go_at_call 4; (with_reducible refine (cA _).mono ?_); rintro e w1 ⟨rfl, hb1⟩
             have K1 := K0.next hb1
             have hB1 := below_next hB0 hb1)
          | (go_at_call 5; (with_reducible refine (cY _).mono ?_); rintro e w2 ⟨rfl, hb2⟩
             have K2 := K1.next hb2
             have hB2 := below_next hB1 hb2
             clear hb2)
          | (go_at_call 7; (with_reducible refine (cO _).mono ?_); rintro e w3 ⟨rfl, hb3⟩
             have K3 := K2.next hb3
             have hB3 := below_next hB2 hb3)
          | (go_at_call 6; (with_reducible refine (cX _).mono ?_); rintro e w4 ⟨rfl, hb4⟩
             have K4 := K3.next hb4
             have hB4 := below_next hB3 hb4)
          | (go_at_call 8; (with_reducible refine (cW _).mono ?_); rintro e w5 ⟨rfl, hb5⟩
             have K5 := K4.next hb5
             have hB5 := below_next hB4 hb5
             have x4 : w5.cell? ⟨w.heap.size, 4, none⟩ = some (.int .i64 k4) := (K5.cell 4).trans y4)
          | (go_at_call 9; (with_reducible refine (cS _).mono ?_); rintro e w6 ⟨rfl, hb6⟩
             have K6 := K5.next hb6
             have hB6 := below_next hB5 hb6
             have z4 : w6.cell? ⟨w.heap.size, 4, none⟩ = some (.int .i64 k4) := (K6.cell 4).trans y4)
          | (refine wpList_load_row rfl 25 _ rfl w.heap.size rfl 25 (styF s) (0, 0) _ (by assumption) Try.underlying25 rfl (by kernel_rfl) ?_))
        go_ret
        exact ⟨rfl, hB6⟩
      obtain ⟨q1, q2, q3, q4⟩ := HH h4 rfl
      clear HH h4
      go_enter Try.func3, Try.ntmps3
      go_upto_region 13 with (first
        | (go_at_call 4; (with_reducible refine (cA _).mono ?_); rintro e w1 ⟨rfl, hb1⟩
           have K1 := K0.next hb1
           have hB1 := below_next hB0 hb1)
        | (go_at_call 5; (with_reducible refine (cY _).mono ?_); rintro e w2 ⟨rfl, hb2⟩
           have K2 := K1.next hb2
           have hB2 := below_next hB1 hb2
           clear hb2)
        | (go_at_call 7; (with_reducible refine (cO _).mono ?_); rintro e w3 ⟨rfl, hb3⟩
           have K3 := K2.next hb3
           have hB3 := below_next hB2 hb3)
        | (go_at_call 6; (with_reducible refine (cX _).mono ?_); rintro e w4 ⟨rfl, hb4⟩
           have K4 := K3.next hb4
           have hB4 := below_next hB3 hb4)
        | (go_at_call 8; (with_reducible refine (cW _).mono ?_); rintro e w5 ⟨rfl, hb5⟩
           have K5 := K4.next hb5
           have hB5 := below_next hB4 hb5
           have x4 : w5.cell? ⟨w.heap.size, 4, none⟩ = some (.int .i64 k4) := (K5.cell 4).trans y4)
        | (go_at_call 9; (with_reducible refine (cS _).mono ?_); rintro e w6 ⟨rfl, hb6⟩
           have K6 := K5.next hb6
           have hB6 := below_next hB5 hb6
           have z4 : w6.cell? ⟨w.heap.size, 4, none⟩ = some (.int .i64 k4) := (K6.cell 4).trans y4)
        | (refine wpList_load_row rfl 25 _ rfl w.heap.size rfl 25 (styF s) (0, 0) _ (by assumption) Try.underlying25 rfl (by kernel_rfl) ?_))
      clear hb1 hb3 hb4 hb5 hb6 K1 K2 K3 K4 K5 hB1 hB2 hB3 hB4 hB5 x4 z4 cA cY cX cW cS K0 hB0
      go_upto_region 14 with (first
        | (go_at_call 7; (with_reducible refine (cO _).mono ?_); rintro e w7 ⟨rfl, hb7⟩
           have K7 := K6.next hb7
           have hB7 := below_next hB6 hb7)
        | (refine wpList_load_row rfl 25 _ rfl w.heap.size rfl 25 (styF s) (0, 0) _ (by assumption) Try.underlying25 rfl (by kernel_rfl) ?_))
      have K8 := K7.alloc (.cells #[.int .i64 (m 0), .int .i64 (m 1), .int .i64 (m 2), .int .i64 (m 3), .int .i64 (m 4), .int .i64 (m 5), .int .i64 (m 6), .int .i64 (m 7), .int .i64 (m 8), .int .i64 (m 9), .int .i64 (m 10), .int .i64 (m 11)] 32)
      have N8 := Blk.new w7 32 #[.int .i64 (m 0), .int .i64 (m 1), .int .i64 (m 2), .int .i64 (m 3), .int .i64 (m 4), .int .i64 (m 5), .int .i64 (m 6), .int .i64 (m 7), .int .i64 (m 8), .int .i64 (m 9), .int .i64 (m 10), .int .i64 (m 11)]
      have hB8 := below_al hB7 (.cells #[.int .i64 (m 0), .int .i64 (m 1), .int .i64 (m 2), .int .i64 (m 3), .int .i64 (m 4), .int .i64 (m 5), .int .i64 (m 6), .int .i64 (m 7), .int .i64 (m 8), .int .i64 (m 9), .int .i64 (m 10), .int .i64 (m 11)] 32)
      clear hb7 hB6 hB7 K6 K7 cO
      generalize w7.alloc (.cells #[.int .i64 (m 0), .int .i64 (m 1), .int .i64 (m 2), .int .i64 (m 3), .int .i64 (m 4), .int .i64 (m 5), .int .i64 (m 6), .int .i64 (m 7), .int .i64 (m 8), .int .i64 (m 9), .int .i64 (m 10), .int .i64 (m 11)] 32) = W8 at *
      have x14 : W8.cell? ⟨w.heap.size, 14, none⟩ = some (.int .i64 k14) := (K8.cell 14).trans y14
      have x10 : W8.cell? ⟨w.heap.size, 10, none⟩ = some (.int .i64 k10) := (K8.cell 10).trans y10
      have xm : W8.cell? ⟨w7.heap.size, 3, none⟩ = some (.int .i64 (m 3)) := N8.cell 3
      clear K8 N8 y4 y14 y10
      by_cases h14 : k14 = 1
      · have d14 : (k14 == 1) = true := by simpa using h14
        by_cases hre : room - u1 - t1 ≤ 0
        · have hh := q2 h14 hre
          subst hh
          clear q1 q2 q3 q4 h14
          by_cases h10 : k10 = 1
          · have d10 : (k10 == 1) = true := by simpa using h10
            clear h10
            go_quiet (fail)
            go_wp2
            go_ret
            exact ⟨rfl, below_dr hB8 _⟩
          · have d10 : (k10 == 1) = false := by simpa using h10
            clear h10
            go_quiet (fail)
            go_wp2
            go_ret
            exact ⟨rfl, below_dr hB8 _⟩
        · have hre' : 0 < room - u1 - t1 := by omega
          by_cases h10 : k10 = 1
          · have hh := q3 h14 hre' h10
            have d10 : (k10 == 1) = true := by simpa using h10
            subst hh
            clear h10 q1 q2 q3 q4 h14
            go_quiet (fail)
            go_wp2
            go_ret
            exact ⟨rfl, below_dr hB8 _⟩
          · have hh := q4 h14 hre' h10
            have d10 : (k10 == 1) = false := by simpa using h10
            subst hh
            clear h10 q1 q2 q3 q4 h14
            go_quiet (fail)
            go_wp2
            go_ret
            exact ⟨rfl, below_dr hB8 _⟩
      · have d14 : (k14 == 1) = false := by simpa using h14
        have hh := q1 h14
        subst hh
        clear q1 q2 q3 q4 h14
        by_cases h10 : k10 = 1
        · have d10 : (k10 == 1) = true := by simpa using h10
          clear h10
          go_quiet (fail)
          go_wp2
          go_ret
          exact ⟨rfl, below_dr hB8 _⟩
        · have d10 : (k10 == 1) = false := by simpa using h10
          clear h10
          go_quiet (fail)
          go_wp2
          go_ret
          exact ⟨rfl, below_dr hB8 _⟩
end blockFills
end Go.Proofs.Ytfamhjmdffaphaa
