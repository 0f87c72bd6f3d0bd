/- RectBack's walk, from what rect's functions answer. -/
import Derived.Test.YtabijoohoofogaaRectSpec
import Derived.Test.YtabijoohoofogaaBlk
import Derived.Deep.RegionHeld3
import Derived.Deep.QuietTactic
import Derived.BigQuiet
namespace Go.Proofs.Ytabijoohoofogaa
open Go.ChangeShapes Go.WideShapes Go.ChangeAt Go.RowKit
namespace rectBack
set_option maxHeartbeats 2000000 in
set_option maxRecDepth 100000 in
theorem walk (cAwake : ∀ w, Calls Try.prog 11 #[] w fun e w' => e = .returned (.bool true) ∧ Below w.heap.size w w') (cMay : MayC) (cHas : HasC) (cMove : MoveC)
    (r : Plc) (x y px py : Int) (w : World) :
    Calls Try.prog 4 #[r.v, .int .i64 x, .int .i64 y, .int .i64 px, .int .i64 py] w fun e w' => e = .returned (.bool true) ∧ Below w.heap.size w w' := by
  have c1 := fun w => cMove r x y w
  cases h : moveOk r x y with
  | false =>
    rw [h] at c1
    clear h
    generalize moveR r x y = m at *
    obtain ⟨mx, my, mw, mh⟩ := m
    obtain ⟨rx, ry, rw, rh⟩ := r
    go_enter Try.func4, Try.ntmps4
    go_wp2_with (first
      | (go_at_call 11; refine (cAwake _).mono ?_; rintro e w1 ⟨rfl, hb1⟩; have hB1 := below_next (below_al (Below.refl _ _) _) hb1; obtain ⟨hc1, hf1⟩ := bcell hb1; clear hb1)
      | (go_at_call 12; (with_reducible refine (c1 _).mono ?_); rintro e w2 ⟨rfl, hb2⟩; have hB2 := below_next hB1 hb2; obtain ⟨hc2, hf2⟩ := bcell hb2; clear hb2))
    go_ret
    exact ⟨rfl, below_al hB2 _⟩
  | true =>
    obtain ⟨m1, m2, m3⟩ := move_back h
    have c2 := fun w => cMove (moveR r x y) (-x) (-y) w
    have c3 := fun w => cMay (moveR r x y) w
    have c4 := fun w => cHas (moveR r x y) (px + x) (py + y) w
    have c5 := fun w => cHas r px py w
    rw [m2, m3] at c2
    rw [m1] at c3
    rw [has_moved h] at c4
    obtain ⟨-, g1, g2, -⟩ := moveOk_t h
    obtain ⟨-, -, x1, x2, -, -, -⟩ := addOk_t g1
    obtain ⟨-, -, y1, y2, -, -, -⟩ := addOk_t g2
    rw [h] at c1
    clear h g1 g2 m1 m2 m3
    generalize moveR r x y = m at *
    generalize hasB r px py = hh at *
    obtain ⟨mx, my, mw, mh⟩ := m
    obtain ⟨rx, ry, rw, rh⟩ := r
    go_enter Try.func4, Try.ntmps4
    go_wp2_with (first
      | (go_at_call 11; refine (cAwake _).mono ?_; rintro e w1 ⟨rfl, hb1⟩
         have hB1 := below_next (below_al (Below.refl _ _) _) hb1
         have K1 := (Blk.new w 23 _).next hb1
         have z1 := K1.lt
         obtain ⟨p0, p1, p2, p3⟩ := blk4 K1
         clear hb1)
      | (go_at_call 12; (with_reducible refine (c1 _).mono ?_); rintro e w2 ⟨rfl, hb2⟩
         have hB2 := below_next hB1 hb2
         have K2 := K1.next hb2
         have z2 := K2.lt
         clear hb2 p0 p1 p2 p3)
      | (go_at_call 12; (with_reducible refine (c2 _).mono ?_); rintro e w3 ⟨rfl, hb3⟩
         have hB3 := below_next (below_al hB2 _) hb3
         have K3 := (K2.alloc _).next hb3
         have L3 := (Blk.new w2 23 _).next hb3
         have z3 := K3.lt
         have z4 := L3.lt
         have n3 : w.heap.size ≠ w3.heap.size := by omega
         have n4 : w2.heap.size ≠ w3.heap.size := by omega
         obtain ⟨p0, p1, p2, p3⟩ := blk4 K3
         obtain ⟨q0, q1, q2, q3⟩ := blk4 L3
         clear hb3)
      | (go_at_call 20; (with_reducible refine (c3 _).mono ?_); rintro e w4 ⟨rfl, hb4⟩
         have hB4 := below_next (below_al hB3 _) hb4
         have K4 := (K3.alloc _).next hb4
         have L4 := (L3.alloc _).next hb4
         clear hb4 p0 p1 p2 p3 q0 q1 q2 q3 z3 z4 n3 n4 z2 z1 K1 K2 K3 L3))
    all_goals (try (go_ret; exact ⟨rfl, hB4⟩))
    obtain ⟨p0, p1, p2, p3⟩ := blk4 K4
    obtain ⟨q0, q1, q2, q3⟩ := blk4 L4
    have s1 : IntKind.i64.wrap (px + x) = px + x := IntWalk.i64_in _ (by omega)
    have s2 : IntKind.i64.wrap (py + y) = py + y := IntWalk.i64_in _ (by omega)
    go_region_held3 (fun W' => W'.cell? ⟨w.heap.size, 0, none⟩ = some (.int .i64 rx) ∧ W'.cell? ⟨w.heap.size, 1, none⟩ = some (.int .i64 ry) ∧ W'.cell? ⟨w.heap.size, 2, none⟩ = some (.int .i64 rw) ∧ W'.cell? ⟨w.heap.size, 3, none⟩ = some (.int .i64 rh) ∧ W'.cell? ⟨w2.heap.size, 0, none⟩ = some (.int .i64 mx) ∧ W'.cell? ⟨w2.heap.size, 1, none⟩ = some (.int .i64 my) ∧ W'.cell? ⟨w2.heap.size, 2, none⟩ = some (.int .i64 mw) ∧ W'.cell? ⟨w2.heap.size, 3, none⟩ = some (.int .i64 mh) ∧ Below w.heap.size w W' ∧ Blk W' w.heap.size 23 #[.int .i64 rx, .int .i64 ry, .int .i64 rw, .int .i64 rh] ∧ Blk W' w2.heap.size 23 #[.int .i64 mx, .int .i64 my, .int .i64 mw, .int .i64 mh])
      (first | exact ⟨p0, p1, p2, p3, q0, q1, q2, q3, hB4.drew, K4.drew, L4.drew⟩ | exact held2 (by assumption) (by assumption))
      (first | (go_at_call 22; (first | (with_reducible refine (c4 _).mono ?_) | (with_reducible refine (c5 _).mono ?_)); rintro e w5 ⟨rfl, hb5⟩))
    go_wp2
    go_ret
    rename_i hS
    exact ⟨rfl, hS.2.2.2.2.2.2.2.2.1⟩
end rectBack
end Go.Proofs.Ytabijoohoofogaa
