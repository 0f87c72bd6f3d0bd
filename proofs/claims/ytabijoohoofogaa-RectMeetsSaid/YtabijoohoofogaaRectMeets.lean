/- RectMeets' walk, from what rect's functions answer. Conditions: those answers. -/
import Derived.Test.YtabijoohoofogaaRectSpec
import Derived.Test.YtabijoohoofogaaBlk
import Derived.Deep.RegionHeld3
namespace Go.Proofs.Ytabijoohoofogaa
open Go.ChangeShapes Go.WideShapes Go.ChangeAt Go.RowKit
namespace rectMeets
set_option maxHeartbeats 4000000 in
set_option maxRecDepth 100000 in
theorem walk (cAwake : ∀ w, Calls Try.prog 11 #[] w fun e w' => e = .returned (.bool true) ∧ Below w.heap.size w w') (cMay : MayC) (cHas : HasC) (cMeet : MeetC)
    (a b : Plc) (x y : Int) (w : World) :
    Calls Try.prog 5 #[a.v, b.v, .int .i64 x, .int .i64 y] w fun e w' => e = .returned (.bool true) ∧ Below w.heap.size w w' := by
  have c1 := fun w => cMeet a b w
  have c2 := fun w => cMeet b a w
  rw [meetB_comm, meetR_comm] at c2
  have c3 := fun w => cMay (meetR a b) w
  have c4 := fun w => cHas (meetR a b) x y w
  have c5 := fun w => cHas a x y w
  have c6 := fun w => cHas b x y w
  rw [has_meet] at c4
  generalize hasB a x y = ha at *
  generalize hasB b x y = hb at *
  cases h : meetB a b with
  | true =>
    rw [meet_may h] at c3
    rw [h] at c1 c2
    clear h
    generalize meetR a b = m at *
    obtain ⟨mx, my, mw, mh⟩ := m
    obtain ⟨ax, ay, aw, ah⟩ := a
    obtain ⟨bx, by_, bw, bh⟩ := b
    cases ha <;> simp only [Bool.true_and, Bool.false_and] at c4
    · go_enter Try.func5, Try.ntmps5
      go_wp2_with (first
        | (go_at_call 11; refine (cAwake _).mono ?_; rintro e w1 ⟨rfl, hb1⟩
           have hB1 := below_next (below_al (below_al (Below.refl _ _) _) _) hb1
           have K1 := ((Blk.new w 23 _).alloc _).next hb1
           have L1 := (Blk.new (w.alloc _) 23 _).next hb1
           rw [size_al] at L1
           obtain ⟨p0, p1, p2, p3⟩ := blk4 K1
           obtain ⟨q0, q1, q2, q3⟩ := blk4 L1
           clear hb1)
        | (go_at_call 18; (with_reducible refine (c1 _).mono ?_); rintro e w2 ⟨rfl, hb2⟩
           have hB2 := below_next hB1 hb2
           have K2 := K1.next hb2
           have L2 := L1.next hb2
           have z1 := K2.lt
           have z2 := L2.lt
           have n1 : w.heap.size ≠ w2.heap.size := by omega
           have n2 : w.heap.size + 1 ≠ w2.heap.size := by omega
           clear hb2 p0 p1 p2 p3 q0 q1 q2 q3
           obtain ⟨p0, p1, p2, p3⟩ := blk4 K2
           obtain ⟨q0, q1, q2, q3⟩ := blk4 L2)
        | (go_at_call 18; (with_reducible refine (c2 _).mono ?_); rintro e w3 ⟨rfl, hb3⟩
           have hB3 := below_next (below_al hB2 _) hb3
           have K3 := (K2.alloc _).next hb3
           have L3 := (L2.alloc _).next hb3
           have M3 := (Blk.new w2 23 _).next hb3
           have z3 := K3.lt
           have z4 := L3.lt
           have z5 := M3.lt
           have n3 : w2.heap.size ≠ w3.heap.size := by omega
           clear hb3 p0 p1 p2 p3 q0 q1 q2 q3
           obtain ⟨r0, r1, r2, r3⟩ := blk4 M3)
        | (go_at_call 20; (with_reducible refine (c3 _).mono ?_); rintro e w4 ⟨rfl, hb4⟩
           have hB4 := below_next (below_al hB3 _) hb4
           have K4 := (K3.alloc _).next hb4
           have L4 := (L3.alloc _).next hb4
           have M4 := (M3.alloc _).next hb4
           clear hb4 r0 r1 r2 r3))
      clear K1 K2 K3 L1 L2 L3 M3
      obtain ⟨p0, p1, p2, p3⟩ := blk4 K4
      obtain ⟨q0, q1, q2, q3⟩ := blk4 L4
      obtain ⟨s0, s1, s2, s3⟩ := blk4 M4
      have hB5 := hB4.drew
      have K5 := K4.drew
      have L5 := L4.drew
      have M5 := M4.drew
      clear hB4 K4 L4 M4
      first
      | (go_region_with (first
        | (go_at_call 22; (first | (with_reducible refine (c4 _).mono ?_) | (with_reducible refine (c5 _).mono ?_)); rintro e w9 ⟨rfl, hb9⟩
           have hB9 := below_next (w := w) (by assumption) hb9
           have K9 := Blk.next (g := w.heap.size) (by assumption) hb9
           have M9 := Blk.next (g := w2.heap.size) (by assumption) hb9
           clear hb9
           obtain ⟨_, _, _, _⟩ := blk4 K9
           obtain ⟨_, _, _, _⟩ := blk4 M9)))
      | (fail)
      all_goals
        go_wp2
        go_ret
        exact ⟨rfl, by assumption⟩
    · go_enter Try.func5, Try.ntmps5
      go_wp2_with (first
        | (go_at_call 11; refine (cAwake _).mono ?_; rintro e w1 ⟨rfl, hb1⟩
           have hB1 := below_next (below_al (below_al (Below.refl _ _) _) _) hb1
           have K1 := ((Blk.new w 23 _).alloc _).next hb1
           have L1 := (Blk.new (w.alloc _) 23 _).next hb1
           rw [size_al] at L1
           obtain ⟨p0, p1, p2, p3⟩ := blk4 K1
           obtain ⟨q0, q1, q2, q3⟩ := blk4 L1
           clear hb1)
        | (go_at_call 18; (with_reducible refine (c1 _).mono ?_); rintro e w2 ⟨rfl, hb2⟩
           have hB2 := below_next hB1 hb2
           have K2 := K1.next hb2
           have L2 := L1.next hb2
           have z1 := K2.lt
           have z2 := L2.lt
           have n1 : w.heap.size ≠ w2.heap.size := by omega
           have n2 : w.heap.size + 1 ≠ w2.heap.size := by omega
           clear hb2 p0 p1 p2 p3 q0 q1 q2 q3
           obtain ⟨p0, p1, p2, p3⟩ := blk4 K2
           obtain ⟨q0, q1, q2, q3⟩ := blk4 L2)
        | (go_at_call 18; (with_reducible refine (c2 _).mono ?_); rintro e w3 ⟨rfl, hb3⟩
           have hB3 := below_next (below_al hB2 _) hb3
           have K3 := (K2.alloc _).next hb3
           have L3 := (L2.alloc _).next hb3
           have M3 := (Blk.new w2 23 _).next hb3
           have z3 := K3.lt
           have z4 := L3.lt
           have z5 := M3.lt
           have n3 : w2.heap.size ≠ w3.heap.size := by omega
           clear hb3 p0 p1 p2 p3 q0 q1 q2 q3
           obtain ⟨r0, r1, r2, r3⟩ := blk4 M3)
        | (go_at_call 20; (with_reducible refine (c3 _).mono ?_); rintro e w4 ⟨rfl, hb4⟩
           have hB4 := below_next (below_al hB3 _) hb4
           have K4 := (K3.alloc _).next hb4
           have L4 := (L3.alloc _).next hb4
           have M4 := (M3.alloc _).next hb4
           clear hb4 r0 r1 r2 r3))
      clear K1 K2 K3 L1 L2 L3 M3
      obtain ⟨p0, p1, p2, p3⟩ := blk4 K4
      obtain ⟨q0, q1, q2, q3⟩ := blk4 L4
      obtain ⟨s0, s1, s2, s3⟩ := blk4 M4
      first
      | (go_region_held3 (fun W' => W'.cell? ⟨w.heap.size, 0, none⟩ = some (.int .i64 ax) ∧ W'.cell? ⟨w.heap.size, 1, none⟩ = some (.int .i64 ay) ∧ W'.cell? ⟨w.heap.size, 2, none⟩ = some (.int .i64 aw) ∧ W'.cell? ⟨w.heap.size, 3, none⟩ = some (.int .i64 ah) ∧ W'.cell? ⟨w.heap.size + 1, 0, none⟩ = some (.int .i64 bx) ∧ W'.cell? ⟨w.heap.size + 1, 1, none⟩ = some (.int .i64 by_) ∧ W'.cell? ⟨w.heap.size + 1, 2, none⟩ = some (.int .i64 bw) ∧ W'.cell? ⟨w.heap.size + 1, 3, none⟩ = some (.int .i64 bh) ∧ W'.cell? ⟨w2.heap.size, 0, none⟩ = some (.int .i64 mx) ∧ W'.cell? ⟨w2.heap.size, 1, none⟩ = some (.int .i64 my) ∧ W'.cell? ⟨w2.heap.size, 2, none⟩ = some (.int .i64 mw) ∧ W'.cell? ⟨w2.heap.size, 3, none⟩ = some (.int .i64 mh) ∧ Below w.heap.size w W' ∧ Blk W' (w.heap.size) 23 #[.int .i64 ax, .int .i64 ay, .int .i64 aw, .int .i64 ah] ∧ Blk W' (w.heap.size + 1) 23 #[.int .i64 bx, .int .i64 by_, .int .i64 bw, .int .i64 bh] ∧ Blk W' (w2.heap.size) 23 #[.int .i64 mx, .int .i64 my, .int .i64 mw, .int .i64 mh])
          (first | assumption | exact ⟨p0, p1, p2, p3, q0, q1, q2, q3, s0, s1, s2, s3, hB4.drew, K4.drew, L4.drew, M4.drew⟩ | exact held3 (by assumption) (by assumption))
          (first | (go_at_call 22; (first | (with_reducible refine (c4 _).mono ?_) | (with_reducible refine (c5 _).mono ?_) | (with_reducible refine (c6 _).mono ?_)); rintro e w9 ⟨rfl, hb9⟩)))
      | (fail)
      all_goals
        go_wp2
        go_ret
        rename_i hS
        exact ⟨rfl, hS.2.2.2.2.2.2.2.2.2.2.2.2.1⟩
  | false =>
    rw [meetR_no h] at c1 c2 c4
    rw [h] at c1 c2
    clear h c3
    simp only [Plc.zero] at c1 c2 c4
    obtain ⟨ax, ay, aw, ah⟩ := a
    obtain ⟨bx, by_, bw, bh⟩ := b
    cases ha <;> simp only [Bool.true_and, Bool.false_and] at c4
    · go_enter Try.func5, Try.ntmps5
      go_wp2_with (first
        | (go_at_call 11; refine (cAwake _).mono ?_; rintro e w1 ⟨rfl, hb1⟩
           have hB1 := below_next (below_al (below_al (Below.refl _ _) _) _) hb1
           have K1 := ((Blk.new w 23 _).alloc _).next hb1
           have L1 := (Blk.new (w.alloc _) 23 _).next hb1
           rw [size_al] at L1
           obtain ⟨p0, p1, p2, p3⟩ := blk4 K1
           obtain ⟨q0, q1, q2, q3⟩ := blk4 L1
           clear hb1)
        | (go_at_call 18; (with_reducible refine (c1 _).mono ?_); rintro e w2 ⟨rfl, hb2⟩
           have hB2 := below_next hB1 hb2
           have K2 := K1.next hb2
           have L2 := L1.next hb2
           have z1 := K2.lt
           have z2 := L2.lt
           have n1 : w.heap.size ≠ w2.heap.size := by omega
           have n2 : w.heap.size + 1 ≠ w2.heap.size := by omega
           clear hb2 p0 p1 p2 p3 q0 q1 q2 q3
           obtain ⟨p0, p1, p2, p3⟩ := blk4 K2
           obtain ⟨q0, q1, q2, q3⟩ := blk4 L2)
        | (go_at_call 18; (with_reducible refine (c2 _).mono ?_); rintro e w3 ⟨rfl, hb3⟩
           have hB3 := below_next (below_al hB2 _) hb3
           have K3 := (K2.alloc _).next hb3
           have L3 := (L2.alloc _).next hb3
           have M3 := (Blk.new w2 23 _).next hb3
           have z3 := K3.lt
           have z4 := L3.lt
           have z5 := M3.lt
           have n3 : w2.heap.size ≠ w3.heap.size := by omega
           clear hb3 p0 p1 p2 p3 q0 q1 q2 q3
           obtain ⟨r0, r1, r2, r3⟩ := blk4 M3))
      have hB4 := below_al hB3 (.cells #[.int .i64 0, .int .i64 0, .int .i64 0, .int .i64 0] 23)
      have K4 := K3.alloc (.cells #[.int .i64 0, .int .i64 0, .int .i64 0, .int .i64 0] 23)
      have L4 := L3.alloc (.cells #[.int .i64 0, .int .i64 0, .int .i64 0, .int .i64 0] 23)
      have M4 := M3.alloc (.cells #[.int .i64 0, .int .i64 0, .int .i64 0, .int .i64 0] 23)
      clear K1 K2 K3 L1 L2 L3 M3
      obtain ⟨p0, p1, p2, p3⟩ := blk4 K4
      obtain ⟨q0, q1, q2, q3⟩ := blk4 L4
      obtain ⟨s0, s1, s2, s3⟩ := blk4 M4
      have hB5 := hB4.drew
      have K5 := K4.drew
      have L5 := L4.drew
      have M5 := M4.drew
      clear hB4 K4 L4 M4
      first
      | (go_region_with (first
        | (go_at_call 22; (first | (with_reducible refine (c4 _).mono ?_) | (with_reducible refine (c5 _).mono ?_)); rintro e w9 ⟨rfl, hb9⟩
           have hB9 := below_next (w := w) (by assumption) hb9
           have K9 := Blk.next (g := w.heap.size) (by assumption) hb9
           have M9 := Blk.next (g := w2.heap.size) (by assumption) hb9
           clear hb9
           obtain ⟨_, _, _, _⟩ := blk4 K9
           obtain ⟨_, _, _, _⟩ := blk4 M9)))
      | (fail)
      all_goals
        go_wp2
        go_ret
        exact ⟨rfl, by assumption⟩
    · go_enter Try.func5, Try.ntmps5
      go_wp2_with (first
        | (go_at_call 11; refine (cAwake _).mono ?_; rintro e w1 ⟨rfl, hb1⟩
           have hB1 := below_next (below_al (below_al (Below.refl _ _) _) _) hb1
           have K1 := ((Blk.new w 23 _).alloc _).next hb1
           have L1 := (Blk.new (w.alloc _) 23 _).next hb1
           rw [size_al] at L1
           obtain ⟨p0, p1, p2, p3⟩ := blk4 K1
           obtain ⟨q0, q1, q2, q3⟩ := blk4 L1
           clear hb1)
        | (go_at_call 18; (with_reducible refine (c1 _).mono ?_); rintro e w2 ⟨rfl, hb2⟩
           have hB2 := below_next hB1 hb2
           have K2 := K1.next hb2
           have L2 := L1.next hb2
           have z1 := K2.lt
           have z2 := L2.lt
           have n1 : w.heap.size ≠ w2.heap.size := by omega
           have n2 : w.heap.size + 1 ≠ w2.heap.size := by omega
           clear hb2 p0 p1 p2 p3 q0 q1 q2 q3
           obtain ⟨p0, p1, p2, p3⟩ := blk4 K2
           obtain ⟨q0, q1, q2, q3⟩ := blk4 L2)
        | (go_at_call 18; (with_reducible refine (c2 _).mono ?_); rintro e w3 ⟨rfl, hb3⟩
           have hB3 := below_next (below_al hB2 _) hb3
           have K3 := (K2.alloc _).next hb3
           have L3 := (L2.alloc _).next hb3
           have M3 := (Blk.new w2 23 _).next hb3
           have z3 := K3.lt
           have z4 := L3.lt
           have z5 := M3.lt
           have n3 : w2.heap.size ≠ w3.heap.size := by omega
           clear hb3 p0 p1 p2 p3 q0 q1 q2 q3
           obtain ⟨r0, r1, r2, r3⟩ := blk4 M3))
      have hB4 := below_al hB3 (.cells #[.int .i64 0, .int .i64 0, .int .i64 0, .int .i64 0] 23)
      have K4 := K3.alloc (.cells #[.int .i64 0, .int .i64 0, .int .i64 0, .int .i64 0] 23)
      have L4 := L3.alloc (.cells #[.int .i64 0, .int .i64 0, .int .i64 0, .int .i64 0] 23)
      have M4 := M3.alloc (.cells #[.int .i64 0, .int .i64 0, .int .i64 0, .int .i64 0] 23)
      clear K1 K2 K3 L1 L2 L3 M3
      obtain ⟨p0, p1, p2, p3⟩ := blk4 K4
      obtain ⟨q0, q1, q2, q3⟩ := blk4 L4
      obtain ⟨s0, s1, s2, s3⟩ := blk4 M4
      first
      | (go_region_held3 (fun W' => W'.cell? ⟨w.heap.size, 0, none⟩ = some (.int .i64 ax) ∧ W'.cell? ⟨w.heap.size, 1, none⟩ = some (.int .i64 ay) ∧ W'.cell? ⟨w.heap.size, 2, none⟩ = some (.int .i64 aw) ∧ W'.cell? ⟨w.heap.size, 3, none⟩ = some (.int .i64 ah) ∧ W'.cell? ⟨w.heap.size + 1, 0, none⟩ = some (.int .i64 bx) ∧ W'.cell? ⟨w.heap.size + 1, 1, none⟩ = some (.int .i64 by_) ∧ W'.cell? ⟨w.heap.size + 1, 2, none⟩ = some (.int .i64 bw) ∧ W'.cell? ⟨w.heap.size + 1, 3, none⟩ = some (.int .i64 bh) ∧ W'.cell? ⟨w2.heap.size, 0, none⟩ = some (.int .i64 0) ∧ W'.cell? ⟨w2.heap.size, 1, none⟩ = some (.int .i64 0) ∧ W'.cell? ⟨w2.heap.size, 2, none⟩ = some (.int .i64 0) ∧ W'.cell? ⟨w2.heap.size, 3, none⟩ = some (.int .i64 0) ∧ Below w.heap.size w W' ∧ Blk W' (w.heap.size) 23 #[.int .i64 ax, .int .i64 ay, .int .i64 aw, .int .i64 ah] ∧ Blk W' (w.heap.size + 1) 23 #[.int .i64 bx, .int .i64 by_, .int .i64 bw, .int .i64 bh] ∧ Blk W' (w2.heap.size) 23 #[.int .i64 0, .int .i64 0, .int .i64 0, .int .i64 0])
          (first | assumption | exact ⟨p0, p1, p2, p3, q0, q1, q2, q3, s0, s1, s2, s3, hB4.drew, K4.drew, L4.drew, M4.drew⟩ | exact held3 (by assumption) (by assumption))
          (first | (go_at_call 22; (first | (with_reducible refine (c4 _).mono ?_) | (with_reducible refine (c5 _).mono ?_) | (with_reducible refine (c6 _).mono ?_)); rintro e w9 ⟨rfl, hb9⟩)))
      | (fail)
      all_goals
        go_wp2
        go_ret
        rename_i hS
        exact ⟨rfl, hS.2.2.2.2.2.2.2.2.2.2.2.2.1⟩
end rectMeets
end Go.Proofs.Ytabijoohoofogaa
