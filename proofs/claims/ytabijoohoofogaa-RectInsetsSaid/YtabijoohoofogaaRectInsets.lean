/- RectInsets' walk, from what rect's functions answer. Conditions: those answers. -/
import Derived.Test.YtabijoohoofogaaRectSpec
import Derived.Test.YtabijoohoofogaaBlk
namespace Go.Proofs.Ytabijoohoofogaa
open Go.ChangeShapes Go.WideShapes Go.ChangeAt Go.RowKit
namespace rectInsets
theorem min4 (a b c d : Int) : ∃ m : Int, (∀ (w : World) (ts : Array TypeId) (t : TypeId), (Builtin.min_ ts t #[.int .i64 a, .int .i64 b, .int .i64 c, .int .i64 d]).run Try.prog w = .ok (.int .i64 m) w) ∧ (m < 0 ∨ (0 ≤ m ∧ 0 ≤ a ∧ 0 ≤ b ∧ 0 ≤ c ∧ 0 ≤ d)) := by
  refine ⟨if d < (if c < (if b < a then b else a) then c else (if b < a then b else a)) then d else (if c < (if b < a then b else a) then c else (if b < a then b else a)), fun w ts t => by simp [Builtin.min_, Builtin.min2], ?_⟩
  repeat' split
  all_goals omega
set_option maxHeartbeats 4000000 in
set_option maxRecDepth 100000 in
theorem walk (cAwake : ∀ w, Calls Try.prog 11 #[] w fun e w' => e = .returned (.bool true) ∧ Below w.heap.size w w') (cMay : MayC) (cInset : InsetC)
    (r : Plc) (a b c d : Int) (w : World) :
    Calls Try.prog 7 #[r.v, .agg #[.int .i64 a, .int .i64 b, .int .i64 c, .int .i64 d]] w fun e w' => e = .returned (.bool true) ∧ Below w.heap.size w w' := by
  have c1 := fun w => cMay r w
  cases h : mayB r with
  | false =>
    rw [h] at c1
    obtain ⟨rx, ry, rw_, rh⟩ := r
    clear h
    go_enter Try.func7, Try.ntmps7
    go_wp2_with (first
      | (go_at_call 11; refine (cAwake _).mono ?_; rintro e w1 ⟨rfl, hb1⟩
         have hB1 := below_next (below_al (below_al (Below.refl _ _) _) _) hb1
         have K1 := ((Blk.new w 23 _).alloc _).next hb1
         obtain ⟨p0, p1, p2, p3⟩ := blk4 K1
         clear hb1)
      | (go_at_call 20; (with_reducible refine (c1 _).mono ?_); rintro e w2 ⟨rfl, hb2⟩; have hB2 := below_next hB1 hb2))
    go_ret
    exact ⟨rfl, hB2⟩
  | true =>
    rw [h] at c1
    have c2 := fun w => cInset r a b c d w
    have c3 := fun w => cInset r 0 0 0 0 w
    rw [(inset_none h).1, (inset_none h).2] at c3
    obtain ⟨i1, i2⟩ := inset_nn h a b c d
    cases h2 : insetOk r a b c d with
    | false =>
      rw [h2] at c2
      clear h h2
      generalize insetR r a b c d = i at *
      obtain ⟨rx, ry, rw_, rh⟩ := r
      obtain ⟨ix, iy, iw, ih⟩ := i
      simp only at i1 i2
      go_enter Try.func7, Try.ntmps7
      go_wp2_with (first
        | (go_at_call 11; refine (cAwake _).mono ?_; rintro e w1 ⟨rfl, hb1⟩
           have hB1 := below_next (below_al (below_al (Below.refl _ _) _) _) hb1
           have K1 := ((Blk.new w 23 _).alloc _).next hb1
           have L1 := (Blk.new (w.alloc _) _ _).next hb1
           rw [size_al] at L1
           obtain ⟨p0, p1, p2, p3⟩ := blk4 K1
           clear hb1)
        | (go_at_call 20; (with_reducible refine (c1 _).mono ?_); rintro e w2 ⟨rfl, hb2⟩
           have hB2 := below_next hB1 hb2
           have K2 := K1.next hb2
           have L2 := L1.next hb2
           clear hb2 p0 p1 p2 p3
           obtain ⟨p0, p1, p2, p3⟩ := blk4 K2
           obtain ⟨q0, q1, q2, q3⟩ := blk4 L2)
        | (go_at_call 14; (with_reducible refine (c2 _).mono ?_); rintro e w3 ⟨rfl, hb3⟩
           have hB3 := below_next hB2 hb3
           have K3 := K2.next hb3
           have L3 := L2.next hb3
           have z1 := K3.lt
           have z2 := L3.lt
           have n1 : w.heap.size ≠ w3.heap.size := by omega
           have n2 : w.heap.size + 1 ≠ w3.heap.size := by omega
           clear hb3 p0 p1 p2 p3 q0 q1 q2 q3
           obtain ⟨p0, p1, p2, p3⟩ := blk4 K3)
        | (go_at_call 14; (with_reducible refine (c3 _).mono ?_); rintro e w4 ⟨rfl, hb4⟩
           have hB4 := below_next (below_al hB3 _) hb4
           have K4 := (K3.alloc _).next hb4
           have L4 := (L3.alloc _).next hb4
           have M4 := (Blk.new w3 23 _).next hb4
           have z3 := K4.lt
           have z4 := L4.lt
           have z5 := M4.lt
           have n3 : w.heap.size ≠ w4.heap.size := by omega
           have n4 : w.heap.size + 1 ≠ w4.heap.size := by omega
           have n5 : w3.heap.size ≠ w4.heap.size := by omega
           clear hb4 p0 p1 p2 p3
           obtain ⟨p0, p1, p2, p3⟩ := blk4 K4
           obtain ⟨q0, q1, q2, q3⟩ := blk4 L4
           obtain ⟨r0, r1, r2, r3⟩ := blk4 M4))
      go_ret
      exact ⟨rfl, below_al hB4 _⟩
    | true =>
      have c5 := fun w => cInset (insetR r a b c d) (-a) (-b) (-c) (-d) w
      have c6 := fun w => cMay (insetR r a b c d) w
      have hback := fun g => inset_back (r := r) (a := a) (b := b) (c := c) (d := d) h2 g
      obtain ⟨e1, e2, a1, a2, b1, b2, d1, d2, f1, f2⟩ := inset_is h2
      rw [e1] at c2 c5 c6 hback i1 i2
      rw [e2] at c6
      rw [h2] at c2
      simp only at i1 i2
      clear h h2 e1 e2
      have hcase : ∃ (g : Bool) (bk : Plc), (∀ w, Calls Try.prog 14 #[(Plc.mk (r.x + d) (r.y + a) (r.w - d - b) (r.h - a - c)).v, .int .i64 (-a), .int .i64 (-b), .int .i64 (-c), .int .i64 (-d)] w fun e w' => e = .returned (.tuple #[bk.v, .bool g]) ∧ Below w.heap.size w w') ∧ (g = false ∨ (g = true ∧ bk = r)) := by
        refine ⟨_, _, c5, ?_⟩
        cases g : insetOk (Plc.mk (r.x + d) (r.y + a) (r.w - d - b) (r.h - a - c)) (-a) (-b) (-c) (-d) with
        | false => exact Or.inl rfl
        | true => exact Or.inr ⟨rfl, hback g⟩
      clear c5 hback
      obtain ⟨g, bk, c5, hg⟩ := hcase
      obtain ⟨rx, ry, rw_, rh⟩ := r
      simp only at c1 c2 c3 c5 c6 i1 i2
      obtain ⟨m, hm, hmc⟩ := min4 a b c d
      rcases hmc with hm0 | ⟨hm0, g1, g2, g3, g4⟩ <;> rcases hg with rfl | ⟨rfl, rfl⟩
      all_goals
        (try
          have k1 : rw_ - d - b ≤ rw_ := by omega
          have k2 : rh - a - c ≤ rh := by omega
          have k3 : rx ≤ rx + d := by omega
          have k4 : ry ≤ ry + a := by omega)
        go_enter Try.func7, Try.ntmps7
        go_wp2_with (first
          | (go_at_call 11; refine (cAwake _).mono ?_; rintro e w1 ⟨rfl, hb1⟩
             have hB1 := below_next (below_al (below_al (Below.refl _ _) _) _) hb1
             have K1 := ((Blk.new w 23 _).alloc _).next hb1
             have L1 := (Blk.new (w.alloc _) _ _).next hb1
             rw [size_al] at L1
             obtain ⟨p0, p1, p2, p3⟩ := blk4 K1
             clear hb1)
          | (go_at_call 20; (with_reducible refine (c1 _).mono ?_); rintro e w2 ⟨rfl, hb2⟩
             have hB2 := below_next hB1 hb2
             have K2 := K1.next hb2
             have L2 := L1.next hb2
             clear hb2 p0 p1 p2 p3
             obtain ⟨p0, p1, p2, p3⟩ := blk4 K2
             obtain ⟨q0, q1, q2, q3⟩ := blk4 L2)
          | (go_at_call 14; (with_reducible refine (c2 _).mono ?_); rintro e w3 ⟨rfl, hb3⟩
             have hB3 := below_next hB2 hb3
             have K3 := K2.next hb3
             have L3 := L2.next hb3
             have z1 := K3.lt
             have z2 := L3.lt
             have n1 : w.heap.size ≠ w3.heap.size := by omega
             have n2 : w.heap.size + 1 ≠ w3.heap.size := by omega
             clear hb3 p0 p1 p2 p3 q0 q1 q2 q3
             obtain ⟨p0, p1, p2, p3⟩ := blk4 K3)
          | (go_at_call 14; (with_reducible refine (c3 _).mono ?_); rintro e w4 ⟨rfl, hb4⟩
             have hB4 := below_next (below_al hB3 _) hb4
             have K4 := (K3.alloc _).next hb4
             have L4 := (L3.alloc _).next hb4
             have M4 := (Blk.new w3 23 _).next hb4
             have z3 := K4.lt
             have z4 := L4.lt
             have z5 := M4.lt
             have n3 : w.heap.size ≠ w4.heap.size := by omega
             have n4 : w.heap.size + 1 ≠ w4.heap.size := by omega
             have n5 : w3.heap.size ≠ w4.heap.size := by omega
             clear hb4 p0 p1 p2 p3
             obtain ⟨p0, p1, p2, p3⟩ := blk4 K4
             obtain ⟨q0, q1, q2, q3⟩ := blk4 L4
             obtain ⟨r0, r1, r2, r3⟩ := blk4 M4)
          | (go_at_call 14; (with_reducible refine (c5 _).mono ?_); rintro e w5 ⟨rfl, hb5⟩
             have hB5 := below_next (below_al hB4 _) hb5
             have K5 := (K4.alloc _).next hb5
             have M5 := (M4.alloc _).next hb5
             have z6 := K5.lt
             have z7 := M5.lt
             have n6 : w.heap.size ≠ w5.heap.size := by omega
             have n7 : w3.heap.size ≠ w5.heap.size := by omega
             clear hb5 p0 p1 p2 p3 q0 q1 q2 q3 r0 r1 r2 r3
             obtain ⟨r0, r1, r2, r3⟩ := blk4 M5)
          | (go_at_call 20; (with_reducible refine (c6 _).mono ?_); rintro e w6 ⟨rfl, hb6⟩
             have hB6 := below_next (below_al hB5 _) hb6
             have K6 := (K5.alloc _).next hb6
             have N6 := (Blk.new w5 23 _).next hb6
             clear hb6 r0 r1 r2 r3
             obtain ⟨p0, p1, p2, p3⟩ := blk4 K6
             obtain ⟨q0, q1, q2, q3⟩ := blk4 N6))
        go_ret
        exact ⟨rfl, hB6⟩
end rectInsets
end Go.Proofs.Ytabijoohoofogaa
