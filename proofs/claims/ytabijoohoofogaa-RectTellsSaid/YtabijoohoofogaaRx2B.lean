/- What the document's own Has, Move, less, Inset and Meet of layer 2 answer. Conditions: none. -/
import Derived.Test.YtabijoohoofogaaRx2A
namespace Go.Proofs.Ytabijoohoofogaa
open Go.ChangeShapes Go.WideShapes Go.ChangeAt Go.RowKit
theorem rbetween_any (n f m : Int) (w : World) (h1 : -1099511627776 ≤ f) (h2 : f ≤ n) (h3 : n ≤ 4398046511104) :
    Calls Try.prog 44 #[.int .i64 n, .int .i64 f, .int .i64 m] w fun e w' => e = .returned (.bool (decide (n - f < m))) ∧ w = w' := by
  have h4 : n - f ≤ 5497558138880 := by omega
  have h5 : 0 ≤ n - f := by omega
  go_enter Try.func44, Try.ntmps44
  go_wp2
  go_ret
  exact ⟨rfl, rfl⟩
set_option maxHeartbeats 2000000 in
set_option maxRecDepth 100000 in
theorem rhas_any (r : Plc) (x y : Int) (w : World) : Calls Try.prog 23 #[r.v, .int .i64 x, .int .i64 y] w fun e w' => e = .returned (.bool (hasB r x y)) ∧ Below w.heap.size w w' := by
  have c1 := fun w => rmay_any r w
  cases hm : mayB r with
  | false =>
    have hh : hasB r x y = false := by unfold hasB; rw [hm]; rfl
    rw [hm] at c1
    rw [hh]
    clear hm hh
    obtain ⟨rx, ry, rw_, rh⟩ := r
    go_enter Try.func23, Try.ntmps23
    go_wp2_with (go_at_call 21; (with_reducible refine (c1 _).mono ?_); rintro e w1 ⟨rfl, hb1⟩; have K1 := (Blk.new w 23 _).next hb1; obtain ⟨p0, p1, p2, p3⟩ := blk4 K1)
    go_ret
    exact ⟨rfl, below_next (below_al (Below.refl _ _) _) hb1⟩
  | true =>
    obtain ⟨m1, m2, m3, m4, m5, m6, m7, m8⟩ := mayB_iff.1 hm
    rw [hm] at c1
    by_cases g : r.x ≤ x ∧ r.y ≤ y ∧ x ≤ 4398046511104 ∧ y ≤ 4398046511104
    · obtain ⟨g1, g2, g3, g4⟩ := g
      have hh : hasB r x y = (decide (x - r.x < r.w) && decide (y - r.y < r.h)) := by
        apply bool_ext
        rw [hasB_iff, Bool.and_eq_true, decide_eq_true_iff, decide_eq_true_iff]
        constructor
        · rintro ⟨_, _, _, _, _⟩; exact ⟨by omega, by omega⟩
        · rintro ⟨_, _⟩; exact ⟨hm, by omega, by omega, by omega, by omega⟩
      have c2 := fun w => rbetween_any x r.x r.w w m1 g1 g3
      have c3 := fun w => rbetween_any y r.y r.h w m3 g2 g4
      rw [hh]
      clear hm hh
      generalize decide (x - r.x < r.w) = b1 at *
      generalize decide (y - r.y < r.h) = b2 at *
      obtain ⟨rx, ry, rw_, rh⟩ := r
      simp only at *
      cases b1
      all_goals
        go_enter Try.func23, Try.ntmps23
        go_wp2_with (first
          | (go_at_call 21; (with_reducible refine (c1 _).mono ?_); rintro e w1 ⟨rfl, hb1⟩; have K1 := (Blk.new w 23 _).next hb1; obtain ⟨p0, p1, p2, p3⟩ := blk4 K1)
          | (go_at_call 44; (first | (with_reducible refine (c2 _).mono ?_) | (with_reducible refine (c3 _).mono ?_)); rintro e w2 ⟨rfl, rfl⟩))
        go_ret
        exact ⟨rfl, below_next (below_al (Below.refl _ _) _) hb1⟩
    · have hh : hasB r x y = false := by
        cases hh : hasB r x y with
        | false => rfl
        | true =>
          obtain ⟨_, _, _, _, _⟩ := hasB_iff.1 hh
          exact absurd ⟨by omega, by omega, by omega, by omega⟩ g
      rw [hh]
      clear hm hh m1 m2 m3 m4 m5 m6 m7 m8
      obtain ⟨rx, ry, rw_, rh⟩ := r
      simp only at *
      have g' : x < rx ∨ (rx ≤ x ∧ y < ry) ∨ (rx ≤ x ∧ ry ≤ y ∧ 4398046511104 < x) ∨ (rx ≤ x ∧ ry ≤ y ∧ x ≤ 4398046511104 ∧ 4398046511104 < y) := by omega
      clear g
      rcases g' with h | ⟨g1, h⟩ | ⟨g1, g2, h⟩ | ⟨g1, g2, g3, h⟩
      all_goals
        go_enter Try.func23, Try.ntmps23
        go_wp2_with (go_at_call 21; (with_reducible refine (c1 _).mono ?_); rintro e w1 ⟨rfl, hb1⟩; have K1 := (Blk.new w 23 _).next hb1; obtain ⟨p0, p1, p2, p3⟩ := blk4 K1)
        go_ret
        exact ⟨rfl, below_next (below_al (Below.refl _ _) _) hb1⟩
theorem rless_any (n a b : Int) (w : World) : Calls Try.prog 40 #[.int .i64 n, .int .i64 a, .int .i64 b] w fun e w' => e = .returned (.tuple #[.int .i64 (less1 n a b), .bool (lessOk n a b)]) ∧ w = w' := by
  have c1 := fun w => rsub_any n a w
  have c2 := fun w => rsub_any (sub2 n a) b w
  unfold less1 lessOk
  generalize sub2 (sub2 n a) b = q at *
  generalize subOk (sub2 n a) b = o2 at *
  generalize sub2 n a = p at *
  generalize subOk n a = o1 at *
  by_cases h : q < 0
  · have hd : decide (q < 0) = true := decide_eq_true h
    rw [if_pos h, hd]
    clear hd
    go_enter Try.func40, Try.ntmps40
    go_wp2_with (go_at_call 41; (first | (with_reducible refine (c1 _).mono ?_) | (with_reducible refine (c2 _).mono ?_)); rintro e w2 ⟨rfl, rfl⟩)
    go_ret2
    exact ⟨rfl, rfl⟩
  · have hd : decide (q < 0) = false := decide_eq_false h
    have h' : 0 ≤ q := by omega
    rw [if_neg h, hd]
    clear hd h
    cases o1
    all_goals
      go_enter Try.func40, Try.ntmps40
      go_wp2_with (go_at_call 41; (first | (with_reducible refine (c1 _).mono ?_) | (with_reducible refine (c2 _).mono ?_)); rintro e w2 ⟨rfl, rfl⟩)
      go_ret2
      exact ⟨rfl, rfl⟩
set_option maxHeartbeats 2000000 in
set_option maxRecDepth 100000 in
theorem rmove_any (r : Plc) (x y : Int) (w : World) : Calls Try.prog 13 #[r.v, .int .i64 x, .int .i64 y] w fun e w' => e = .returned (.tuple #[(moveR r x y).v, .bool (moveOk r x y)]) ∧ Below w.heap.size w w' := by
  have c1 := fun w => rmay_any r w
  have c2 := fun w => radd_any r.x x w
  have c3 := fun w => radd_any r.y y w
  unfold moveR moveOk
  cases hm : mayB r with
  | false =>
    rw [hm] at c1
    clear hm
    obtain ⟨rx, ry, rw_, rh⟩ := r
    go_enter Try.func13, Try.ntmps13
    go_wp2_with (first
      | (go_at_call 21; (with_reducible refine (c1 _).mono ?_); rintro e w1 ⟨rfl, hb1⟩
         have hB1 := below_next (below_al (below_al (Below.refl _ _) _) _) hb1
         have L1 := (Blk.new (w.alloc _) 23 _).next hb1
         rw [size_al] at L1
         obtain ⟨q0, q1, q2, q3⟩ := blk4 L1
         obtain ⟨f0, f1, f2, f3⟩ := fz4 L1
         clear hb1))
    refine bodyPost_ret (v := .tuple #[.agg #[.int .i64 0, .int .i64 0, .int .i64 0, .int .i64 0], .bool false]) (by simp [results, Try.results13, go_sem, q0, q1, q2, q3]) rfl ⟨rfl, below_set4 hB1 (by omega) _ _ _ _⟩
  | true =>
    rw [hm] at c1
    clear hm
    generalize add2 r.x x = u at *
    generalize addOk r.x x = o1 at *
    generalize add2 r.y y = v at *
    generalize addOk r.y y = o2 at *
    obtain ⟨rx, ry, rw_, rh⟩ := r
    simp only at *
    cases o1
    all_goals
      go_enter Try.func13, Try.ntmps13
      go_wp2_with (first
        | (go_at_call 21; (with_reducible refine (c1 _).mono ?_); rintro e w1 ⟨rfl, hb1⟩
           have hB1 := below_next (below_al (below_al (Below.refl _ _) _) _) hb1
           have K1 := ((Blk.new w 23 _).alloc _).next hb1
           have L1 := (Blk.new (w.alloc _) 23 _).next hb1
           rw [size_al] at L1
           obtain ⟨p0, p1, p2, p3⟩ := blk4 K1
           obtain ⟨q0, q1, q2, q3⟩ := blk4 L1
           obtain ⟨f0, f1, f2, f3⟩ := fz4 L1
           clear hb1)
        | (go_at_call 37; (first | (with_reducible refine (c2 _).mono ?_) | (with_reducible refine (c3 _).mono ?_)); rintro e w2 ⟨rfl, rfl⟩))
    · refine bodyPost_ret (v := .tuple #[.agg #[.int .i64 u, .int .i64 v, .int .i64 rw_, .int .i64 rh], .bool false]) (by simp [results, Try.results13, go_sem, q0, q1, q2, q3]) rfl ⟨rfl, below_set4 hB1 (by omega) _ _ _ _⟩
    · refine bodyPost_ret (v := .tuple #[.agg #[.int .i64 u, .int .i64 v, .int .i64 rw_, .int .i64 rh], .bool o2]) (by simp [results, Try.results13, go_sem, q0, q1, q2, q3]) rfl ⟨rfl, below_set4 hB1 (by omega) _ _ _ _⟩
set_option maxHeartbeats 2000000 in
set_option maxRecDepth 100000 in
theorem rinset_any (r : Plc) (a b c d : Int) (w : World) : Calls Try.prog 15 #[r.v, .int .i64 a, .int .i64 b, .int .i64 c, .int .i64 d] w fun e w' => e = .returned (.tuple #[(insetR r a b c d).v, .bool (insetOk r a b c d)]) ∧ Below w.heap.size w w' := by
  have c1 := fun w => rmove_any r d a w
  have c2 := fun w => rmay_any r w
  have c3 := fun w => rless_any r.w d b w
  have c4 := fun w => rless_any r.h a c w
  unfold insetR insetOk
  unfold moveR moveOk at c1
  cases hm : mayB r with
  | false =>
    rw [hm] at c1 c2
    clear hm c3 c4
    simp only [Bool.false_and, Bool.false_eq_true, if_false] at c1
    obtain ⟨rx, ry, rw_, rh⟩ := r
    go_enter Try.func15, Try.ntmps15
    go_wp2_with (first
        | (go_at_call 13; (with_reducible refine (c1 _).mono ?_); rintro e w1 ⟨rfl, hb⟩
           have hB1 := below_next (below_al (below_al (Below.refl _ _) _) _) hb
           have Kk1 := ((Blk.new w 23 _).alloc _).next hb
           have Kl1 := (Blk.new (w.alloc _) 23 _).next hb
           simp only [size_al] at Kl1
           clear hb
           obtain ⟨ck0, ck1, ck2, ck3⟩ := blk4 Kk1
           have zk := Kk1.lt
           have nk : w.heap.size ≠ w1.heap.size := Nat.ne_of_lt zk
           obtain ⟨cl0, cl1, cl2, cl3⟩ := blk4 Kl1
           have zl := Kl1.lt
           have nl : w.heap.size + 1 ≠ w1.heap.size := Nat.ne_of_lt zl)
        | (go_at_call 21; (with_reducible refine (c2 _).mono ?_); rintro e w2 ⟨rfl, hb⟩
           have hB2 := below_next (below_al hB1 _) hb
           have Kk2 := (Kk1.alloc _).next hb
           have Kl2 := (Kl1.alloc _).next hb
           have Km2 := (Blk.new w1 23 _).next hb
           clear ck0 ck1 ck2 ck3 cl0 cl1 cl2 cl3 zk zl nk nl Kk1 Kl1
           clear hb
           obtain ⟨ck0, ck1, ck2, ck3⟩ := blk4 Kk2
           have zk := Kk2.lt
           have nk : w.heap.size ≠ w2.heap.size := Nat.ne_of_lt zk
           obtain ⟨cl0, cl1, cl2, cl3⟩ := blk4 Kl2
           have zl := Kl2.lt
           have nl : w.heap.size + 1 ≠ w2.heap.size := Nat.ne_of_lt zl
           obtain ⟨cm0, cm1, cm2, cm3⟩ := blk4 Km2
           have zm := Km2.lt
           have nm : w1.heap.size ≠ w2.heap.size := Nat.ne_of_lt zm
           obtain ⟨f0, f1, f2, f3⟩ := fz4 Kl2))
    refine bodyPost_ret (v := .tuple #[.agg #[.int .i64 0, .int .i64 0, .int .i64 0, .int .i64 0], .bool false]) (by simp [results, Try.results15, go_sem, cl0, cl1, cl2, cl3]) rfl ⟨rfl, below_set4 hB2 (by omega) _ _ _ _⟩
  | true =>
    rw [hm] at c1 c2
    clear hm
    simp only [Bool.true_and, if_true] at c1 ⊢
    generalize add2 r.x d = u at *
    generalize add2 r.y a = v at *
    generalize (addOk r.x d && addOk r.y a) = o at *
    generalize less1 r.w d b = p at *
    generalize less1 r.h a c = q at *
    generalize lessOk r.w d b = o1 at *
    generalize lessOk r.h a c = o2 at *
    obtain ⟨rx, ry, rw_, rh⟩ := r
    simp only at *
    cases o <;> cases o1
    all_goals
      go_enter Try.func15, Try.ntmps15
      go_wp2_with (first
        | (go_at_call 13; (with_reducible refine (c1 _).mono ?_); rintro e w1 ⟨rfl, hb⟩
           have hB1 := below_next (below_al (below_al (Below.refl _ _) _) _) hb
           have Kk1 := ((Blk.new w 23 _).alloc _).next hb
           have Kl1 := (Blk.new (w.alloc _) 23 _).next hb
           simp only [size_al] at Kl1
           clear hb
           obtain ⟨ck0, ck1, ck2, ck3⟩ := blk4 Kk1
           have zk := Kk1.lt
           have nk : w.heap.size ≠ w1.heap.size := Nat.ne_of_lt zk
           obtain ⟨cl0, cl1, cl2, cl3⟩ := blk4 Kl1
           have zl := Kl1.lt
           have nl : w.heap.size + 1 ≠ w1.heap.size := Nat.ne_of_lt zl)
        | (go_at_call 21; (with_reducible refine (c2 _).mono ?_); rintro e w2 ⟨rfl, hb⟩
           have hB2 := below_next (below_al hB1 _) hb
           have Kk2 := (Kk1.alloc _).next hb
           have Kl2 := (Kl1.alloc _).next hb
           have Km2 := (Blk.new w1 23 _).next hb
           clear ck0 ck1 ck2 ck3 cl0 cl1 cl2 cl3 zk zl nk nl Kk1 Kl1
           clear hb
           obtain ⟨ck0, ck1, ck2, ck3⟩ := blk4 Kk2
           have zk := Kk2.lt
           have nk : w.heap.size ≠ w2.heap.size := Nat.ne_of_lt zk
           obtain ⟨cl0, cl1, cl2, cl3⟩ := blk4 Kl2
           have zl := Kl2.lt
           have nl : w.heap.size + 1 ≠ w2.heap.size := Nat.ne_of_lt zl
           obtain ⟨cm0, cm1, cm2, cm3⟩ := blk4 Km2
           have zm := Km2.lt
           have nm : w1.heap.size ≠ w2.heap.size := Nat.ne_of_lt zm
           obtain ⟨f0, f1, f2, f3⟩ := fz4 Kl2)
        | (go_at_call 40; (first | (with_reducible refine (c3 _).mono ?_) | (with_reducible refine (c4 _).mono ?_)); rintro e w2 ⟨rfl, rfl⟩))
    · refine bodyPost_ret (v := .tuple #[.agg #[.int .i64 u, .int .i64 v, .int .i64 p, .int .i64 q], .bool false]) (by simp [results, Try.results15, go_sem, cl0, cl1, cl2, cl3]) rfl ⟨rfl, below_set4 hB2 (by omega) _ _ _ _⟩
    · refine bodyPost_ret (v := .tuple #[.agg #[.int .i64 u, .int .i64 v, .int .i64 p, .int .i64 q], .bool false]) (by simp [results, Try.results15, go_sem, cl0, cl1, cl2, cl3]) rfl ⟨rfl, below_set4 hB2 (by omega) _ _ _ _⟩
    · refine bodyPost_ret (v := .tuple #[.agg #[.int .i64 u, .int .i64 v, .int .i64 p, .int .i64 q], .bool false]) (by simp [results, Try.results15, go_sem, cl0, cl1, cl2, cl3]) rfl ⟨rfl, below_set4 hB2 (by omega) _ _ _ _⟩
    · refine bodyPost_ret (v := .tuple #[.agg #[.int .i64 u, .int .i64 v, .int .i64 p, .int .i64 q], .bool o2]) (by simp [results, Try.results15, go_sem, cl0, cl1, cl2, cl3]) rfl ⟨rfl, below_set4 hB2 (by omega) _ _ _ _⟩
end Go.Proofs.Ytabijoohoofogaa
