/- What the landed package rect's Meet answers. Conditions: none. -/
import Derived.Test.YtabijoohoofogaaRectCodeA
import Derived.Deep.QuietTactic
import Derived.BigQuiet
namespace Go.Proofs.Ytabijoohoofogaa
open Go.ChangeShapes Go.WideShapes Go.ChangeAt Go.RowKit
theorem meet_parts (a b : Plc) (h : min (a.x + a.w) (b.x + b.w) - max a.x b.x ≤ 0 ∨ min (a.y + a.h) (b.y + b.h) - max a.y b.y ≤ 0) : meetB a b = false ∧ meetR a b = .zero := by
  have e : meetB a b = false := by
    cases hm : meetB a b with
    | false => rfl
    | true => have := meetB_iff.1 hm; omega
  exact ⟨e, meetR_no e⟩
theorem meet_whole (a b : Plc) (ha : mayB a = true) (hb : mayB b = true) (h1 : 0 < min (a.x + a.w) (b.x + b.w) - max a.x b.x) (h2 : 0 < min (a.y + a.h) (b.y + b.h) - max a.y b.y) :
    meetB a b = true ∧ meetR a b = ⟨max a.x b.x, max a.y b.y, min (a.x + a.w) (b.x + b.w) - max a.x b.x, min (a.y + a.h) (b.y + b.h) - max a.y b.y⟩ := by
  have e : meetB a b = true := meetB_iff.2 ⟨ha, hb, by omega, by omega⟩
  exact ⟨e, meetR_yes e⟩
theorem meet_not (a b : Plc) (h : mayB a = false ∨ mayB b = false) : meetB a b = false ∧ meetR a b = .zero := by
  have e : meetB a b = false := by
    unfold meetB
    rcases h with h | h <;> rw [h] <;> simp
  exact ⟨e, meetR_no e⟩
set_option maxHeartbeats 4000000 in
set_option maxRecDepth 100000 in
theorem meet_any : MeetC := by
  intro a b w
  have c1 := fun w => may_any a w
  have c2 := fun w => may_any b w
  cases ha : mayB a
  · obtain ⟨e1, e2⟩ := meet_not a b (Or.inl ha)
    rw [e1, e2]; clear e1 e2
    rw [ha] at c1
    obtain ⟨ax, ay, aw, ah⟩ := a
    obtain ⟨bx, by_, bw, bh⟩ := b
    clear ha c2
    go_enter Try.func18, Try.ntmps18
    go_wp2_with (go_at_call 20; (with_reducible refine (c1 _).mono ?_); rintro e w1 ⟨rfl, hb⟩
                 have hB1 := below_next (below_al (below_al (below_al (Below.refl _ _) _) _) _) hb
                 have Ka1 := (((Blk.new w 23 _).alloc _).alloc _).next hb
                 have Kb1 := ((Blk.new (w.alloc _) 23 _).alloc _).next hb
                 simp only [size_al] at Kb1
                 have Kr1 := (Blk.new ((w.alloc _).alloc _) 23 _).next hb
                 simp only [size_al] at Kr1
                 clear hb
                 obtain ⟨ca0, ca1, ca2, ca3⟩ := blk4 Ka1
                 have za := Ka1.lt
                 have na : w.heap.size ≠ w1.heap.size := Nat.ne_of_lt za
                 obtain ⟨cb0, cb1, cb2, cb3⟩ := blk4 Kb1
                 have zb := Kb1.lt
                 have nb : w.heap.size + 1 ≠ w1.heap.size := Nat.ne_of_lt zb
                 obtain ⟨cr0, cr1, cr2, cr3⟩ := blk4 Kr1
                 have zr := Kr1.lt
                 have nr : w.heap.size + 2 ≠ w1.heap.size := Nat.ne_of_lt zr
                 obtain ⟨f0, f1, f2, f3⟩ := fz4 Kr1)
    exact bodyPost_ret (v := .tuple #[.agg #[.int .i64 0, .int .i64 0, .int .i64 0, .int .i64 0], .bool false]) (by simp [results, Try.results18, go_sem, cr0, cr1, cr2, cr3]) rfl ⟨rfl, below_set4 hB1 (by omega) _ _ _ _⟩
  · cases hb : mayB b
    · obtain ⟨e1, e2⟩ := meet_not a b (Or.inr hb)
      rw [e1, e2]; clear e1 e2
      rw [ha] at c1
      rw [hb] at c2
      obtain ⟨ax, ay, aw, ah⟩ := a
      obtain ⟨bx, by_, bw, bh⟩ := b
      clear ha hb
      go_enter Try.func18, Try.ntmps18
      go_wp2_with (first
        | (go_at_call 20; (with_reducible refine (c1 _).mono ?_); rintro e w1 ⟨rfl, hb⟩
           have hB1 := below_next (below_al (below_al (below_al (Below.refl _ _) _) _) _) hb
           have Ka1 := (((Blk.new w 23 _).alloc _).alloc _).next hb
           have Kb1 := ((Blk.new (w.alloc _) 23 _).alloc _).next hb
           simp only [size_al] at Kb1
           have Kr1 := (Blk.new ((w.alloc _).alloc _) 23 _).next hb
           simp only [size_al] at Kr1
           clear hb
           obtain ⟨ca0, ca1, ca2, ca3⟩ := blk4 Ka1
           have za := Ka1.lt
           have na : w.heap.size ≠ w1.heap.size := Nat.ne_of_lt za
           obtain ⟨cb0, cb1, cb2, cb3⟩ := blk4 Kb1
           have zb := Kb1.lt
           have nb : w.heap.size + 1 ≠ w1.heap.size := Nat.ne_of_lt zb
           obtain ⟨cr0, cr1, cr2, cr3⟩ := blk4 Kr1
           have zr := Kr1.lt
           have nr : w.heap.size + 2 ≠ w1.heap.size := Nat.ne_of_lt zr
           obtain ⟨f0, f1, f2, f3⟩ := fz4 Kr1)
        | (go_at_call 20; (with_reducible refine (c2 _).mono ?_); rintro e w2 ⟨rfl, hb⟩
           have hB2 := below_next hB1 hb
           have Ka2 := Ka1.next hb
           have Kb2 := Kb1.next hb
           have Kr2 := Kr1.next hb
           clear ca0 ca1 ca2 ca3 cb0 cb1 cb2 cb3 cr0 cr1 cr2 cr3 za zb zr na nb nr Ka1 Kb1 Kr1
           clear hb
           obtain ⟨ca0, ca1, ca2, ca3⟩ := blk4 Ka2
           have za := Ka2.lt
           have na : w.heap.size ≠ w2.heap.size := Nat.ne_of_lt za
           obtain ⟨cb0, cb1, cb2, cb3⟩ := blk4 Kb2
           have zb := Kb2.lt
           have nb : w.heap.size + 1 ≠ w2.heap.size := Nat.ne_of_lt zb
           obtain ⟨cr0, cr1, cr2, cr3⟩ := blk4 Kr2
           have zr := Kr2.lt
           have nr : w.heap.size + 2 ≠ w2.heap.size := Nat.ne_of_lt zr
           clear f0 f1 f2 f3
           obtain ⟨f0, f1, f2, f3⟩ := fz4 Kr2))
      exact bodyPost_ret (v := .tuple #[.agg #[.int .i64 0, .int .i64 0, .int .i64 0, .int .i64 0], .bool false]) (by simp [results, Try.results18, go_sem, cr0, cr1, cr2, cr3]) rfl ⟨rfl, below_set4 hB2 (by omega) _ _ _ _⟩
    · have m1 := mayB_iff.1 ha
      have m2 := mayB_iff.1 hb
      rw [ha] at c1
      rw [hb] at c2
      have P1 := Lib.hid (meet_parts a b)
      have P2 := Lib.hid (meet_whole a b ha hb)
      clear ha hb
      generalize meetB a b = B at *
      generalize meetR a b = R at *
      obtain ⟨ax, ay, aw, ah⟩ := a
      obtain ⟨bx, by_, bw, bh⟩ := b
      simp only at m1 m2 P1 P2
      obtain ⟨p1, p2, p3, p4, p5, p6, p7, p8⟩ := m1
      obtain ⟨q1, q2, q3, q4, q5, q6, q7, q8⟩ := m2
      have s1 := IntWalk.i64_in (ax + aw) (by omega)
      have s2 := IntWalk.i64_in (bx + bw) (by omega)
      have s3 := IntWalk.i64_in (ay + ah) (by omega)
      have s4 := IntWalk.i64_in (by_ + bh) (by omega)
      have s5 := IntWalk.i64_in (min (ax + aw) (bx + bw) - max ax bx) (by omega)
      have s6 := IntWalk.i64_in (min (ay + ah) (by_ + bh) - max ay by_) (by omega)
      go_enter Try.func18, Try.ntmps18
      go_wp2_with (first
        | (go_at_call 20; (with_reducible refine (c1 _).mono ?_); rintro e w1 ⟨rfl, hb⟩
           have hB1 := below_next (below_al (below_al (below_al (Below.refl _ _) _) _) _) hb
           have Ka1 := (((Blk.new w 23 _).alloc _).alloc _).next hb
           have Kb1 := ((Blk.new (w.alloc _) 23 _).alloc _).next hb
           simp only [size_al] at Kb1
           have Kr1 := (Blk.new ((w.alloc _).alloc _) 23 _).next hb
           simp only [size_al] at Kr1
           clear hb
           obtain ⟨ca0, ca1, ca2, ca3⟩ := blk4 Ka1
           have za := Ka1.lt
           have na : w.heap.size ≠ w1.heap.size := Nat.ne_of_lt za
           obtain ⟨cb0, cb1, cb2, cb3⟩ := blk4 Kb1
           have zb := Kb1.lt
           have nb : w.heap.size + 1 ≠ w1.heap.size := Nat.ne_of_lt zb
           obtain ⟨cr0, cr1, cr2, cr3⟩ := blk4 Kr1
           have zr := Kr1.lt
           have nr : w.heap.size + 2 ≠ w1.heap.size := Nat.ne_of_lt zr
           obtain ⟨f0, f1, f2, f3⟩ := fz4 Kr1)
        | (go_at_call 20; (with_reducible refine (c2 _).mono ?_); rintro e w2 ⟨rfl, hb⟩
           have hB2 := below_next hB1 hb
           have Ka2 := Ka1.next hb
           have Kb2 := Kb1.next hb
           have Kr2 := Kr1.next hb
           clear ca0 ca1 ca2 ca3 cb0 cb1 cb2 cb3 cr0 cr1 cr2 cr3 za zb zr na nb nr Ka1 Kb1 Kr1
           clear hb
           obtain ⟨ca0, ca1, ca2, ca3⟩ := blk4 Ka2
           have za := Ka2.lt
           have na : w.heap.size ≠ w2.heap.size := Nat.ne_of_lt za
           obtain ⟨cb0, cb1, cb2, cb3⟩ := blk4 Kb2
           have zb := Kb2.lt
           have nb : w.heap.size + 1 ≠ w2.heap.size := Nat.ne_of_lt zb
           obtain ⟨cr0, cr1, cr2, cr3⟩ := blk4 Kr2
           have zr := Kr2.lt
           have nr : w.heap.size + 2 ≠ w2.heap.size := Nat.ne_of_lt zr
           clear f0 f1 f2 f3
           obtain ⟨f0, f1, f2, f3⟩ := fz4 Kr2))
      go_quiet (fail)
      go_wp2
      go_quiet (fail)
      clear s1 s2 s3 s4 s5 s6
      generalize hW : min (ax + aw) (bx + bw) - max ax bx = W at *
      generalize hH : min (ay + ah) (by_ + bh) - max ay by_ = H at *
      have HW := Lib.hid hW
      have HH := Lib.hid hH
      clear hW hH
      go_wp2
      all_goals
        first
        | (have hh : W ≤ 0 ∨ H ≤ 0 := by omega
           obtain ⟨rfl, rfl⟩ := P1.out hh
           exact bodyPost_ret (v := .tuple #[.agg #[.int .i64 0, .int .i64 0, .int .i64 0, .int .i64 0], .bool false]) (by simp [results, Try.results18, go_sem, cr0, cr1, cr2, cr3]) rfl ⟨rfl, below_set4 (below_dr hB2 _) (by omega) _ _ _ _⟩)
        | (have h1 : 0 < W := by omega
           have h2 : 0 < H := by omega
           obtain ⟨rfl, rfl⟩ := P2.out h1 h2
           exact bodyPost_ret (v := .tuple #[.agg #[.int .i64 (max ax bx), .int .i64 (max ay by_), .int .i64 W, .int .i64 H], .bool true]) (by simp [results, Try.results18, go_sem, cr0, cr1, cr2, cr3]) rfl ⟨rfl, below_set4 (below_dr hB2 _) (by omega) _ _ _ _⟩)
end Go.Proofs.Ytabijoohoofogaa
