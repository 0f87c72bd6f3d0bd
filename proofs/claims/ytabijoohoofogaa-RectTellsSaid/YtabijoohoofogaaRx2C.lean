/- What the document's own Meet of layer 2 answers. Conditions: none. -/
import Derived.Test.YtabijoohoofogaaRx2B
import Derived.Lib.MinMax
namespace Go.Proofs.Ytabijoohoofogaa
open Go.ChangeShapes Go.WideShapes Go.ChangeAt Go.RowKit
theorem meetB_has {a b : Plc} (ha : mayB a = true) (hb : mayB b = true) : meetB a b = (hasB a (max a.x b.x) (max a.y b.y) && hasB b (max a.x b.x) (max a.y b.y)) := by
  apply bool_ext
  rw [meetB_iff, Bool.and_eq_true, hasB_iff, hasB_iff]
  have h1 := mayB_iff.1 ha
  have h2 := mayB_iff.1 hb
  constructor
  · rintro ⟨_, _, _, _⟩; exact ⟨⟨ha, by omega, by omega, by omega, by omega⟩, hb, by omega, by omega, by omega, by omega⟩
  · rintro ⟨⟨_, _, _, _, _⟩, _, _, _, _, _⟩; exact ⟨ha, hb, by omega, by omega⟩
set_option maxHeartbeats 4000000 in
set_option maxRecDepth 100000 in
theorem rmeet_any (a b : Plc) (w : World) : Calls Try.prog 19 #[a.v, b.v] w fun e w' => e = .returned (.tuple #[(meetR a b).v, .bool (meetB a b)]) ∧ Below w.heap.size w w' := by
  have c1 := fun w => rmay_any a w
  have c2 := fun w => rmay_any b w
  cases ha : mayB a with
  | false =>
    have hm : meetB a b = false := by unfold meetB; rw [ha]; rfl
    rw [ha] at c1
    rw [meetR_no hm, hm]
    clear hm ha c2
    obtain ⟨ax, ay, aw, ah⟩ := a
    obtain ⟨bx, by_, bw, bh⟩ := b
    go_enter Try.func19, Try.ntmps19
    go_wp2_with (first
      | (go_at_call 21; (with_reducible refine (c1 _).mono ?_); rintro e w1 ⟨rfl, hb⟩
         have hB1 := below_next (below_al (below_al (below_al (Below.refl _ _) _) _) _) hb
         have Ka1 := (((Blk.new w 23 _).alloc _).alloc _).next hb
         have Kb1 := ((Blk.new (w.alloc _) 23 _).alloc _).next hb
         simp only [size_al] at Kb1
         have Kr1 := (Blk.new ((w.alloc _).alloc _) 23 _).next hb
         simp only [size_al] at Kr1
         clear hb
         obtain ⟨ca0, ca1, ca2, ca3⟩ := blk4 Ka1
         have za := Ka1.lt
         have na : w.heap.size ≠ w1.heap.size := Nat.ne_of_lt za
         obtain ⟨cb0, cb1, cb2, cb3⟩ := blk4 Kb1
         have zb := Kb1.lt
         have nb : w.heap.size + 1 ≠ w1.heap.size := Nat.ne_of_lt zb
         obtain ⟨cr0, cr1, cr2, cr3⟩ := blk4 Kr1
         have zr := Kr1.lt
         have nr : w.heap.size + 2 ≠ w1.heap.size := Nat.ne_of_lt zr
         obtain ⟨f0, f1, f2, f3⟩ := fz4 Kr1))
    refine bodyPost_ret (v := .tuple #[.agg #[.int .i64 0, .int .i64 0, .int .i64 0, .int .i64 0], .bool false]) (by simp [results, Try.results19, go_sem, cr0, cr1, cr2, cr3]) rfl ⟨rfl, below_set4 hB1 (by omega) _ _ _ _⟩
  | true =>
    rw [ha] at c1
    cases hb : mayB b with
    | false =>
      have hm : meetB a b = false := by unfold meetB; rw [ha, hb]; rfl
      rw [hb] at c2
      rw [meetR_no hm, hm]
      clear hm ha hb
      obtain ⟨ax, ay, aw, ah⟩ := a
      obtain ⟨bx, by_, bw, bh⟩ := b
      go_enter Try.func19, Try.ntmps19
      go_wp2_with (first
        | (go_at_call 21; (with_reducible refine (c1 _).mono ?_); rintro e w1 ⟨rfl, hb⟩
           have hB1 := below_next (below_al (below_al (below_al (Below.refl _ _) _) _) _) hb
           have Ka1 := (((Blk.new w 23 _).alloc _).alloc _).next hb
           have Kb1 := ((Blk.new (w.alloc _) 23 _).alloc _).next hb
           simp only [size_al] at Kb1
           have Kr1 := (Blk.new ((w.alloc _).alloc _) 23 _).next hb
           simp only [size_al] at Kr1
           clear hb
           obtain ⟨ca0, ca1, ca2, ca3⟩ := blk4 Ka1
           have za := Ka1.lt
           have na : w.heap.size ≠ w1.heap.size := Nat.ne_of_lt za
           obtain ⟨cb0, cb1, cb2, cb3⟩ := blk4 Kb1
           have zb := Kb1.lt
           have nb : w.heap.size + 1 ≠ w1.heap.size := Nat.ne_of_lt zb
           obtain ⟨cr0, cr1, cr2, cr3⟩ := blk4 Kr1
           have zr := Kr1.lt
           have nr : w.heap.size + 2 ≠ w1.heap.size := Nat.ne_of_lt zr
           obtain ⟨f0, f1, f2, f3⟩ := fz4 Kr1)
        | (go_at_call 21; (with_reducible refine (c2 _).mono ?_); rintro e w2 ⟨rfl, hb⟩
           have hB2 := below_next hB1 hb
           have Ka2 := Ka1.next hb
           have Kb2 := Kb1.next hb
           have Kr2 := Kr1.next hb
           clear ca0 ca1 ca2 ca3 cb0 cb1 cb2 cb3 cr0 cr1 cr2 cr3 za zb zr na nb nr Ka1 Kb1 Kr1
           clear hb
           obtain ⟨ca0, ca1, ca2, ca3⟩ := blk4 Ka2
           have za := Ka2.lt
           have na : w.heap.size ≠ w2.heap.size := Nat.ne_of_lt za
           obtain ⟨cb0, cb1, cb2, cb3⟩ := blk4 Kb2
           have zb := Kb2.lt
           have nb : w.heap.size + 1 ≠ w2.heap.size := Nat.ne_of_lt zb
           obtain ⟨cr0, cr1, cr2, cr3⟩ := blk4 Kr2
           have zr := Kr2.lt
           have nr : w.heap.size + 2 ≠ w2.heap.size := Nat.ne_of_lt zr
           clear f0 f1 f2 f3
           obtain ⟨f0, f1, f2, f3⟩ := fz4 Kr2))
      refine bodyPost_ret (v := .tuple #[.agg #[.int .i64 0, .int .i64 0, .int .i64 0, .int .i64 0], .bool false]) (by simp [results, Try.results19, go_sem, cr0, cr1, cr2, cr3]) rfl ⟨rfl, below_set4 hB2 (by omega) _ _ _ _⟩
    | true =>
      rw [hb] at c2
      have c3 := fun w => rhas_any a (max a.x b.x) (max a.y b.y) w
      have c4 := fun w => rhas_any b (max a.x b.x) (max a.y b.y) w
      have hmB := meetB_has ha hb
      obtain ⟨m1, m2, m3, m4, m5, m6, m7, m8⟩ := mayB_iff.1 ha
      obtain ⟨k1, k2, k3, k4, k5, k6, k7, k8⟩ := mayB_iff.1 hb
      clear ha hb
      cases h3 : hasB a (max a.x b.x) (max a.y b.y) with
      | false =>
        rw [h3, Bool.false_and] at hmB
        rw [h3] at c3
        rw [meetR_no hmB, hmB]
        clear hmB h3 c4
        obtain ⟨ax, ay, aw, ah⟩ := a
        obtain ⟨bx, by_, bw, bh⟩ := b
        simp only at *
        go_enter Try.func19, Try.ntmps19
        go_wp2_with (first
          | (go_at_call 21; (with_reducible refine (c1 _).mono ?_); rintro e w1 ⟨rfl, hb⟩
             have hB1 := below_next (below_al (below_al (below_al (Below.refl _ _) _) _) _) hb
             have Ka1 := (((Blk.new w 23 _).alloc _).alloc _).next hb
             have Kb1 := ((Blk.new (w.alloc _) 23 _).alloc _).next hb
             simp only [size_al] at Kb1
             have Kr1 := (Blk.new ((w.alloc _).alloc _) 23 _).next hb
             simp only [size_al] at Kr1
             clear hb
             obtain ⟨ca0, ca1, ca2, ca3⟩ := blk4 Ka1
             have za := Ka1.lt
             have na : w.heap.size ≠ w1.heap.size := Nat.ne_of_lt za
             obtain ⟨cb0, cb1, cb2, cb3⟩ := blk4 Kb1
             have zb := Kb1.lt
             have nb : w.heap.size + 1 ≠ w1.heap.size := Nat.ne_of_lt zb
             obtain ⟨cr0, cr1, cr2, cr3⟩ := blk4 Kr1
             have zr := Kr1.lt
             have nr : w.heap.size + 2 ≠ w1.heap.size := Nat.ne_of_lt zr
             obtain ⟨f0, f1, f2, f3⟩ := fz4 Kr1)
          | (go_at_call 21; (with_reducible refine (c2 _).mono ?_); rintro e w2 ⟨rfl, hb⟩
             have hB2 := below_next hB1 hb
             have Ka2 := Ka1.next hb
             have Kb2 := Kb1.next hb
             have Kr2 := Kr1.next hb
             clear ca0 ca1 ca2 ca3 cb0 cb1 cb2 cb3 cr0 cr1 cr2 cr3 za zb zr na nb nr Ka1 Kb1 Kr1
             clear hb
             obtain ⟨ca0, ca1, ca2, ca3⟩ := blk4 Ka2
             have za := Ka2.lt
             have na : w.heap.size ≠ w2.heap.size := Nat.ne_of_lt za
             obtain ⟨cb0, cb1, cb2, cb3⟩ := blk4 Kb2
             have zb := Kb2.lt
             have nb : w.heap.size + 1 ≠ w2.heap.size := Nat.ne_of_lt zb
             obtain ⟨cr0, cr1, cr2, cr3⟩ := blk4 Kr2
             have zr := Kr2.lt
             have nr : w.heap.size + 2 ≠ w2.heap.size := Nat.ne_of_lt zr
             clear f0 f1 f2 f3
             obtain ⟨f0, f1, f2, f3⟩ := fz4 Kr2)
          | (go_at_call 23; (with_reducible refine (c3 _).mono ?_); rintro e w3 ⟨rfl, hb⟩
             have hB3 := below_next (below_al hB2 _) hb
             have Ka3 := (Ka2.alloc _).next hb
             have Kb3 := (Kb2.alloc _).next hb
             have Kr3 := (Kr2.alloc _).next hb
             have Km3 := (Blk.new w2 23 _).next hb
             clear ca0 ca1 ca2 ca3 cb0 cb1 cb2 cb3 cr0 cr1 cr2 cr3 za zb zr na nb nr Ka2 Kb2 Kr2
             clear hb
             obtain ⟨ca0, ca1, ca2, ca3⟩ := blk4 Ka3
             have za := Ka3.lt
             have na : w.heap.size ≠ w3.heap.size := Nat.ne_of_lt za
             obtain ⟨cb0, cb1, cb2, cb3⟩ := blk4 Kb3
             have zb := Kb3.lt
             have nb : w.heap.size + 1 ≠ w3.heap.size := Nat.ne_of_lt zb
             obtain ⟨cr0, cr1, cr2, cr3⟩ := blk4 Kr3
             have zr := Kr3.lt
             have nr : w.heap.size + 2 ≠ w3.heap.size := Nat.ne_of_lt zr
             obtain ⟨cm0, cm1, cm2, cm3⟩ := blk4 Km3
             have zm := Km3.lt
             have nm : w2.heap.size ≠ w3.heap.size := Nat.ne_of_lt zm
             clear f0 f1 f2 f3
             obtain ⟨f0, f1, f2, f3⟩ := fz4 Kr3))
        refine bodyPost_ret (v := .tuple #[.agg #[.int .i64 0, .int .i64 0, .int .i64 0, .int .i64 0], .bool false]) (by simp [results, Try.results19, go_sem, cr0, cr1, cr2, cr3]) rfl ⟨rfl, below_set4 hB3 (by omega) _ _ _ _⟩
      | true =>
        rw [h3, Bool.true_and] at hmB
        rw [h3] at c3
        clear h3
        cases h4 : hasB b (max a.x b.x) (max a.y b.y) with
        | false =>
          rw [h4] at hmB c4
          rw [meetR_no hmB, hmB]
          clear hmB h4
          obtain ⟨ax, ay, aw, ah⟩ := a
          obtain ⟨bx, by_, bw, bh⟩ := b
          simp only at *
          go_enter Try.func19, Try.ntmps19
          go_wp2_with (first
            | (go_at_call 21; (with_reducible refine (c1 _).mono ?_); rintro e w1 ⟨rfl, hb⟩
               have hB1 := below_next (below_al (below_al (below_al (Below.refl _ _) _) _) _) hb
               have Ka1 := (((Blk.new w 23 _).alloc _).alloc _).next hb
               have Kb1 := ((Blk.new (w.alloc _) 23 _).alloc _).next hb
               simp only [size_al] at Kb1
               have Kr1 := (Blk.new ((w.alloc _).alloc _) 23 _).next hb
               simp only [size_al] at Kr1
               clear hb
               obtain ⟨ca0, ca1, ca2, ca3⟩ := blk4 Ka1
               have za := Ka1.lt
               have na : w.heap.size ≠ w1.heap.size := Nat.ne_of_lt za
               obtain ⟨cb0, cb1, cb2, cb3⟩ := blk4 Kb1
               have zb := Kb1.lt
               have nb : w.heap.size + 1 ≠ w1.heap.size := Nat.ne_of_lt zb
               obtain ⟨cr0, cr1, cr2, cr3⟩ := blk4 Kr1
               have zr := Kr1.lt
               have nr : w.heap.size + 2 ≠ w1.heap.size := Nat.ne_of_lt zr
               obtain ⟨f0, f1, f2, f3⟩ := fz4 Kr1)
            | (go_at_call 21; (with_reducible refine (c2 _).mono ?_); rintro e w2 ⟨rfl, hb⟩
               have hB2 := below_next hB1 hb
               have Ka2 := Ka1.next hb
               have Kb2 := Kb1.next hb
               have Kr2 := Kr1.next hb
               clear ca0 ca1 ca2 ca3 cb0 cb1 cb2 cb3 cr0 cr1 cr2 cr3 za zb zr na nb nr Ka1 Kb1 Kr1
               clear hb
               obtain ⟨ca0, ca1, ca2, ca3⟩ := blk4 Ka2
               have za := Ka2.lt
               have na : w.heap.size ≠ w2.heap.size := Nat.ne_of_lt za
               obtain ⟨cb0, cb1, cb2, cb3⟩ := blk4 Kb2
               have zb := Kb2.lt
               have nb : w.heap.size + 1 ≠ w2.heap.size := Nat.ne_of_lt zb
               obtain ⟨cr0, cr1, cr2, cr3⟩ := blk4 Kr2
               have zr := Kr2.lt
               have nr : w.heap.size + 2 ≠ w2.heap.size := Nat.ne_of_lt zr
               clear f0 f1 f2 f3
               obtain ⟨f0, f1, f2, f3⟩ := fz4 Kr2)
            | (go_at_call 23; (with_reducible refine (c3 _).mono ?_); rintro e w3 ⟨rfl, hb⟩
               have hB3 := below_next (below_al hB2 _) hb
               have Ka3 := (Ka2.alloc _).next hb
               have Kb3 := (Kb2.alloc _).next hb
               have Kr3 := (Kr2.alloc _).next hb
               have Km3 := (Blk.new w2 23 _).next hb
               clear ca0 ca1 ca2 ca3 cb0 cb1 cb2 cb3 cr0 cr1 cr2 cr3 za zb zr na nb nr Ka2 Kb2 Kr2
               clear hb
               obtain ⟨ca0, ca1, ca2, ca3⟩ := blk4 Ka3
               have za := Ka3.lt
               have na : w.heap.size ≠ w3.heap.size := Nat.ne_of_lt za
               obtain ⟨cb0, cb1, cb2, cb3⟩ := blk4 Kb3
               have zb := Kb3.lt
               have nb : w.heap.size + 1 ≠ w3.heap.size := Nat.ne_of_lt zb
               obtain ⟨cr0, cr1, cr2, cr3⟩ := blk4 Kr3
               have zr := Kr3.lt
               have nr : w.heap.size + 2 ≠ w3.heap.size := Nat.ne_of_lt zr
               obtain ⟨cm0, cm1, cm2, cm3⟩ := blk4 Km3
               have zm := Km3.lt
               have nm : w2.heap.size ≠ w3.heap.size := Nat.ne_of_lt zm
               clear f0 f1 f2 f3
               obtain ⟨f0, f1, f2, f3⟩ := fz4 Kr3)
            | (go_at_call 23; (with_reducible refine (c4 _).mono ?_); rintro e w4 ⟨rfl, hb⟩
               have hB4 := below_next hB3 hb
               have Ka4 := Ka3.next hb
               have Kb4 := Kb3.next hb
               have Kr4 := Kr3.next hb
               have Km4 := Km3.next hb
               clear ca0 ca1 ca2 ca3 cb0 cb1 cb2 cb3 cr0 cr1 cr2 cr3 cm0 cm1 cm2 cm3 za zb zr zm na nb nr nm Ka3 Kb3 Kr3 Km3
               clear hb
               obtain ⟨ca0, ca1, ca2, ca3⟩ := blk4 Ka4
               have za := Ka4.lt
               have na : w.heap.size ≠ w4.heap.size := Nat.ne_of_lt za
               obtain ⟨cb0, cb1, cb2, cb3⟩ := blk4 Kb4
               have zb := Kb4.lt
               have nb : w.heap.size + 1 ≠ w4.heap.size := Nat.ne_of_lt zb
               obtain ⟨cr0, cr1, cr2, cr3⟩ := blk4 Kr4
               have zr := Kr4.lt
               have nr : w.heap.size + 2 ≠ w4.heap.size := Nat.ne_of_lt zr
               obtain ⟨cm0, cm1, cm2, cm3⟩ := blk4 Km4
               have zm := Km4.lt
               have nm : w2.heap.size ≠ w4.heap.size := Nat.ne_of_lt zm
               clear f0 f1 f2 f3
               obtain ⟨f0, f1, f2, f3⟩ := fz4 Kr4))
          refine bodyPost_ret (v := .tuple #[.agg #[.int .i64 0, .int .i64 0, .int .i64 0, .int .i64 0], .bool false]) (by simp [results, Try.results19, go_sem, cr0, cr1, cr2, cr3]) rfl ⟨rfl, below_set4 hB4 (by omega) _ _ _ _⟩
        | true =>
          rw [h4] at hmB c4
          rw [meetR_yes hmB, hmB]
          clear hmB h4
          obtain ⟨ax, ay, aw, ah⟩ := a
          obtain ⟨bx, by_, bw, bh⟩ := b
          simp only at *
          have g1 : -1099511627776 ≤ ax + aw := by omega
          have g2 : ax + aw ≤ 2199023255552 := by omega
          have g3 : -1099511627776 ≤ bx + bw := by omega
          have g4 : bx + bw ≤ 2199023255552 := by omega
          have g5 : -1099511627776 ≤ ay + ah := by omega
          have g6 : ay + ah ≤ 2199023255552 := by omega
          have g7 : -1099511627776 ≤ by_ + bh := by omega
          have g8 : by_ + bh ≤ 2199023255552 := by omega
          have g9 : -1099511627776 ≤ min (ax + aw) (bx + bw) := by omega
          have g10 : min (ax + aw) (bx + bw) ≤ 2199023255552 := by omega
          have g11 : -1099511627776 ≤ min (ay + ah) (by_ + bh) := by omega
          have g12 : min (ay + ah) (by_ + bh) ≤ 2199023255552 := by omega
          have g13 : -1099511627776 ≤ max ax bx := by omega
          have g14 : max ax bx ≤ 1099511627776 := by omega
          have g15 : -1099511627776 ≤ max ay by_ := by omega
          have g16 : max ay by_ ≤ 1099511627776 := by omega
          go_enter Try.func19, Try.ntmps19
          go_wp2_with (first
            | (go_at_call 21; (with_reducible refine (c1 _).mono ?_); rintro e w1 ⟨rfl, hb⟩
               have hB1 := below_next (below_al (below_al (below_al (Below.refl _ _) _) _) _) hb
               have Ka1 := (((Blk.new w 23 _).alloc _).alloc _).next hb
               have Kb1 := ((Blk.new (w.alloc _) 23 _).alloc _).next hb
               simp only [size_al] at Kb1
               have Kr1 := (Blk.new ((w.alloc _).alloc _) 23 _).next hb
               simp only [size_al] at Kr1
               clear hb
               obtain ⟨ca0, ca1, ca2, ca3⟩ := blk4 Ka1
               have za := Ka1.lt
               have na : w.heap.size ≠ w1.heap.size := Nat.ne_of_lt za
               obtain ⟨cb0, cb1, cb2, cb3⟩ := blk4 Kb1
               have zb := Kb1.lt
               have nb : w.heap.size + 1 ≠ w1.heap.size := Nat.ne_of_lt zb
               obtain ⟨cr0, cr1, cr2, cr3⟩ := blk4 Kr1
               have zr := Kr1.lt
               have nr : w.heap.size + 2 ≠ w1.heap.size := Nat.ne_of_lt zr
               obtain ⟨f0, f1, f2, f3⟩ := fz4 Kr1)
            | (go_at_call 21; (with_reducible refine (c2 _).mono ?_); rintro e w2 ⟨rfl, hb⟩
               have hB2 := below_next hB1 hb
               have Ka2 := Ka1.next hb
               have Kb2 := Kb1.next hb
               have Kr2 := Kr1.next hb
               clear ca0 ca1 ca2 ca3 cb0 cb1 cb2 cb3 cr0 cr1 cr2 cr3 za zb zr na nb nr Ka1 Kb1 Kr1
               clear hb
               obtain ⟨ca0, ca1, ca2, ca3⟩ := blk4 Ka2
               have za := Ka2.lt
               have na : w.heap.size ≠ w2.heap.size := Nat.ne_of_lt za
               obtain ⟨cb0, cb1, cb2, cb3⟩ := blk4 Kb2
               have zb := Kb2.lt
               have nb : w.heap.size + 1 ≠ w2.heap.size := Nat.ne_of_lt zb
               obtain ⟨cr0, cr1, cr2, cr3⟩ := blk4 Kr2
               have zr := Kr2.lt
               have nr : w.heap.size + 2 ≠ w2.heap.size := Nat.ne_of_lt zr
               have nrm : w.heap.size + 2 ≠ w2.heap.size := nr
               have nrm1 : w.heap.size + 1 + 1 ≠ w2.heap.size := nr
               have nrm2 : w2.heap.size ≠ w.heap.size + 1 + 1 := fun e => nr e.symm
               clear f0 f1 f2 f3
               obtain ⟨f0, f1, f2, f3⟩ := fz4 Kr2)
            | (go_at_call 23; (with_reducible refine (c3 _).mono ?_); rintro e w3 ⟨rfl, hb⟩
               have hB3 := below_next (below_al hB2 _) hb
               have Ka3 := (Ka2.alloc _).next hb
               have Kb3 := (Kb2.alloc _).next hb
               have Kr3 := (Kr2.alloc _).next hb
               have Km3 := (Blk.new w2 23 _).next hb
               clear ca0 ca1 ca2 ca3 cb0 cb1 cb2 cb3 cr0 cr1 cr2 cr3 za zb zr na nb nr Ka2 Kb2 Kr2
               clear hb
               obtain ⟨ca0, ca1, ca2, ca3⟩ := blk4 Ka3
               have za := Ka3.lt
               have na : w.heap.size ≠ w3.heap.size := Nat.ne_of_lt za
               obtain ⟨cb0, cb1, cb2, cb3⟩ := blk4 Kb3
               have zb := Kb3.lt
               have nb : w.heap.size + 1 ≠ w3.heap.size := Nat.ne_of_lt zb
               obtain ⟨cr0, cr1, cr2, cr3⟩ := blk4 Kr3
               have zr := Kr3.lt
               have nr : w.heap.size + 2 ≠ w3.heap.size := Nat.ne_of_lt zr
               obtain ⟨cm0, cm1, cm2, cm3⟩ := blk4 Km3
               have zm := Km3.lt
               have nm : w2.heap.size ≠ w3.heap.size := Nat.ne_of_lt zm
               clear f0 f1 f2 f3
               obtain ⟨f0, f1, f2, f3⟩ := fz4 Kr3)
            | (go_at_call 23; (with_reducible refine (c4 _).mono ?_); rintro e w4 ⟨rfl, hb⟩
               have hB4 := below_next hB3 hb
               have Ka4 := Ka3.next hb
               have Kb4 := Kb3.next hb
               have Kr4 := Kr3.next hb
               have Km4 := Km3.next hb
               clear ca0 ca1 ca2 ca3 cb0 cb1 cb2 cb3 cr0 cr1 cr2 cr3 cm0 cm1 cm2 cm3 za zb zr zm na nb nr nm Ka3 Kb3 Kr3 Km3
               clear hb
               obtain ⟨ca0, ca1, ca2, ca3⟩ := blk4 Ka4
               have za := Ka4.lt
               have na : w.heap.size ≠ w4.heap.size := Nat.ne_of_lt za
               obtain ⟨cb0, cb1, cb2, cb3⟩ := blk4 Kb4
               have zb := Kb4.lt
               have nb : w.heap.size + 1 ≠ w4.heap.size := Nat.ne_of_lt zb
               obtain ⟨cr0, cr1, cr2, cr3⟩ := blk4 Kr4
               have zr := Kr4.lt
               have nr : w.heap.size + 2 ≠ w4.heap.size := Nat.ne_of_lt zr
               obtain ⟨cm0, cm1, cm2, cm3⟩ := blk4 Km4
               have zm := Km4.lt
               have nm : w2.heap.size ≠ w4.heap.size := Nat.ne_of_lt zm
               clear f0 f1 f2 f3
               obtain ⟨f0, f1, f2, f3⟩ := fz4 Kr4
               obtain ⟨h0, h1, h2, h3⟩ := fz4 Km4))
          refine bodyPost_ret (v := .tuple #[.agg #[.int .i64 (max ax bx), .int .i64 (max ay by_), .int .i64 (min (ax + aw) (bx + bw) - max ax bx), .int .i64 (min (ay + ah) (by_ + bh) - max ay by_)], .bool true]) (by simp [results, Try.results19, go_sem, cr0, cr1, cr2, cr3]) rfl ⟨rfl, below_set4 (below_set (below_set hB4 hB2.size _) hB2.size _) (by omega) _ _ _ _⟩
end Go.Proofs.Ytabijoohoofogaa
