/- What the landed package rect's Inset answers. Conditions: none. -/
import Derived.Test.YtabijoohoofogaaRectCodeC
namespace Go.Proofs.Ytabijoohoofogaa
open Go.ChangeShapes Go.WideShapes Go.ChangeAt Go.RowKit
theorem less1_max (n a b : Int) : less1 n a b = max (sub2 (sub2 n a) b) 0 := by unfold less1; split <;> omega
theorem inset_not (r : Plc) (a b c d : Int) (h : mayB r = false) : insetOk r a b c d = false ∧ insetR r a b c d = .zero := by
  unfold insetOk insetR
  rw [h]
  exact ⟨rfl, rfl⟩
/-- Was anything cut on the way? -/
def cutI (o1 o2 k1 k2 : Bool) (s2 : Int) (l1 l2 : Bool) (u2 : Int) : Bool := ((((!o1 || !o2) || !k1) || !(k2 && decide (0 ≤ s2))) || !l1) || !(l2 && decide (0 ≤ u2))
theorem cutI_is (o1 o2 k1 k2 : Bool) (s2 : Int) (l1 l2 : Bool) (u2 : Int) : (!(!o1 || !o2 || !k1 || (!k2 || !decide (0 ≤ s2)) || !l1 || (!l2 || !decide (0 ≤ u2)))) = !cutI o1 o2 k1 k2 s2 l1 l2 u2 := by
  unfold cutI
  generalize decide (0 ≤ s2) = p
  generalize decide (0 ≤ u2) = q
  cases o1 <;> cases o2 <;> cases k1 <;> cases k2 <;> cases l1 <;> cases l2 <;> cases p <;> cases q <;> rfl
theorem inset_yes (r : Plc) (a b c d : Int) (h : mayB r = true) :
    insetOk r a b c d = !cutI (addOk r.x d) (addOk r.y a) (subOk r.w d) (subOk (sub2 r.w d) b) (sub2 (sub2 r.w d) b) (subOk r.h a) (subOk (sub2 r.h a) c) (sub2 (sub2 r.h a) c) ∧
      insetR r a b c d = ⟨add2 r.x d, add2 r.y a, max (sub2 (sub2 r.w d) b) 0, max (sub2 (sub2 r.h a) c) 0⟩ := by
  unfold insetOk insetR lessOk cutI
  rw [h, less1_max, less1_max]
  refine ⟨?_, rfl⟩
  have e : ∀ n : Int, decide (n < 0) = !decide (0 ≤ n) := by
    intro n
    by_cases hn : n < 0
    · rw [decide_eq_true hn, decide_eq_false (by omega)]; rfl
    · rw [decide_eq_false hn, decide_eq_true (by omega)]; rfl
  rw [e, e]
  generalize addOk r.x d = o1
  generalize addOk r.y a = o2
  generalize subOk r.w d = k1
  generalize subOk (sub2 r.w d) b = k2
  generalize subOk r.h a = l1
  generalize subOk (sub2 r.h a) c = l2
  generalize decide (0 ≤ sub2 (sub2 r.w d) b) = p
  generalize decide (0 ≤ sub2 (sub2 r.h a) c) = q
  cases o1 <;> cases o2 <;> cases k1 <;> cases k2 <;> cases l1 <;> cases l2 <;> cases p <;> cases q <;> rfl
set_option maxHeartbeats 8000000 in
set_option maxRecDepth 100000 in
theorem inset_no (r : Plc) (a b c d : Int) (w : World) (hm : mayB r = false) :
    Calls Try.prog 14 #[r.v, .int .i64 a, .int .i64 b, .int .i64 c, .int .i64 d] w fun e w' => e = .returned (.tuple #[(insetR r a b c d).v, .bool (insetOk r a b c d)]) ∧ Below w.heap.size w w' := by
  have c1 := fun w => may_any r w
  obtain ⟨e1, e2⟩ := inset_not r a b c d hm
  rw [e1, e2]; clear e1 e2
  rw [hm] at c1
  obtain ⟨x, y, W, H⟩ := r
  clear hm
  go_enter Try.func14, Try.ntmps14
  go_wp2_with (go_at_call 20; (with_reducible refine (c1 _).mono ?_); rintro e w1 ⟨rfl, hb⟩
               have hB1 := below_next (below_al (below_al (Below.refl _ _) _) _) hb
               have Kr1 := (Blk.new (w.alloc _) 23 _).next hb
               simp only [size_al] at Kr1
               obtain ⟨cr0, cr1, cr2, cr3⟩ := blk4 Kr1
               have zr := Kr1.lt
               obtain ⟨f0, f1, f2, f3⟩ := fz4 Kr1)
  exact bodyPost_ret (v := .tuple #[.agg #[.int .i64 0, .int .i64 0, .int .i64 0, .int .i64 0], .bool false]) (by simp [results, Try.results14, go_sem, cr0, cr1, cr2, cr3]) rfl ⟨rfl, below_set4 hB1 (by omega) _ _ _ _⟩
set_option maxHeartbeats 8000000 in
set_option maxRecDepth 1000000 in
theorem inset_ok (r : Plc) (a b c d : Int) (w : World) (hm : mayB r = true) :
    Calls Try.prog 14 #[r.v, .int .i64 a, .int .i64 b, .int .i64 c, .int .i64 d] w fun e w' => e = .returned (.tuple #[(insetR r a b c d).v, .bool (insetOk r a b c d)]) ∧ Below w.heap.size w w' := by
  have c1 := fun w => may_any r w
  obtain ⟨e1, e2⟩ := inset_yes r a b c d hm
  rw [e1, e2]; clear e1 e2
  rw [hm] at c1
  have d1 := fun w => add_any r.x d w
  have d2 := fun w => add_any r.y a w
  have d3 := fun w => sub_any r.w d w
  have d4 := fun w => sub_any (sub2 r.w d) b w
  have d5 := fun w => sub_any r.h a w
  have d6 := fun w => sub_any (sub2 r.h a) c w
  have d7 := fun g c w h => size_any g c (sub2 (sub2 r.w d) b) (subOk (sub2 r.w d) b) w h
  have d8 := fun g c_ w h => size_any g c_ (sub2 (sub2 r.h a) c) (subOk (sub2 r.h a) c) w h
  generalize addOk r.x d = o1 at *
  generalize addOk r.y a = o2 at *
  generalize add2 r.x d = n1 at *
  generalize add2 r.y a = n2 at *
  generalize subOk (sub2 r.w d) b = k2 at *
  generalize subOk (sub2 r.h a) c = l2 at *
  generalize sub2 (sub2 r.w d) b = s2 at *
  generalize sub2 (sub2 r.h a) c = u2 at *
  generalize subOk r.w d = k1 at *
  generalize subOk r.h a = l1 at *
  generalize sub2 r.w d = s1 at *
  generalize sub2 r.h a = u1 at *
  obtain ⟨x, y, W, H⟩ := r
  clear hm
  simp only at d1 d2 d3 d5
  generalize max s2 0 = W' at *
  generalize max u2 0 = H' at *
  generalize hC : (!cutI o1 o2 k1 k2 s2 l1 l2 u2) = C
  have HC := Lib.hid hC
  clear hC
  go_enter Try.func14, Try.ntmps14
  go_wp2_with (go_at_call 20; (with_reducible refine (c1 _).mono ?_); rintro e w1 ⟨rfl, hb⟩
               have hB1 := below_next (below_al (below_al (Below.refl _ _) _) _) hb
               have Kb1 := ((Blk.new w 23 _).alloc _).next hb
               have Kr1 := (Blk.new (w.alloc _) 23 _).next hb
               simp only [size_al] at Kr1
               have zr := Kr1.lt)
  have T0 : Tly (w1.alloc (.cells #[.bool false] 56)) w1.heap.size false := Blk.new w1 _ _
  have hB2 := below_al hB1 (.cells #[.bool false] 56)
  have Kb2 := Kb1.alloc (.cells #[.bool false] 56)
  have Kr2 := Kr1.alloc (.cells #[.bool false] 56)
  clear hB1 Kb1 Kr1 hb c1
  generalize w1.alloc (.cells #[.bool false] 56) = w2 at *
  generalize w1.heap.size = g at *
  have zg := T0.lt
  have n0 : w.heap.size ≠ g := by omega
  have n1' : w.heap.size + 1 ≠ g := by omega
  have n3 : w.heap.size ≠ w2.heap.size := by omega
  have n4 : g ≠ w2.heap.size := by omega
  have hwg : w.heap.size ≤ g := by omega
  go_cut [14] (fun s14 wx => ∃ m : Nat, s14 = .pointer (some ⟨m, 0, none⟩) ∧ g < m ∧ Tly wx g (!o1 || !o2) ∧ Blk wx m 23 #[.int .i64 n1, .int .i64 n2, .int .i64 0, .int .i64 0] ∧ Blk wx (w.heap.size + 1) 23 #[.int .i64 0, .int .i64 0, .int .i64 0, .int .i64 0] ∧ Blk wx w.heap.size 23 #[.int .i64 x, .int .i64 y, .int .i64 W, .int .i64 H] ∧ Below w.heap.size w wx)
  case first =>
    go_region_held3 (fun W' => W'.cell? ⟨w.heap.size, 0, none⟩ = some (.int .i64 x) ∧ W'.cell? ⟨w.heap.size, 1, none⟩ = some (.int .i64 y) ∧ W'.cell? ⟨w.heap.size, 2, none⟩ = some (.int .i64 W) ∧ W'.cell? ⟨w.heap.size, 3, none⟩ = some (.int .i64 H))
      (first | (with_reducible assumption) | exact blk4 (t := 23) (by repeat (first | (with_reducible exact Kb2) | (with_reducible apply Blk.drew) | (with_reducible apply Blk.drewN) | (with_reducible refine Blk.alloc ?_ _) | (with_reducible refine Blk.far ?_ (by first | exact n0 | exact n3 | (simp; omega)) _))))
      (first
        | (go_at_call 36; (first | (with_reducible refine (d1 _).mono ?_) | (with_reducible refine (d2 _).mono ?_)); rintro e w9 ⟨rfl, rfl⟩)
        | (go_at_call 35; (with_reducible refine (number_any _ _ _ _ _ (by repeat (first | (with_reducible assumption) | (with_reducible apply tly_set) | (with_reducible apply tly_dr) | (with_reducible apply tly_al)))).mono ?_); rintro e w9 ⟨rfl, rfl⟩))
    all_goals
      have T3 := tly_dr (tly_al (tly_set (tly_set T0 (!o1)) (!o1 || !o2)) (.cells #[.int .i64 n1, .int .i64 n2, .int .i64 0, .int .i64 0] 23))
      have M3 := (Blk.new ((w2.setCell ⟨g, 0, none⟩ (.bool !o1)).setCell ⟨g, 0, none⟩ (.bool (!o1 || !o2))) 23 #[.int .i64 n1, .int .i64 n2, .int .i64 0, .int .i64 0]).drew
      have R3 := (((Kr2.far (p := ⟨g, 0, none⟩) n1' (.bool !o1)).far (p := ⟨g, 0, none⟩) n1' (.bool (!o1 || !o2))).alloc (.cells #[.int .i64 n1, .int .i64 n2, .int .i64 0, .int .i64 0] 23)).drew
      have S3 := (((Kb2.far (p := ⟨g, 0, none⟩) n0 (.bool !o1)).far (p := ⟨g, 0, none⟩) n0 (.bool (!o1 || !o2))).alloc (.cells #[.int .i64 n1, .int .i64 n2, .int .i64 0, .int .i64 0] 23)).drew
      have B3 := (below_al (below_set (below_set hB2 (p := ⟨g, 0, none⟩) hwg (.bool !o1)) (p := ⟨g, 0, none⟩) hwg (.bool (!o1 || !o2))) (.cells #[.int .i64 n1, .int .i64 n2, .int .i64 0, .int .i64 0] 23)).drew
      simp only [size_set] at M3
      clear T0 Kb2 Kr2 hB2 d1 d2 d3 d4 d5 d6 d7 d8
      generalize (((w2.setCell ⟨g, 0, none⟩ (.bool !o1)).setCell ⟨g, 0, none⟩ (.bool (!o1 || !o2))).alloc (.cells #[.int .i64 n1, .int .i64 n2, .int .i64 0, .int .i64 0] 23)).drew = w3 at *
      go_wp2
      go_meet
      exact ⟨w2.heap.size, rfl, by omega, T3, M3, R3, S3, B3⟩
  case rest =>
    obtain ⟨m, rfl, hm, T3, M3, R3, S3, B3⟩ := hcut
    clear T0 Kb2 Kr2 hB2 d1 d2 n3 n4 zg
    have q1 : w.heap.size ≠ m := by omega
    have q2 : w.heap.size + 1 ≠ m := by omega
    have q3 : g ≠ m := by omega
    have q4 : m ≠ g := by omega
    have q5 : g ≠ w.heap.size := by omega
    obtain ⟨s0, s1', s2', s3⟩ := blk4 S3
    obtain ⟨m0, m1, m2, m3⟩ := blk4 M3
    obtain ⟨f0, f1, f2, f3⟩ := fz4 M3
    go_upto_region 9 with (first
      | (go_at_call 38; (first | (with_reducible refine (d3 _).mono ?_) | (with_reducible refine (d4 _).mono ?_) | (with_reducible refine (d5 _).mono ?_) | (with_reducible refine (d6 _).mono ?_)); rintro e w9 ⟨rfl, rfl⟩)
      | (go_at_call 35; (with_reducible refine (number_any _ _ _ _ _ (by repeat (first | (with_reducible assumption) | (with_reducible apply tly_set) | ((with_reducible apply tly_far); rotate_left; exact q3; rotate_left)))).mono ?_); rintro e w9 ⟨rfl, rfl⟩)
      | (go_at_call 39; (first | (with_reducible refine (d7 _ _ _ (by repeat (first | (with_reducible assumption) | (with_reducible apply tly_set) | ((with_reducible apply tly_far); rotate_left; exact q3; rotate_left)))).mono ?_) | (with_reducible refine (d8 _ _ _ (by repeat (first | (with_reducible assumption) | (with_reducible apply tly_set) | ((with_reducible apply tly_far); rotate_left; exact q3; rotate_left)))).mono ?_)); rintro e w9 ⟨rfl, rfl⟩))
    go_cut [64] (fun _ wx => Tly wx g (!o1 || !o2 || !k1 || (!k2 || !decide (0 ≤ s2)) || !l1 || (!l2 || !decide (0 ≤ u2))) ∧ Blk wx m 23 #[.int .i64 n1, .int .i64 n2, .int .i64 W', .int .i64 H'] ∧ Blk wx (w.heap.size + 1) 23 #[.int .i64 0, .int .i64 0, .int .i64 0, .int .i64 0] ∧ Below w.heap.size w wx)
    case first =>
      go_wp2_with (first
        | (go_at_call 38; (first | (with_reducible refine (d3 _).mono ?_) | (with_reducible refine (d4 _).mono ?_) | (with_reducible refine (d5 _).mono ?_) | (with_reducible refine (d6 _).mono ?_)); rintro e w9 ⟨rfl, rfl⟩)
        | (go_at_call 35; (with_reducible refine (number_any _ _ _ _ _ (by repeat (first | (with_reducible assumption) | (with_reducible apply tly_set) | ((with_reducible apply tly_far); rotate_left; exact q3; rotate_left)))).mono ?_); rintro e w9 ⟨rfl, rfl⟩)
        | (go_at_call 39; (first | (with_reducible refine (d7 _ _ _ (by repeat (first | (with_reducible assumption) | (with_reducible apply tly_set) | ((with_reducible apply tly_far); rotate_left; exact q3; rotate_left)))).mono ?_) | (with_reducible refine (d8 _ _ _ (by repeat (first | (with_reducible assumption) | (with_reducible apply tly_set) | ((with_reducible apply tly_far); rotate_left; exact q3; rotate_left)))).mono ?_)); rintro e w9 ⟨rfl, rfl⟩))
      have T4 := tly_far (tly_set (tly_set (tly_far (tly_set (tly_set T3 (!o1 || !o2 || !k1)) (!o1 || !o2 || !k1 || (!k2 || !decide (0 ≤ s2)))) (p := ⟨m, 2, none⟩) q3 (.int .i64 W')) (!o1 || !o2 || !k1 || (!k2 || !decide (0 ≤ s2)) || !l1)) (!o1 || !o2 || !k1 || (!k2 || !decide (0 ≤ s2)) || !l1 || (!l2 || !decide (0 ≤ u2)))) (p := ⟨m, 3, none⟩) q3 (.int .i64 H')
      have M4 : Blk ((((((wc.setCell ⟨g, 0, none⟩ (.bool (!o1 || !o2 || !k1))).setCell ⟨g, 0, none⟩ (.bool (!o1 || !o2 || !k1 || (!k2 || !decide (0 ≤ s2))))).setCell ⟨m, 2, none⟩ (.int .i64 W')).setCell ⟨g, 0, none⟩ (.bool (!o1 || !o2 || !k1 || (!k2 || !decide (0 ≤ s2)) || !l1))).setCell ⟨g, 0, none⟩ (.bool (!o1 || !o2 || !k1 || (!k2 || !decide (0 ≤ s2)) || !l1 || (!l2 || !decide (0 ≤ u2))))).setCell ⟨m, 3, none⟩ (.int .i64 H')) m 23 #[.int .i64 n1, .int .i64 n2, .int .i64 W', .int .i64 H'] := ((((((M3.far (p := ⟨g, 0, none⟩) q4 (.bool (!o1 || !o2 || !k1))).far (p := ⟨g, 0, none⟩) q4 (.bool (!o1 || !o2 || !k1 || (!k2 || !decide (0 ≤ s2))))).set_ 2 (.int .i64 W')).far (p := ⟨g, 0, none⟩) q4 (.bool (!o1 || !o2 || !k1 || (!k2 || !decide (0 ≤ s2)) || !l1))).far (p := ⟨g, 0, none⟩) q4 (.bool (!o1 || !o2 || !k1 || (!k2 || !decide (0 ≤ s2)) || !l1 || (!l2 || !decide (0 ≤ u2))))).set_ 3 (.int .i64 H'))
      have R4 := (((((((R3.far (p := ⟨g, 0, none⟩) n1' (.bool (!o1 || !o2 || !k1))).far (p := ⟨g, 0, none⟩) n1' (.bool (!o1 || !o2 || !k1 || (!k2 || !decide (0 ≤ s2))))).far (p := ⟨m, 2, none⟩) q2 (.int .i64 W')).far (p := ⟨g, 0, none⟩) n1' (.bool (!o1 || !o2 || !k1 || (!k2 || !decide (0 ≤ s2)) || !l1))).far (p := ⟨g, 0, none⟩) n1' (.bool (!o1 || !o2 || !k1 || (!k2 || !decide (0 ≤ s2)) || !l1 || (!l2 || !decide (0 ≤ u2))))).far (p := ⟨m, 3, none⟩) q2 (.int .i64 H')))
      have hwm : w.heap.size ≤ m := by omega
      have B4 := below_set (below_set (below_set (below_set (below_set (below_set B3 (p := ⟨g, 0, none⟩) hwg (.bool (!o1 || !o2 || !k1))) (p := ⟨g, 0, none⟩) hwg (.bool (!o1 || !o2 || !k1 || (!k2 || !decide (0 ≤ s2))))) (p := ⟨m, 2, none⟩) hwm (.int .i64 W')) (p := ⟨g, 0, none⟩) hwg (.bool (!o1 || !o2 || !k1 || (!k2 || !decide (0 ≤ s2)) || !l1))) (p := ⟨g, 0, none⟩) hwg (.bool (!o1 || !o2 || !k1 || (!k2 || !decide (0 ≤ s2)) || !l1 || (!l2 || !decide (0 ≤ u2))))) (p := ⟨m, 3, none⟩) hwm (.int .i64 H')
      go_meet
      exact ⟨T4, M4, R4, B4⟩
    case rest =>
      obtain ⟨T4, M4, R4, B4⟩ := hcut
      have HX := (cutI_is o1 o2 k1 k2 s2 l1 l2 u2).trans HC.out
      clear T3 M3 R3 S3 B3 HC s0 s1' s2' s3 m0 m1 m2 m3 f0 f1 f2 f3 d3 d4 d5 d6 d7 d8
      generalize (!o1 || !o2 || !k1 || (!k2 || !decide (0 ≤ s2)) || !l1 || (!l2 || !decide (0 ≤ u2))) = cut at T4 HX
      subst HX
      have q6 : m ≠ w.heap.size + 1 := by omega
      obtain ⟨m0, m1, m2, m3⟩ := blk4 M4
      obtain ⟨cr0, cr1, cr2, cr3⟩ := blk4 R4
      obtain ⟨f0, f1, f2, f3⟩ := fz4 R4
      go_wp2
      go_region_held3 (fun W'' => W''.cell? ⟨m, 0, none⟩ = some (.int .i64 n1) ∧ W''.cell? ⟨m, 1, none⟩ = some (.int .i64 n2) ∧ W''.cell? ⟨m, 2, none⟩ = some (.int .i64 W') ∧ W''.cell? ⟨m, 3, none⟩ = some (.int .i64 H'))
        (first | (with_reducible assumption) | (with_reducible exact ⟨m0, m1, m2, m3⟩) | exact blk4 (t := 23) (by repeat (first | (with_reducible exact M4) | (with_reducible apply Blk.drew) | (with_reducible apply Blk.drewN) | (with_reducible refine Blk.far ?_ (by exact q6) _))))
        (first | (go_at_call 34; (with_reducible refine (exact_any _ _ _ (by repeat (first | (with_reducible assumption) | (with_reducible apply tly_dr)))).mono ?_); rintro e w9 ⟨rfl, rfl⟩))
      all_goals
        go_wp2
        exact bodyPost_ret (v := .tuple #[.agg #[.int .i64 n1, .int .i64 n2, .int .i64 W', .int .i64 H'], .bool (!cut)]) (by simp [results, Try.results14, go_sem, cr0, cr1, cr2, cr3]) rfl ⟨rfl, (below_set4 B4 (by omega) _ _ _ _).drew⟩
theorem inset_any : InsetC := by
  intro r a b c d w
  cases hm : mayB r
  · exact inset_no r a b c d w hm
  · exact inset_ok r a b c d w hm
end Go.Proofs.Ytabijoohoofogaa
