/- What the landed package rect's Move and Inset answer. Conditions: none. -/
import Derived.Test.YtabijoohoofogaaRectCodeA
import Derived.Deep.QuietTactic
import Derived.BigQuiet
import Derived.Deep.RegionHeld3
import Derived.Deep.CutBlock
import Derived.Deep.DeepCutAuto
namespace Go.Proofs.Ytabijoohoofogaa
open Go.ChangeShapes Go.WideShapes Go.ChangeAt Go.RowKit
theorem size_set (w : World) (p : Addr) (v : Value) : (w.setCell p v).heap.size = w.heap.size := by unfold World.setCell; simp
theorem move_not (r : Plc) (x y : Int) (h : mayB r = false) : moveOk r x y = false ∧ moveR r x y = .zero := by
  unfold moveOk moveR
  rw [h]
  exact ⟨rfl, rfl⟩
theorem move_yes (r : Plc) (x y : Int) (h : mayB r = true) : moveOk r x y = (addOk r.x x && addOk r.y y) ∧ moveR r x y = ⟨add2 r.x x, add2 r.y y, r.w, r.h⟩ := by
  unfold moveOk moveR
  rw [h]
  exact ⟨rfl, rfl⟩
set_option maxHeartbeats 8000000 in
set_option maxRecDepth 100000 in
theorem move_any : MoveC := by
  intro r dx dy w
  have c1 := fun w => may_any r w
  cases hm : mayB r
  · obtain ⟨e1, e2⟩ := move_not r dx dy hm
    rw [e1, e2]; clear e1 e2
    rw [hm] at c1
    obtain ⟨x, y, W, H⟩ := r
    clear hm
    go_enter Try.func12, Try.ntmps12
    go_wp2_with (go_at_call 20; (with_reducible refine (c1 _).mono ?_); rintro e w1 ⟨rfl, hb⟩
                 have hB1 := below_next (below_al (below_al (Below.refl _ _) _) _) hb
                 have Kr1 := (Blk.new (w.alloc _) 23 _).next hb
                 simp only [size_al] at Kr1
                 obtain ⟨cr0, cr1, cr2, cr3⟩ := blk4 Kr1
                 have zr := Kr1.lt
                 obtain ⟨f0, f1, f2, f3⟩ := fz4 Kr1)
    exact bodyPost_ret (v := .tuple #[.agg #[.int .i64 0, .int .i64 0, .int .i64 0, .int .i64 0], .bool false]) (by simp [results, Try.results12, go_sem, cr0, cr1, cr2, cr3]) rfl ⟨rfl, below_set4 hB1 (by omega) _ _ _ _⟩
  · obtain ⟨e1, e2⟩ := move_yes r dx dy hm
    rw [e1, e2]; clear e1 e2
    rw [hm] at c1
    have d1 := fun w => add_any r.x dx w
    have d2 := fun w => add_any r.y dy w
    generalize addOk r.x dx = o1 at *
    generalize addOk r.y dy = o2 at *
    generalize add2 r.x dx = n1 at *
    generalize add2 r.y dy = n2 at *
    obtain ⟨x, y, W, H⟩ := r
    clear hm
    simp only at d1 d2
    go_enter Try.func12, Try.ntmps12
    go_wp2_with (go_at_call 20; (with_reducible refine (c1 _).mono ?_); rintro e w1 ⟨rfl, hb⟩
                 have hB1 := below_next (below_al (below_al (Below.refl _ _) _) _) hb
                 have Kb1 := ((Blk.new w 23 _).alloc _).next hb
                 have Kr1 := (Blk.new (w.alloc _) 23 _).next hb
                 simp only [size_al] at Kr1
                 have zr := Kr1.lt)
    have T0 : Tly (w1.alloc (.cells #[.bool false] 56)) w1.heap.size false := Blk.new w1 _ _
    have hB2 := below_al hB1 (.cells #[.bool false] 56)
    have Kb2 := Kb1.alloc (.cells #[.bool false] 56)
    have Kr2 := Kr1.alloc (.cells #[.bool false] 56)
    clear hB1 Kb1 Kr1 hb c1
    generalize w1.alloc (.cells #[.bool false] 56) = w2 at *
    generalize w1.heap.size = g at *
    have zg := T0.lt
    have n0 : w.heap.size ≠ g := by omega
    have n1' : w.heap.size + 1 ≠ g := by omega
    have n3 : w.heap.size ≠ w2.heap.size := by omega
    have n4 : g ≠ w2.heap.size := by omega
    have hwg : w.heap.size ≤ g := by omega
    go_cut [10] (fun s10 wx => ∃ m : Nat, s10 = .pointer (some ⟨m, 0, none⟩) ∧ w.heap.size + 1 < m ∧ Tly wx g (!o1 || !o2) ∧ Blk wx m 23 #[.int .i64 n1, .int .i64 n2, .int .i64 W, .int .i64 H] ∧ Blk wx (w.heap.size + 1) 23 #[.int .i64 0, .int .i64 0, .int .i64 0, .int .i64 0] ∧ Below w.heap.size w wx)
    case first =>
      go_region_held3 (fun W' => W'.cell? ⟨w.heap.size, 0, none⟩ = some (.int .i64 x) ∧ W'.cell? ⟨w.heap.size, 1, none⟩ = some (.int .i64 y) ∧ W'.cell? ⟨w.heap.size, 2, none⟩ = some (.int .i64 W) ∧ W'.cell? ⟨w.heap.size, 3, none⟩ = some (.int .i64 H))
        (first | (with_reducible assumption) | exact blk4 (t := 23) (by repeat (first | (with_reducible exact Kb2) | (with_reducible apply Blk.drew) | (with_reducible apply Blk.drewN) | (with_reducible refine Blk.alloc ?_ _) | (with_reducible refine Blk.far ?_ (by first | exact n0 | exact n3 | (simp; omega)) _))))
        (first
          | (go_at_call 36; (first | (with_reducible refine (d1 _).mono ?_) | (with_reducible refine (d2 _).mono ?_)); rintro e w9 ⟨rfl, rfl⟩)
          | (go_at_call 35; (with_reducible refine (number_any _ _ _ _ _ (by repeat (first | (with_reducible assumption) | (with_reducible apply tly_set) | (with_reducible apply tly_dr) | (with_reducible apply tly_al)))).mono ?_); rintro e w9 ⟨rfl, rfl⟩))
      all_goals
        have T3 := tly_dr (tly_al (tly_set (tly_set T0 (!o1)) (!o1 || !o2)) (.cells #[.int .i64 n1, .int .i64 n2, .int .i64 W, .int .i64 H] 23))
        have M3 := (Blk.new ((w2.setCell ⟨g, 0, none⟩ (.bool !o1)).setCell ⟨g, 0, none⟩ (.bool (!o1 || !o2))) 23 #[.int .i64 n1, .int .i64 n2, .int .i64 W, .int .i64 H]).drew
        have R3 := (((Kr2.far (p := ⟨g, 0, none⟩) n1' (.bool !o1)).far (p := ⟨g, 0, none⟩) n1' (.bool (!o1 || !o2))).alloc (.cells #[.int .i64 n1, .int .i64 n2, .int .i64 W, .int .i64 H] 23)).drew
        have B3 := (below_al (below_set (below_set hB2 (p := ⟨g, 0, none⟩) hwg (.bool !o1)) (p := ⟨g, 0, none⟩) hwg (.bool (!o1 || !o2))) (.cells #[.int .i64 n1, .int .i64 n2, .int .i64 W, .int .i64 H] 23)).drew
        simp only [size_set] at M3
        clear T0 Kb2 Kr2 hB2 d1 d2
        generalize (((w2.setCell ⟨g, 0, none⟩ (.bool !o1)).setCell ⟨g, 0, none⟩ (.bool (!o1 || !o2))).alloc (.cells #[.int .i64 n1, .int .i64 n2, .int .i64 W, .int .i64 H] 23)).drew = w3 at *
        go_wp2
        go_meet
        exact ⟨w2.heap.size, rfl, by omega, T3, M3, R3, B3⟩
    case rest =>
      obtain ⟨m, rfl, hm, T3, M3, R3, B3⟩ := hcut
      clear T0 Kb2 Kr2 hB2 d1 d2
      have q1 : m ≠ w.heap.size + 1 := by omega
      obtain ⟨m0, m1, m2, m3⟩ := blk4 M3
      obtain ⟨cr0, cr1, cr2, cr3⟩ := blk4 R3
      obtain ⟨f0, f1, f2, f3⟩ := fz4 R3
      go_wp2
      go_region_held3 (fun W' => W'.cell? ⟨m, 0, none⟩ = some (.int .i64 n1) ∧ W'.cell? ⟨m, 1, none⟩ = some (.int .i64 n2) ∧ W'.cell? ⟨m, 2, none⟩ = some (.int .i64 W) ∧ W'.cell? ⟨m, 3, none⟩ = some (.int .i64 H))
        (first | (with_reducible assumption) | (with_reducible exact ⟨m0, m1, m2, m3⟩) | exact blk4 (t := 23) (by repeat (first | (with_reducible exact M3) | (with_reducible apply Blk.drew) | (with_reducible apply Blk.drewN) | (with_reducible refine Blk.far ?_ (by exact q1) _))))
        (first | (go_at_call 34; (with_reducible refine (exact_any _ _ _ (by repeat (first | (with_reducible assumption) | (with_reducible apply tly_dr)))).mono ?_); rintro e w9 ⟨rfl, rfl⟩))
      all_goals
        go_wp2
        exact bodyPost_ret (v := .tuple #[.agg #[.int .i64 n1, .int .i64 n2, .int .i64 W, .int .i64 H], .bool (o1 && o2)]) (by simp [results, Try.results12, go_sem, cr0, cr1, cr2, cr3]) rfl ⟨rfl, (below_set4 B3 (by omega) _ _ _ _).drew⟩
end Go.Proofs.Ytabijoohoofogaa
