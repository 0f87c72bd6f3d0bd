/- Rows.FlexAlikeSaid: whatever items and room, FlexAlike returns true, and the arguments read as they did. Conditions: none beyond the row's own. -/
import Derived.Test.YtnjnkcjhhgffjaaFlexSmall
import Derived.Test.YtnjnkcjhhgffjaaFlexMathN
namespace Go.Proofs.Ytnjnkcjhhgffjaa
open Go.ChangeShapes Go.WideShapes Go.ChangeAt Go.RowKit
namespace flexAlike
theorem ways (x y : FIt) (s t : Int) (h1 : x.b = y.b → y.g ≤ x.g → x.s ≤ y.s → t ≤ s) (h2 : y.b = x.b → x.g ≤ y.g → y.s ≤ x.s → s ≤ t) :
    (¬ x.b = y.b) ∨ (x.b = y.b ∧ x.g = y.g ∧ x.s = y.s ∧ s = t) ∨ (x.b = y.b ∧ x.g = y.g ∧ ¬ x.s = y.s ∧ x.s ≤ y.s ∧ ¬ s < t) ∨ (x.b = y.b ∧ x.g = y.g ∧ ¬ x.s = y.s ∧ ¬ x.s ≤ y.s) ∨
    (x.b = y.b ∧ ¬ x.g = y.g ∧ ¬ y.g ≤ x.g) ∨ (x.b = y.b ∧ ¬ x.g = y.g ∧ y.g ≤ x.g ∧ x.s ≤ y.s ∧ ¬ s < t) ∨ (x.b = y.b ∧ ¬ x.g = y.g ∧ y.g ≤ x.g ∧ ¬ x.s ≤ y.s) := by
  by_cases hb : x.b = y.b
  · have h1 := h1 hb
    have h2 := h2 hb.symm
    by_cases hg : x.g = y.g
    · by_cases hs : x.s = y.s
      · have := h1 (by omega) (by omega)
        have := h2 (by omega) (by omega)
        exact .inr (.inl ⟨hb, hg, hs, by omega⟩)
      · by_cases hle : x.s ≤ y.s
        · have := h1 (by omega) hle
          exact .inr (.inr (.inl ⟨hb, hg, hs, hle, by omega⟩))
        · exact .inr (.inr (.inr (.inl ⟨hb, hg, hs, hle⟩)))
    · by_cases hge : y.g ≤ x.g
      · by_cases hle : x.s ≤ y.s
        · have := h1 hge hle
          exact .inr (.inr (.inr (.inr (.inr (.inl ⟨hb, hg, hge, hle, by omega⟩)))))
        · exact .inr (.inr (.inr (.inr (.inr (.inr ⟨hb, hg, hge, hle⟩)))))
      · exact .inr (.inr (.inr (.inr (.inl ⟨hb, hg, hge⟩))))
  · exact .inl hb
set_option maxHeartbeats 32000000 in
set_option maxRecDepth 100000 in
theorem walk (A : Option Addr) (n c : Nat) (l : List FIt) (room : Int) (w : World) (hn : n ≤ 4611686018427387904) (hr : Reads w w.heap.size 4 A n (flatF l)) :
    Calls Try.prog 8 #[.slice A n c, .int .i64 room] w fun e w' => e = .returned (.bool true) ∧ Below w.heap.size w w' := by
  have hlen : l.length = n := by have := hr.1; rw [flatF_len] at this; omega
  have c0 := flexAwake w
  have c1 := fun (w1 : World) (h : Below w.heap.size w w1) => small_any A n c l w1 ((hr.below h).more h.size) hn
  have c2 := fun (w1 : World) (h : Below w.heap.size w w1) => share_any A n c l room w1 ((hr.below h).more h.size)
  cases hs : smallB l
  · rw [hs] at c1
    clear hs c2
    go_enter Try.func8, Try.ntmps8
    go_wp2_with (first
      | (go_at_call 20; (with_reducible refine c0.mono ?_); rintro e w1 ⟨rfl, hB1⟩)
      | (go_at_call 30; (with_reducible refine (c1 _ hB1).mono ?_); rintro e w2 ⟨rfl, hb⟩
         have hB2 := below_next hB1 hb))
    go_ret
    exact ⟨rfl, hB2⟩
  · obtain ⟨hfit, hn1⟩ := small_iff.1 hs
    rw [hs] at c1
    obtain ⟨hZl, hal, hzero⟩ := alikeL (room := room) hfit hn1
    rw [hlen] at hZl
    have HA := Lib.hid hal
    have H0 := Lib.hid hzero
    have HL := Lib.hid hlen
    have hn100 : n ≤ 100 := by rw [← hlen]; exact hn1
    simp only [hZl] at c2
    have HZl := Lib.hid hZl
    clear hs hfit hZl hal hzero hlen hn1
    generalize (shareL l room).1 = Z at *
    generalize (shareL l room).2 = ex at *
    go_enter Try.func8, Try.ntmps8
    go_wp2_with (first
      | (go_at_call 20; (with_reducible refine c0.mono ?_); rintro e w1 ⟨rfl, hB1⟩)
      | (go_at_call 30; (with_reducible refine (c1 _ hB1).mono ?_); rintro e w2 ⟨rfl, hb⟩
         have hB2 := below_next hB1 hb)
      | (go_at_call 21; (with_reducible refine (c2 _ hB2).mono ?_); rintro e w3 ⟨A3, c3, rfl, hr3, hb⟩
         have hB3 := below_next hB2 hb))
    have hr0 := (hr.below hB3).more hB3.size
    clear c0 c1 c2 hb hB1 hB2 hr
    go_loopw [29] (fun i wr => ∃ (k : Nat), k ≤ n ∧ i = .int .i64 k ∧ Below w3.heap.size w3 wr) (fun i _ => n - (intOf i).toNat)
    case atStart => exact ⟨0, Nat.zero_le _, rfl, Below.refl _ _⟩
    case round =>
      obtain ⟨k, hk, rfl, hBr⟩ := hrel
      by_cases hlt : k < n
      · obtain ⟨x, hx⟩ : ∃ x, l[k]? = some x := ⟨l[k]'(by rw [HL.out]; exact hlt), List.getElem?_eq_getElem _⟩
        obtain ⟨z, hz⟩ : ∃ z, Z[k]? = some z := ⟨Z[k]'(by rw [HZl.out]; exact hlt), List.getElem?_eq_getElem _⟩
        obtain ⟨ad, rfl, hab, e0, e1, e2, e3⟩ := it_of (hr0.below hBr) hx
        obtain ⟨az, u, rfl, haz, hu, hcz⟩ := (hr3.below hBr).at_ hlt
        obtain rfl : u = .int .i64 z := by rw [List.getElem?_map, hz] at hu; simpa using hu.symm
        have k0 : (0 : Int) ≤ (k : Int) := Int.natCast_nonneg _
        have k1 : (k : Int) < (n : Int) := by omega
        have kk := Int.toNat_natCast k
        have HX := Lib.hid hx
        have HZ := Lib.hid hz
        have hz0 := H0.out k x z hx hz
        have Kx := Blk.new wr 61 #[.int .i64 x.b, .int .i64 x.e, .int .i64 x.g, .int .i64 x.s]
        have hBa := below_al hBr (.cells #[.int .i64 x.b, .int .i64 x.e, .int .i64 x.g, .int .i64 x.s] 61)
        have hcza : (wr.alloc (.cells #[.int .i64 x.b, .int .i64 x.e, .int .i64 x.g, .int .i64 x.s] 61)).cell? (az.add k) = some (.int .i64 z) := (World.cell?_alloc_lt _ _ _ (World.block_lt_of_cell? _ _ hcz)).trans hcz
        clear hx hz hu hab haz
        obtain ⟨xb, xe, xg, xs⟩ := x
        simp only at e0 e1 e2 e3 hz0 Kx hBa hcza
        go_upto_region 11 with (fail)
        go_cut [50] (fun s50 wx => s50 = .bool false ∧ ∃ q, wx = (wr.alloc (.cells #[.int .i64 xb, .int .i64 xe, .int .i64 xg, .int .i64 xs] 61)).drewN q)
        case first =>
          by_cases hg : xg = 0
          · by_cases hs : xs = 0
            · have hz1 := hz0 hg hs
              subst hg hs hz1
              go_quiet (fail)
              go_wp2
              go_meet
              exact ⟨rfl, _, rfl⟩
            · subst hg
              have d1 : (xs == 0) = false := by simpa using hs
              clear hz0
              go_quiet (fail)
              go_wp2
              go_meet
              exact ⟨rfl, _, rfl⟩
          · have d1 : (xg == 0) = false := by simpa using hg
            clear hz0
            go_quiet (fail)
            go_wp2
            go_meet
            exact ⟨rfl, _, rfl⟩
        case rest =>
          obtain ⟨rfl, q, rfl⟩ := hcut
          clear hz0
          have Kx := Kx.drewN q
          have hBa := bdn hBa q
          have hcza : ((wr.alloc (.cells #[.int .i64 xb, .int .i64 xe, .int .i64 xg, .int .i64 xs] 61)).drewN q).cell? (az.add k) = some (.int .i64 z) := hcza
          have hzlt := World.block_lt_of_cell? _ _ hcza
          generalize (wr.alloc (.cells #[.int .i64 xb, .int .i64 xe, .int .i64 xg, .int .i64 xs] 61)).drewN q = wa at *
          clear hcz e0 e1 e2 e3
          generalize wr.heap.size = gx at *
          go_wp2
          go_loopw [53] (fun i wq => ∃ (i' : Nat), i' ≤ n ∧ i = .int .i64 i' ∧ Blk wq gx 61 #[.int .i64 xb, .int .i64 xe, .int .i64 xg, .int .i64 xs] ∧ Below w3.heap.size w3 wq ∧ Below wa.heap.size wa wq) (fun i _ => n - (intOf i).toNat)
          case atStart => exact ⟨0, Nat.zero_le _, rfl, Kx, hBa, Below.refl _ _⟩
          case round =>
            obtain ⟨i, hi, rfl, Kq, hBq, hBw⟩ := hrel
            rename World => wq
            by_cases hlt2 : i < n
            · obtain ⟨y, hy⟩ : ∃ y, l[i]? = some y := ⟨l[i]'(by rw [HL.out]; exact hlt2), List.getElem?_eq_getElem _⟩
              obtain ⟨t, ht⟩ : ∃ t, Z[i]? = some t := ⟨Z[i]'(by rw [HZl.out]; exact hlt2), List.getElem?_eq_getElem _⟩
              obtain ⟨ad', e, hab, f0, f1, f2, f3⟩ := it_of (hr0.below hBq) hy
              obtain rfl : ad = ad' := by injection e
              obtain ⟨az', u, e', haz, hu, hct⟩ := (hr3.below hBq).at_ hlt2
              obtain rfl : az = az' := by injection e'
              obtain rfl : u = .int .i64 t := by rw [List.getElem?_map, ht] at hu; simpa using hu.symm
              have i0 : (0 : Int) ≤ (i : Int) := Int.natCast_nonneg _
              have i1 : (i : Int) < (n : Int) := by omega
              have ii := Int.toNat_natCast i
              have hways := ways ⟨xb, xe, xg, xs⟩ y z t (HA.out k i _ y z t HX.out hy HZ.out ht) (HA.out i k y _ t z hy HX.out ht HZ.out)
              have hczq := (hBw.cell hzlt).trans hcza
              have Ky := Kq.alloc (.cells #[.int .i64 y.b, .int .i64 y.e, .int .i64 y.g, .int .i64 y.s] 61)
              have hBb := below_al hBq (.cells #[.int .i64 y.b, .int .i64 y.e, .int .i64 y.g, .int .i64 y.s] 61)
              have hBc := below_al hBw (.cells #[.int .i64 y.b, .int .i64 y.e, .int .i64 y.g, .int .i64 y.s] 61)
              have hczb : (wq.alloc (.cells #[.int .i64 y.b, .int .i64 y.e, .int .i64 y.g, .int .i64 y.s] 61)).cell? (az.add k) = some (.int .i64 z) := (World.cell?_alloc_lt _ _ _ (World.block_lt_of_cell? _ _ hczq)).trans hczq
              have hctb : (wq.alloc (.cells #[.int .i64 y.b, .int .i64 y.e, .int .i64 y.g, .int .i64 y.s] 61)).cell? (az.add i) = some (.int .i64 t) := (World.cell?_alloc_lt _ _ _ (World.block_lt_of_cell? _ _ hct)).trans hct
              obtain ⟨q0, q1, q2, q3⟩ := blk4 Ky
              clear hy ht hu hab haz e e' hczq hct
              obtain ⟨yb, ye, yg, ys⟩ := y
              simp only at *
              rcases hways with h | ⟨h1, h2, h3, h4⟩ | ⟨h1, h2, h3, h4, h5⟩ | ⟨h1, h2, h3, h4⟩ | ⟨h1, h2, h3⟩ | ⟨h1, h2, h3, h4, h5⟩ | ⟨h1, h2, h3, h4⟩
              · have d1 : (xb == yb) = false := by simpa using h
                go_wp2
                go_quiet (fail)
                go_wp2
                go_quiet (fail)
                go_wp2
                go_roundw
                case rel => exact ⟨i + 1, by omega, by go_num, Ky.drewN _, bdn hBb _, bdn hBc _⟩
                case measure => simp [intOf]; omega
              · subst h1 h2 h3 h4
                go_wp2
                go_quiet (fail)
                go_wp2
                go_quiet (fail)
                go_wp2
                go_roundw
                case rel => exact ⟨i + 1, by omega, by go_num, Ky.drewN _, bdn hBb _, bdn hBc _⟩
                case measure => simp [intOf]; omega
              · subst h1 h2
                have d1 : (xs == ys) = false := by simpa using h3
                have d2 : decide (xs ≤ ys) = true := decide_eq_true h4
                go_wp2
                go_quiet (fail)
                go_wp2
                go_quiet (fail)
                go_wp2
                go_roundw
                case rel => exact ⟨i + 1, by omega, by go_num, Ky.drewN _, bdn hBb _, bdn hBc _⟩
                case measure => simp [intOf]; omega
              · subst h1 h2
                have d1 : (xs == ys) = false := by simpa using h3
                have d2 : decide (xs ≤ ys) = false := decide_eq_false h4
                go_wp2
                go_quiet (fail)
                go_wp2
                go_quiet (fail)
                go_wp2
                go_roundw
                case rel => exact ⟨i + 1, by omega, by go_num, Ky.drewN _, bdn hBb _, bdn hBc _⟩
                case measure => simp [intOf]; omega
              · subst h1
                have d1 : (xg == yg) = false := by simpa using h2
                have d2 : decide (yg ≤ xg) = false := decide_eq_false h3
                go_wp2
                go_quiet (fail)
                go_wp2
                go_quiet (fail)
                go_wp2
                go_roundw
                case rel => exact ⟨i + 1, by omega, by go_num, Ky.drewN _, bdn hBb _, bdn hBc _⟩
                case measure => simp [intOf]; omega
              · subst h1
                have d1 : (xg == yg) = false := by simpa using h2
                have d2 : decide (yg ≤ xg) = true := decide_eq_true h3
                have d3 : decide (xs ≤ ys) = true := decide_eq_true h4
                go_wp2
                go_quiet (fail)
                go_wp2
                go_quiet (fail)
                go_wp2
                go_roundw
                case rel => exact ⟨i + 1, by omega, by go_num, Ky.drewN _, bdn hBb _, bdn hBc _⟩
                case measure => simp [intOf]; omega
              · subst h1
                have d1 : (xg == yg) = false := by simpa using h2
                have d2 : decide (yg ≤ xg) = true := decide_eq_true h3
                have d3 : decide (xs ≤ ys) = false := decide_eq_false h4
                go_wp2
                go_quiet (fail)
                go_wp2
                go_quiet (fail)
                go_wp2
                go_roundw
                case rel => exact ⟨i + 1, by omega, by go_num, Ky.drewN _, bdn hBb _, bdn hBc _⟩
                case measure => simp [intOf]; omega
            · go_wp2
              go_roundw
              case rel => exact ⟨k + 1, by omega, by go_num, hBq⟩
              case measure => simp [intOf]; omega
      · obtain rfl : k = n := by omega
        go_wp2
        go_ret
        exact ⟨rfl, hB3.trans (hBr.mono hB3.size)⟩
end flexAlike
end Go.Proofs.Ytnjnkcjhhgffjaa
