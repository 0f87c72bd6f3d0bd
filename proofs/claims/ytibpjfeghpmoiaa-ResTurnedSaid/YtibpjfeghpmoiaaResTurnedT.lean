/- ResTurned's walk, from what res's functions answer. Conditions: the lists lie in memory as they are read. -/
import Derived.Test.YtibpjfeghpmoiaaResHides
import Derived.Test.YtibpjfeghpmoiaaResTurnM
import Derived.Test.YtibpjfeghpmoiaaResTurnedS
import Derived.Deep.Cut
import Derived.Deep.RegionLaw
import Derived.Deep.RegionWith
import Derived.Deep.CutRange
import Derived.Deep.DeepCutAuto
namespace Go.Proofs.Ytibpjfeghpmoiaa
open Go.ChangeShapes Go.WideShapes Go.ChangeAt Go.RowKit
namespace resTurned
set_option maxHeartbeats 16000000 in
set_option maxRecDepth 100000 in
theorem walkT (A : Option Addr) (n ca : Nat) (l : List Img) (a : Int) (B : Option Addr) (nb cb : Nat) (ns : List Int) (src : ByteArray) (w : World)
    (hrn : Reads w w.heap.size 1 B nb (ns.map (Value.int .i64))) (hr : Reads w w.heap.size 4 A n (flatI l)) (hn0 : n ≤ 9223372036854775807) :
    Calls Try.prog 5 #[.agg #[.slice A n ca, .int .i64 a, .bool true], .slice B nb cb, .string src] w fun e w' => e = .returned (.bool true) ∧ Below w.heap.size w w' := by
  have hB := below_al (Below.refl w.heap.size w) (.cells #[.slice A n ca, .int .i64 a, .bool true] 26)
  have Kt := Blk.new w 26 #[.slice A n ca, .int .i64 a, .bool true]
  have c0 := resAwake.awake_any
  by_cases h1 : 100 < n
  · go_enter Try.func5, Try.ntmps5
    go_wp2_with (first
      | (go_at_call 6; (with_reducible refine (c0 _).mono ?_); rintro e w1 ⟨rfl, hb⟩
         have hB1 := below_next hB hb
         have q0 := (Kt.next hb).cell 0))
    go_ret
    exact ⟨rfl, hB1⟩
  have hn1 : n ≤ 100 := by omega
  have hn : n ≤ 4611686018427387904 := by omega
  clear h1
  have hlen : l.length = n := by have := hr.1; rw [flatI_len] at this; omega
  have hlenn : ns.length = nb := by have := hrn.1; simp at this; omega
  have ra : ∀ w0, Below w.heap.size w w0 → Reads w0 w0.heap.size 4 A n (flatI l) := fun w0 h => (hr.below h).more h.size
  go_enter Try.func5, Try.ntmps5
  go_upto_region 5 with (first
    | (go_at_call 6; (with_reducible refine (c0 _).mono ?_); rintro e w1 ⟨rfl, hb⟩
       have hB1 := below_next hB hb
       have Kt1 := Kt.next hb
       have q0 := Kt1.cell 0
       have q1 := Kt1.cell 1
       have q2 := Kt1.cell 2
       clear hb))
  go_cut [7] (fun s7 wx => ∃ (g7 : Nat) (v : Value), s7 = .pointer (some ⟨g7, 0, none⟩) ∧ w.heap.size < g7 ∧ Below w.heap.size w wx ∧ Blk wx w.heap.size 26 #[.slice A n ca, .int .i64 a, .bool true] ∧ Blk wx g7 26 #[v, .int .i64 a, .bool true] ∧ ImgsC wx w.heap.size v l)
  case first =>
    have hr1 := ra w1 hB1
    have hle : w.heap.size ≤ w1.drew.heap.size := hB1.size
    have zt := Kt1.lt
    have nt := Nat.ne_of_lt zt
    have B1 := below_al (below_al hB1.drew (.cells #[.slice none 0 0, .int .i64 0, .bool false] 26)) (.cells #[] 47)
    have B2 := below_al (below_al hB1.drew (.cells #[] 47)) (.cells #[.slice none 0 0, .int .i64 0, .bool false] 26)
    have B3 := below_al hB1.drew (.cells #[] 47)
    have H1 := ImgsC.nil (w1.drew.alloc (.cells #[.slice none 0 0, .int .i64 0, .bool false] 26)) w.heap.size (by rw [size_al]; omega)
    rw [size_al] at H1
    have H2 := (ImgsC.nil w1.drew w.heap.size hle).alloc (.cells #[.slice none 0 0, .int .i64 0, .bool false] 26)
    have H3 := ImgsC.nil w1.drew w.heap.size hle
    have T1 := (Kt1.drew.alloc (.cells #[.slice none 0 0, .int .i64 0, .bool false] 26)).alloc (.cells #[] 47)
    have T2 := (Kt1.drew.alloc (.cells #[] 47)).alloc (.cells #[.slice none 0 0, .int .i64 0, .bool false] 26)
    have T3 := Kt1.drew.alloc (.cells #[] 47)
    have Q1 : Blk ((w1.drew.alloc (.cells #[.slice none 0 0, .int .i64 0, .bool false] 26)).alloc (.cells #[] 47)) w1.heap.size 26 #[.slice none 0 0, .int .i64 0, .bool false] := (Blk.new w1.drew 26 #[.slice none 0 0, .int .i64 0, .bool false]).alloc (.cells #[] 47)
    have Q2 : Blk ((w1.drew.alloc (.cells #[] 47)).alloc (.cells #[.slice none 0 0, .int .i64 0, .bool false] 26)) (w1.heap.size + 1) 26 #[.slice none 0 0, .int .i64 0, .bool false] := by
      have h := Blk.new (w1.drew.alloc (.cells #[] 47)) 26 #[.slice none 0 0, .int .i64 0, .bool false]
      rw [size_al] at h
      exact h
    go_region_law (first
      | (refine step_all ((w1.drew.alloc (.cells #[.slice none 0 0, .int .i64 0, .bool false] 26)).alloc (.cells #[] 47)) (by rfl) (.tmp 22) (.tmp 24) (by rfl) w.heap.size _ l (by rfl) H1 A n ca (by rfl) w.heap.size (hr.below B1) hn1 B1.size ?_; intro v' w' hY' hg
         have hB' := B1.grown hg B1.size (fun k hk => (World.ownsRow.lt H1 k hk).1)
         have Kt' := T1.grown hg (fun e => own_blk_ne (t := 26) H1 T1 (by decide) e.symm)
         have K7 := Q1.grown hg (fun e => own_blk_ne (t := 26) H1 Q1 (by decide) e.symm)
         have q0' := Kt'.cell 0
         have q1' := Kt'.cell 1
         have q2' := Kt'.cell 2
         have zt' := Kt'.lt
         have nt' := Nat.ne_of_lt zt'
         have f7 := K7.frozen 0
         have f71 := K7.frozen 1
         have f72 := K7.frozen 2
         have k70 := K7.cell 0
         have k71 := K7.cell 1
         have k72 := K7.cell 2
         have n7 := own_blk_ne (t := 26) hY' K7 (by decide)
         obtain ⟨A1, m1, c1, rfl⟩ := own_slice hY')
      | (refine step_all ((w1.drew.alloc (.cells #[] 47)).alloc (.cells #[.slice none 0 0, .int .i64 0, .bool false] 26)) (by rfl) (.tmp 22) (.tmp 24) (by rfl) w.heap.size _ l (by rfl) H2 A n ca (by rfl) w.heap.size (hr.below B2) hn1 B2.size ?_; intro v' w' hY' hg
         have hB' := B2.grown hg B2.size (fun k hk => (World.ownsRow.lt H2 k hk).1)
         have Kt' := T2.grown hg (fun e => own_blk_ne (t := 26) H2 T2 (by decide) e.symm)
         have K7 := Q2.grown hg (fun e => own_blk_ne (t := 26) H2 Q2 (by decide) e.symm)
         have q0' := Kt'.cell 0
         have q1' := Kt'.cell 1
         have q2' := Kt'.cell 2
         have zt' := Kt'.lt
         have nt' := Nat.ne_of_lt zt'
         have f7 := K7.frozen 0
         have f71 := K7.frozen 1
         have f72 := K7.frozen 2
         have k70 := K7.cell 0
         have k71 := K7.cell 1
         have k72 := K7.cell 2
         have n7 := own_blk_ne (t := 26) hY' K7 (by decide)
         obtain ⟨A1, m1, c1, rfl⟩ := own_slice hY')
      | (refine step_all (w1.drew.alloc (.cells #[] 47)) (by rfl) (.tmp 22) (.tmp 24) (by rfl) w.heap.size _ l (by rfl) H3 A n ca (by rfl) w.heap.size (hr.below B3) hn1 B3.size ?_; intro v' w' hY' hg
         have hB' := B3.grown hg B3.size (fun k hk => (World.ownsRow.lt H3 k hk).1)
         have Kt' := T3.grown hg (fun e => own_blk_ne (t := 26) H3 T3 (by decide) e.symm)
         have q0' := Kt'.cell 0
         have q1' := Kt'.cell 1
         have q2' := Kt'.cell 2
         have zt' := Kt'.lt
         have nt' := Nat.ne_of_lt zt'
         obtain ⟨A1, m1, c1, rfl⟩ := own_slice hY'))
    all_goals
      go_wp2_with (fail)
      go_meet
      first
      | exact ⟨w'.heap.size, .slice A1 m1 c1, rfl, zt', below_al hB' _, Kt'.alloc _, Blk.new w' _ _, ImgsC.alloc hY' _⟩
      | exact ⟨w1.heap.size, .slice A1 m1 c1, rfl, zt, below_set (below_set (below_set hB' (p := ⟨w1.heap.size, 0, none⟩) hle _) (p := ⟨w1.heap.size, 1, none⟩) hle _) (p := ⟨w1.heap.size, 2, none⟩) hle _, ((Kt'.far (p := ⟨w1.heap.size, 0, none⟩) nt _).far (p := ⟨w1.heap.size, 1, none⟩) nt _).far (p := ⟨w1.heap.size, 2, none⟩) nt _, ((K7.set_ 0 _).set_ 1 _).set_ 2 _, ownsRow_setCell_other (ownsRow_setCell_other (ownsRow_setCell_other hY' (a := ⟨w1.heap.size, 0, none⟩) n7 _) (a := ⟨w1.heap.size, 1, none⟩) n7 _) (a := ⟨w1.heap.size, 2, none⟩) n7 _⟩
      | exact ⟨w1.heap.size + 1, .slice A1 m1 c1, rfl, Nat.lt_succ_of_lt zt, below_set (below_set (below_set hB' (p := ⟨w1.heap.size + 1, 0, none⟩) (Nat.le_succ_of_le hle) _) (p := ⟨w1.heap.size + 1, 1, none⟩) (Nat.le_succ_of_le hle) _) (p := ⟨w1.heap.size + 1, 2, none⟩) (Nat.le_succ_of_le hle) _, ((Kt'.far (p := ⟨w1.heap.size + 1, 0, none⟩) (Nat.ne_of_lt (Nat.lt_succ_of_lt zt)) _).far (p := ⟨w1.heap.size + 1, 1, none⟩) (Nat.ne_of_lt (Nat.lt_succ_of_lt zt)) _).far (p := ⟨w1.heap.size + 1, 2, none⟩) (Nat.ne_of_lt (Nat.lt_succ_of_lt zt)) _, ((K7.set_ 0 _).set_ 1 _).set_ 2 _, ownsRow_setCell_other (ownsRow_setCell_other (ownsRow_setCell_other hY' (a := ⟨w1.heap.size + 1, 0, none⟩) n7 _) (a := ⟨w1.heap.size + 1, 1, none⟩) n7 _) (a := ⟨w1.heap.size + 1, 2, none⟩) n7 _⟩
  case rest =>
    obtain ⟨g7, v, rfl, hg7, hB2, Kt2, Ko2, hY2⟩ := hcut
    clear Kt1 q0 q1 q2 hB1 Kt hB
    have q0 := Kt2.cell 0
    have q1 := Kt2.cell 1
    have q2 := Kt2.cell 2
    have p0 := Ko2.cell 0
    obtain ⟨A1, c1, rfl⟩ := own_form' hY2
    rw [hlen] at Ko2 p0
    have hY20 := hY2
    unfold ImgsC at hY20
    rw [hlen, ← modK_zero ns l] at hY20
    go_wp2
    go_loopw [8, 35] (fun b i wr => ∃ k : Nat, k ≤ n ∧ i = .int .i64 k ∧ b = .bool (true && (l.take k).all (·.o)) ∧ Below w.heap.size w wr ∧ Blk wr w.heap.size 26 #[.slice A n ca, .int .i64 a, .bool true] ∧ Blk wr g7 26 #[.slice A1 n c1, .int .i64 a, .bool true] ∧ wr.ownsRow w.heap.size 47 4 (.slice A1 n c1) n (flatI (modK ns l k))) (fun _ i _ => n - (intOf i).toNat)
    case atStart => exact ⟨0, Nat.zero_le _, rfl, by simp, hB2, Kt2, Ko2, hY20⟩
    case round =>
      obtain ⟨k, hk, rfl, rfl, hBr, Ktr, Kor, hYr⟩ := hrel
      clear hB2 Kt2 Ko2 hY2 hY20 q0 q1 q2 p0
      have p0 := Kor.cell 0
      by_cases hlt : k < n
      · obtain ⟨g, cap, hv, hgb, hgl⟩ := World.ownsRow.form hYr (by omega)
        injection hv with hv1 _ hv3
        subst hv1
        subst hv3
        have hkl : k < l.length := by omega
        obtain ⟨r, hrk⟩ : ∃ r, l[k]? = some r := ⟨l[k], List.getElem?_eq_getElem hkl⟩
        have hR := Reads.of_own hYr
        obtain ⟨e0, e1, e2, e3⟩ := img_at hR (modK_at hrk)
        have HB : (true && (l.take (k + 1)).all (·.o)) = ((true && (l.take k).all (·.o)) && r.o) := by
          rw [List.take_add_one, hrk]
          simp
        rw [add_zero_] at e0 e1 e2 e3
        dsimp only at e0 e1 e2 e3
        have nv := own_blk_ne (t := 26) hYr Ktr (by decide)
        have nv7 := own_blk_ne (t := 26) hYr Kor (by decide)
        generalize (true && (l.take k).all (·.o)) = bb at *
        cases hro : r.o with
        | true =>
          have hS := modK_same hrk (modAt_same (ns := ns) (k := k) (r := r) (by rw [hro]; simp))
          rw [hro] at e3 HB
          clear hR
          cases bb
          all_goals
            go_wp2
            go_roundw
            case rel => exact ⟨k + 1, by omega, by go_num, by rw [HB]; rfl, hBr, Ktr, Kor, by rw [hS]; exact hYr⟩
            case measure => simp [intOf]; omega
        | false =>
          rw [hro] at e3 HB
          clear hR
          by_cases h2 : 2 * k + 1 < nb
          · have hS : modAt ns k r = ⟨r.s, ns.getD (2 * k) 0, ns.getD (2 * k + 1) 0, r.o⟩ := by unfold modAt; rw [if_pos ⟨hro, by omega⟩]
            have hM := modK_succ (ns := ns) hrk
            rw [hS] at hM
            obtain ⟨ad, u, rfl, had, hu, hcu⟩ := hrn.at_ (k := 2 * k) (by omega)
            obtain ⟨ad', u', had', _, hu', hcu'⟩ := hrn.at_ (k := 2 * k + 1) (by omega)
            injection had' with had'
            subst had'
            obtain rfl : u = .int .i64 (ns.getD (2 * k) 0) := by
              rw [List.getElem?_map, List.getElem?_eq_getElem (by omega)] at hu
              rw [List.getD_eq_getElem?_getD, List.getElem?_eq_getElem (by omega)]
              simpa using hu.symm
            obtain rfl : u' = .int .i64 (ns.getD (2 * k + 1) 0) := by
              rw [List.getElem?_map, List.getElem?_eq_getElem (by omega)] at hu'
              rw [List.getD_eq_getElem?_getD, List.getElem?_eq_getElem (by omega)]
              simpa using hu'.symm
            have hcu2 := (hBr.cell (p := ad.add (2 * k)) (by rw [block_of_add]; exact had)).trans hcu
            have hcu3 := (hBr.cell (p := ad.add (2 * k + 1)) (by rw [block_of_add]; exact had)).trans hcu'
            rw [add_one] at hcu3
            have hF := flatI_set (modK ns l k) k r (ns.getD (2 * k) 0) (ns.getD (2 * k + 1) 0) (modK_at hrk)
            rw [← hM] at hF
            generalize ns.getD (2 * k) 0 = x at *
            generalize ns.getD (2 * k + 1) 0 = y at *
            have hY3 := (World.ownsRow.stored (World.ownsRow.stored hYr (k * 4 + 1) (.int .i64 x)).1 (k * 4 + 2) (.int .i64 y)).1
            rw [← hF] at hY3
            have f1 := World.ownsRow.frozenAt hYr (k * 4 + 1)
            have f2 := World.ownsRow.frozenAt hYr (k * 4 + 2)
            have ng : g ≠ g7 := fun e => nv7 (by rw [e]; rfl)
            have ngt : g ≠ w.heap.size := fun e => nv (by rw [e]; rfl)
            have nga : g ≠ ad.block := fun e => by omega
            have K1 := (Ktr.far (p := ⟨g, k * 4 + 1, none⟩) ngt.symm (.int .i64 x)).far (p := ⟨g, k * 4 + 2, none⟩) ngt.symm (.int .i64 y)
            have K2 := (Kor.far (p := ⟨g, k * 4 + 1, none⟩) ng.symm (.int .i64 x)).far (p := ⟨g, k * 4 + 2, none⟩) ng.symm (.int .i64 y)
            have hB3 := below_set (below_set hBr (p := ⟨g, k * 4 + 1, none⟩) hgb (.int .i64 x)) (p := ⟨g, k * 4 + 2, none⟩) hgb (.int .i64 y)
            have i1 : IntKind.i64.wrap (2 * (k : Int)) = 2 * (k : Int) := IntWalk.i64_in _ (by omega)
            have i2 : IntKind.i64.wrap (2 * (k : Int) + 1) = 2 * (k : Int) + 1 := IntWalk.i64_in _ (by omega)
            have i3 : (0 : Int) ≤ 2 * (k : Int) := by omega
            have i4 : 2 * (k : Int) < (nb : Int) := by omega
            have i5 : (0 : Int) ≤ 2 * (k : Int) + 1 := by omega
            have i6 : 2 * (k : Int) + 1 < (nb : Int) := by omega
            have i7 : (2 * (k : Int)).toNat = 2 * k := by omega
            have i8 : (2 * (k : Int) + 1).toNat = 2 * k + 1 := by omega
            clear hu hu' hcu hcu' hF hM hS
            cases bb
            all_goals
              go_wp2
              go_region_held3 (fun W' => W'.cell? ⟨g7, 0, none⟩ = some (.slice (some ⟨g, 0, none⟩) n c1) ∧ W'.cell? (ad.add (2 * k)) = some (.int .i64 x) ∧ W'.cell? ⟨ad.block, ad.off + (2 * k + 1), none⟩ = some (.int .i64 y))
                (first | assumption | exact ⟨p0, hcu2, hcu3⟩ | exact sset ng nga (by assumption) _ _)
                (fail)
              go_wp2
              go_roundw
              case rel => exact ⟨k + 1, by omega, by go_num, by rw [HB]; rfl, below_dr hB3 1, K1.drew, K2.drew, World.ownsRow.drew hY3⟩
              case measure => simp [intOf]; omega
          · have hS := modK_same hrk (modAt_same (ns := ns) (k := k) (r := r) (by rw [hro]; simp; omega))
            cases bb
            all_goals
              go_wp2
              go_roundw
              case rel => exact ⟨k + 1, by omega, by go_num, by rw [HB]; rfl, hBr, Ktr, Kor, by rw [hS]; exact hYr⟩
              case measure => simp [intOf]; omega
      · obtain rfl : k = n := by omega
        rw [List.take_of_length_le (by omega)]
        have hR := Reads.of_own hYr
        have hpl := pub_modK ns l k
        have hall : (true && l.all (·.o)) = true → true = true ∧ l.map pubI = l := by
          intro h
          rw [Bool.and_eq_true] at h
          refine ⟨h.1, ?_⟩
          conv => rhs; rw [← List.map_id l]
          apply List.map_congr_left
          intro x hx
          have hxo := List.all_eq_true.1 h.2 x hx
          unfold pubI
          rw [if_pos hxo]
          rfl
        have HA := Lib.hid hall
        clear hall
        have kt0 := Ktr.cell 0
        have kt1 := Ktr.cell 1
        have kt2 := Ktr.cell 2
        have k70 := Kor.cell 0
        have k71 := Kor.cell 1
        have k72 := Kor.cell 2
        have f71 := Kor.frozen 1
        have ntg : w.heap.size ≠ g7 := Nat.ne_of_lt hg7
        have nv7 := own_blk_ne (t := 26) hYr Kor (by decide)
        generalize modK ns l k = l' at *
        generalize (true && l.all (·.o)) = bb at *
        have hg7' : w.heap.size ≤ g7 := Nat.le_of_lt hg7
        have HB0 : True := trivial
        go_upto_region 16 with (fail)
        have hW : ∃ (a' : Int), pubA a' true = pubA a true ∧ Below w.heap.size w wr ∧ Blk wr w.heap.size 26 #[.slice A k ca, .int .i64 a, .bool true] ∧ Blk wr g7 26 #[.slice A1 k c1, .int .i64 a', .bool true] ∧ wr.ownsRow w.heap.size 47 4 (.slice A1 k c1) k (flatI l') := ⟨a, rfl, hBr, Ktr, Kor, hYr⟩
        obtain ⟨a', hpa, hBy, Kty, Koy, hYy⟩ := hW
        clear hBr Ktr Kor hYr kt0 kt1 kt2 k70 k71 k72 f71 nv7 hR HB0
        have hL : likeT l a true l' a' true = true := likeT_iff.2 ⟨hpl.symm, hpa.symm, rfl⟩
        obtain ⟨g1, g2, g3, g4⟩ := sizes_like hL src
        have hRy := Reads.of_own hYy
        have hSa : bb = true → sameT (l.map pubI) (pubA a true) true l a true = true := by
          intro h
          obtain ⟨h1, h2⟩ := HA.out h
          rw [sameT_iff]
          exact ⟨h2, by unfold pubA; rw [if_pos h1], rfl⟩
        have d1 := fun w0 h => size_any A k ca l a true src w0 (ra w0 h) hn
        have d2 := fun w0 h => size_any A1 k c1 l' a' true src w0 h hn
        rw [← g1, ← g2, ← g3] at d2
        have d3 := fun w0 h => public_any A k ca l a true w0 (ra w0 h) hn1
        have d4 := fun A' c' w0 h => own_any A' k c' (l.map pubI) (pubA a true) true w0 h hn1
        have d5 := fun w0 h => own_any A k ca l a true w0 (ra w0 h) hn1
        have d6 := fun A' c' A'' c'' w0 h h' => rsame_any A' k c' (l.map pubI) (pubA a true) true A'' k c'' l a true w0 h h' hn hn
        have d7 := fun w0 h h' => alike_any A k ca l a true A1 k c1 l' a' true w0 (ra w0 h) h' hn hn
        rw [hL] at d7
        have d8 := fun w0 => adv_any A k ca a true w0
        have d9 := fun w0 => adv_any A1 k c1 a' true w0
        rw [← g4] at d9
        have kt0 := Kty.cell 0
        have kt1 := Kty.cell 1
        have kt2 := Kty.cell 2
        have k70 := Koy.cell 0
        have k71 := Koy.cell 1
        have k72 := Koy.cell 2
        clear g1 g2 g3 g4 hL HA hpl hpa
        generalize sizeW l src = s1 at *
        generalize sizeH l src = s2 at *
        generalize trueB l src = s3 at *
        generalize advR a true = s4 at *
        generalize List.map pubI l = lp at *
        generalize pubA a true = pa at *
        go_upto_region 18 with (first
          | (go_at_call 8; (with_reducible refine (d1 _ hBy).mono ?_); rintro e w3 ⟨rfl, hb⟩
             have hB3 := below_next hBy hb
             have Kt3 := Kty.next hb
             have Ko3 := Koy.next hb
             have hR3 := hRy.step hb
             clear kt0 kt1 kt2 k70 k71 k72 hb
             have k70 := Ko3.cell 0
             have k71 := Ko3.cell 1
             have k72 := Ko3.cell 2)
          | (go_at_call 8; (with_reducible refine (d2 _ hR3).mono ?_); rintro e w4 ⟨rfl, hb⟩
             have hB4 := below_next hB3 hb
             have Kt4 := Kt3.next hb
             have Ko4 := Ko3.next hb
             have hR4 := hR3.step hb
             clear k70 k71 k72 hb))
        have kt0 := Kt4.cell 0
        have kt1 := Kt4.cell 1
        have kt2 := Kt4.cell 2
        have k70 := Ko4.cell 0
        have k71 := Ko4.cell 1
        have k72 := Ko4.cell 2
        have zt := Kt4.lt
        have zo := Ko4.lt
        cases bb with
        | false =>
          first | (go_region_with (fail)) | (fail)
          all_goals
            have hBz := below_dr hB4 1
            have Ktz := Kt4.drew
            have Koz := Ko4.drew
            have hRz : Reads (w4.drewN 1) (w4.drewN 1).heap.size 4 A1 k (flatI l') := hR4
            change Below w.heap.size w w4.drew at hBz
            change Reads w4.drew w4.drew.heap.size 4 A1 k (flatI l') at hRz
            clear kt0 kt1 kt2 k70 k71 k72 zt zo
            generalize w4.drew = wz at *
            go_wp2
            have kt0 := Ktz.cell 0
            have kt1 := Ktz.cell 1
            have kt2 := Ktz.cell 2
            have k70 := Koz.cell 0
            have k71 := Koz.cell 1
            have k72 := Koz.cell 2
            have zt := Ktz.lt
            have zo := Koz.lt
            have y7 := fun w0 (hS : (∀ b o, b < wz.heap.size → w0.cell? ⟨b, o, none⟩ = wz.cell? ⟨b, o, none⟩) ∧ Below wz.heap.size wz w0) => d7 w0 (below_next hBz hS.2) (hRz.step hS.2)
            first
            | (go_region_held3 (fun W' => (∀ b o, b < wz.heap.size → W'.cell? ⟨b, o, none⟩ = wz.cell? ⟨b, o, none⟩) ∧ Below wz.heap.size wz W')
                (first | assumption | exact ⟨fun _ _ _ => rfl, (Below.refl _ _).drew⟩ | exact sall (by assumption) (by assumption))
                (first
                  | (go_at_call 19; (with_reducible refine (y7 _ (by assumption)).mono ?_); rintro e wa ⟨rfl, hba⟩)
                  | (go_at_call 14; (with_reducible refine (d8 _).mono ?_); rintro e wc ⟨rfl, hbc⟩)
                  | (go_at_call 14; (with_reducible refine (d9 _).mono ?_); rintro e wd ⟨rfl, hbd⟩)))
            | (fail)
            rename_i hS2
            go_wp2
            go_ret
            exact ⟨rfl, below_next hBz hS2.2⟩
        | true =>
          have hS6 := hSa rfl
          rw [hS6] at d6
          have x3 := fun w0 (hS : (∀ b o, b < w4.heap.size → w0.cell? ⟨b, o, none⟩ = w4.cell? ⟨b, o, none⟩) ∧ Below w4.heap.size w4 w0) => d3 w0 (below_next hB4 hS.2)
          have x5 := fun w0 (hS : (∀ b o, b < w4.heap.size → w0.cell? ⟨b, o, none⟩ = w4.cell? ⟨b, o, none⟩) ∧ Below w4.heap.size w4 w0) => d5 w0 (below_next hB4 hS.2)
          first
          | (go_region_held3 (fun W' => (∀ b o, b < w4.heap.size → W'.cell? ⟨b, o, none⟩ = w4.cell? ⟨b, o, none⟩) ∧ Below w4.heap.size w4 W')
              (first | assumption | exact ⟨fun _ _ _ => rfl, (Below.refl _ _).drew⟩ | exact sall (by assumption) (by assumption))
              (first
                | (go_at_call 17; (with_reducible refine (x3 _ (by assumption)).mono ?_); rintro e w6 ⟨A6, c6', rfl, hr6, hb6⟩)
                | (go_at_call 7; (with_reducible refine (d4 A6 c6' _ hr6).mono ?_); rintro e w7 ⟨A7, c7', rfl, hr7, hb7⟩)
                | (go_at_call 7; (with_reducible refine (x5 _ (by assumption)).mono ?_); rintro e w8 ⟨A8, c8', rfl, hr8, hb8⟩; have hr9 := hr7.step hb8)
                | (go_at_call 16; (with_reducible refine (d6 A7 c7' A8 c8' _ hr9 hr8).mono ?_); rintro e w9 ⟨rfl, hb9⟩)))
          | (fail)
          rename_i hS
          have hBz := below_next hB4 hS.2
          have Ktz := Kt4.next hS.2
          have Koz := Ko4.next hS.2
          have hRz := hR4.step hS.2
          clear kt0 kt1 kt2 k70 k71 k72 zt zo hS
          go_wp2
          have kt0 := Ktz.cell 0
          have kt1 := Ktz.cell 1
          have kt2 := Ktz.cell 2
          have k70 := Koz.cell 0
          have k71 := Koz.cell 1
          have k72 := Koz.cell 2
          have zt := Ktz.lt
          have zo := Koz.lt
          have y7 := fun w0 (hS : (∀ b o, b < w9.heap.size → w0.cell? ⟨b, o, none⟩ = w9.cell? ⟨b, o, none⟩) ∧ Below w9.heap.size w9 w0) => d7 w0 (below_next hBz hS.2) (hRz.step hS.2)
          first
          | (go_region_held3 (fun W' => (∀ b o, b < w9.heap.size → W'.cell? ⟨b, o, none⟩ = w9.cell? ⟨b, o, none⟩) ∧ Below w9.heap.size w9 W')
              (first | assumption | exact ⟨fun _ _ _ => rfl, (Below.refl _ _).drew⟩ | exact sall (by assumption) (by assumption))
              (first
                | (go_at_call 19; (with_reducible refine (y7 _ (by assumption)).mono ?_); rintro e wa ⟨rfl, hba⟩)
                | (go_at_call 14; (with_reducible refine (d8 _).mono ?_); rintro e wc ⟨rfl, hbc⟩)
                | (go_at_call 14; (with_reducible refine (d9 _).mono ?_); rintro e wd ⟨rfl, hbd⟩)))
          | (fail)
          rename_i hS2
          go_wp2
          go_ret
          exact ⟨rfl, below_next hBz hS2.2⟩
end resTurned
end Go.Proofs.Ytibpjfeghpmoiaa
