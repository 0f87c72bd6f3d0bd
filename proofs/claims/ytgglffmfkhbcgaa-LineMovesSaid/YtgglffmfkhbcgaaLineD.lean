/- What the landed package line's (*filler).take answers. Conditions: a filler lies in memory, whose pieces are not below 0; the row is not empty. -/
import Derived.Test.YtgglffmfkhbcgaaLineC
namespace Go.Proofs.Ytgglffmfkhbcgaa
open Go.ChangeShapes Go.WideShapes Go.ChangeAt Go.RowKit
theorem beginF_eq {op : List Pc} {wide : Int} {pls : List Pl} {lines high : Int} {cut : Bool} {row : List Pc} : beginF ⟨op, wide, pls, lines, high, cut⟩ row = ⟨row, (sumL (0 :: (gwP row).drop 1)).1, pls, lines, high, cut || !(sumL (0 :: (gwP row).drop 1)).2⟩ := by
  simp only [beginF]
theorem takeF_none {room align : Int} {s : Fs} {row : List Pc} (h : s.op = []) : takeF room align s row = beginF s row := by
  simp only [takeF, h, if_true]
theorem takeF_fits {room align : Int} {s : Fs} {row : List Pc} (h : s.op ≠ []) (hf : (sumL (s.wide :: gwP row)).1 ≤ room) : takeF room align s row = ⟨s.op ++ row, (sumL (s.wide :: gwP row)).1, s.pls, s.lines, s.high, s.cut || !(sumL (s.wide :: gwP row)).2⟩ := by
  simp only [takeF, if_neg h, if_pos hf]
theorem takeF_new {room align : Int} {s : Fs} {row : List Pc} (h : s.op ≠ []) (hf : ¬ (sumL (s.wide :: gwP row)).1 ≤ room) : takeF room align s row = beginF (endF room align s) row := by
  simp only [takeF, if_neg h, if_neg hf]
set_option maxHeartbeats 16000000 in
set_option maxRecDepth 100000 in
theorem take_any (E base g : Nat) (room align : Int) (s : Fs) (w : World) (h : FilS w E base g room align s) (hEg : E ≤ g) (hgb : g < base) (hbw : base ≤ w.heap.size)
    (r1 : 0 ≤ room) (r2 : room ≤ 1099511627776) (r3 : 0 ≤ s.wide) (r4 : s.wide ≤ 1099511627776) (hmay : mayP s.op = true) (hp1 : s.pls.length ≤ 100000) (l1 : 0 ≤ s.lines) (l2 : s.lines ≤ 100000)
    (ad : Addr) (n : Nat) (row : List Pc) (hab : ad.block < E) (hrow : Reads w E 6 (some ad) n (flatP row)) (hn0 : 0 < n) (hon : s.op.length + n ≤ 100000) :
    Calls Try.prog 30 #[.pointer (some ⟨g, 0, none⟩), .slice (some ad) n n] w fun e w' => e = .returned (.tuple #[]) ∧ FilS w' E base g room align (takeF room align s row) ∧ KB g base w w' := by
  have hrl := len_P hrow
  obtain ⟨N, hN⟩ : ∃ N, N = (gwP row).length := ⟨_, rfl⟩
  have hN2 : N ≤ n * 2 := by rw [hN, gwP_len, hrl]; exact Nat.le_refl _
  have HN := Lib.hid hN
  obtain ⟨N2, hN3⟩ : ∃ N2, N2 = N - 1 := ⟨_, rfl⟩
  have hN4 : N2 ≤ n * 2 := by omega
  have HN3 := Lib.hid hN3
  clear hN3
  clear hN
  have HRL := Lib.hid hrl
  clear hrl
  by_cases hz : s.op = []
  · rw [takeF_none hz]
    obtain ⟨op, wide, pls, lines, high, cut⟩ := s
    obtain ⟨vo, vp, K, hO, hP⟩ := h
    simp only at hz K hP
    subst hz
    rw [beginF_eq]
    obtain ⟨A, c, rfl⟩ := opn_form hO
    have cK : w.cell? ⟨g, 2, none⟩ = some (.slice A 0 c) := K.cell 2
    obtain ⟨vo, hvo⟩ : ∃ vo, vo = Value.slice A 0 c := ⟨_, rfl⟩
    change Blk w g 60 (filC room align (.slice A 0 c) wide vp lines high cut) at K
    rw [← hvo] at K
    have HVO := Lib.hid hvo
    clear hvo
    obtain ⟨W, hW⟩ : ∃ W, W = w := ⟨_, rfl⟩
    have hk : KB g base w W := by rw [hW]; exact KB.refl _ _ _
    have hcalls : Calls Try.prog 30 #[.pointer (some ⟨g, 0, none⟩), .slice (some ad) n n] W fun e w' => e = .returned (.tuple #[]) ∧ FilS w' E base g room align ⟨row, (sumL (0 :: (gwP row).drop 1)).1, pls, lines, high, cut || !(sumL (0 :: (gwP row).drop 1)).2⟩ ∧ KB g base w w' := by
      rw [← hW] at K hP hrow cK
      clear hW hO
      have hEW : E ≤ W.heap.size := Nat.le_trans (by omega) (Nat.le_trans hbw hk.size)
      have hbW : base ≤ W.heap.size := Nat.le_trans hbw hk.size
      have cg := fun w' (hb : Below W.heap.size W w') => gaw_row (some ad) n n w'.heap.size row w' (Nat.le_refl _) ((hrow.below (hb.mono hEW)).more (Nat.le_trans hEW hb.size)) (by omega) hn0 N N2 HN.out HN3.out
      have hb0 := Below.refl W.heap.size W
      have cw := fun w' b c' (hr' : Reads w' w'.heap.size 1 (some b) N2 (((gwP row).drop 1).map (Value.int .i64))) => widened_any (some b) N2 c' w'.heap.size 0 ((gwP row).drop 1) w' (Nat.le_refl _) hr' (by omega)
      obtain ⟨sm, hsm⟩ : ∃ sm, sm = (sumL (0 :: (gwP row).drop 1)).1 := ⟨_, rfl⟩
      obtain ⟨so, hso⟩ : ∃ so, so = (sumL (0 :: (gwP row).drop 1)).2 := ⟨_, rfl⟩
      simp only [← hsm, ← hso] at cw
      have HSM := Lib.hid hsm
      have HSO := Lib.hid hso
      clear hsm hso
      go_enter Try.func30, Try.ntmps30
      go_wp2_with (first
        | (go_at_call 50; (with_reducible refine (cg _ (by with_reducible assumption)).mono ?_); rintro e w1 ⟨b, b2, c', c2, rfl, hr1, hr1t, hsl, hb1⟩
           have K1 := K.below hb1 K.lt
           have cw1 := cw w1 b2 c2 hr1t)
        | (go_at_call 49; (with_reducible refine cw1.mono ?_); rintro e w2 ⟨rfl, hb2⟩
           have K2 := K1.below hb2 K1.lt
           have nu := numberL_any g sm so cut w2 (K2.cell 7) (K2.frozen 7))
        | (go_at_call 51; (with_reducible refine nu.mono ?_); rintro e w9 ⟨rfl, rfl⟩
           have K3 := K2.set_ 7 (.bool (cut || !so))
           rw [filC_cut] at K3
           have f32 := K3.frozen 2
           have c32 : (w2.setCell ⟨g, 7, none⟩ (.bool (cut || !so))).cell? ⟨g, 2, none⟩ = some vo := K3.cell 2
           have K4 := K3.set_ 2 (.slice (some ad) n n)
           rw [filC_open] at K4
           have f43 := K4.frozen 3
           have c43 : ((w2.setCell ⟨g, 7, none⟩ (.bool (cut || !so))).setCell ⟨g, 2, none⟩ (.slice (some ad) n n)).cell? ⟨g, 3, none⟩ = some (.int .i64 wide) := K4.cell 3
           have K5 := K4.set_ 3 (.int .i64 sm)
           rw [filC_wide] at K5))
      go_end0
      have hbb := hb1.trans (hb2.mono hb1.size)
      have hO2 : OpnO w2 E base (.slice (some ad) n n) row := .inr ⟨ad, by rw [HRL.out], hab, by rw [HRL.out]; exact hrow.below (hbb.mono hEW)⟩
      have hP2 : PlsO w2 base vp pls := own_below hP hbb
      have hk2 := kb_below hk hbW hbb
      have hO3 := opn_set hO2 K2 hEg (p := ⟨g, 7, none⟩) rfl (.bool (cut || !so))
      have hP3 := pls_set hP2 K2 (p := ⟨g, 7, none⟩) rfl (.bool (cut || !so))
      have hk3 := kb_set hk2 (p := ⟨g, 7, none⟩) rfl (.bool (cut || !so))
      have hO4 := opn_set hO3 K3 hEg (p := ⟨g, 2, none⟩) rfl (.slice (some ad) n n)
      have hP4 := pls_set hP3 K3 (p := ⟨g, 2, none⟩) rfl (.slice (some ad) n n)
      have hk4 := kb_set hk3 (p := ⟨g, 2, none⟩) rfl (.slice (some ad) n n)
      have hO5 := opn_set hO4 K4 hEg (p := ⟨g, 3, none⟩) rfl (.int .i64 sm)
      have hP5 := pls_set hP4 K4 (p := ⟨g, 3, none⟩) rfl (.int .i64 sm)
      have hk5 := kb_set hk4 (p := ⟨g, 3, none⟩) rfl (.int .i64 sm)
      rw [← HSM.out, ← HSO.out]
      exact ⟨rfl, ⟨_, vp, K5, hO5, hP5⟩, hk5⟩
    rw [hW] at hcalls
    exact hcalls
  · obtain ⟨op, wide, pls, lines, high, cut⟩ := s
    have hFS := h
    obtain ⟨vo, vp, K, hO, hP⟩ := h
    simp only at hz r3 r4 hmay hp1 l1 l2 hon K hO hP
    have hE0 : E ≤ w.heap.size := by omega
    obtain ⟨A, c, rfl⟩ := opn_form hO
    have hop0 : 0 < op.length := List.length_pos_iff.2 hz
    have cK : w.cell? ⟨g, 2, none⟩ = some (.slice A op.length c) := K.cell 2
    have cK3 : w.cell? ⟨g, 3, none⟩ = some (.int .i64 wide) := K.cell 3
    have hb0 : Below w.heap.size w w.drew := below_dr (Below.refl _ _) 1
    have cg0 := fun w' (hb : Below w.heap.size w w') => gaw_row (some ad) n n w'.heap.size row w' (Nat.le_refl _) ((hrow.below (hb.mono hE0)).more (Nat.le_trans hE0 hb.size)) (by omega) hn0 N N2 HN.out HN3.out
    have cw0 := fun w' b c' (hr' : Reads w' w'.heap.size 1 (some b) N ((gwP row).map (Value.int .i64))) => widened_any (some b) N c' w'.heap.size wide (gwP row) w' (Nat.le_refl _) hr' (by omega)
    obtain ⟨m, hm⟩ : ∃ m, m = op.length := ⟨_, rfl⟩
    have HM := Lib.hid hm
    rw [← hm] at cK hop0 hon
    have K : Blk w g 60 (filC room align (.slice A m c) wide vp lines high cut) := by rw [hm]; exact K
    have hO : OpnO w E base (.slice A m c) op := by rw [hm]; exact hO
    clear hm
    have hm0 : (0 : Int) < (m : Int) := by omega
    have hSk : ∀ w', Below w.heap.size w w' → w'.cell? ⟨g, 3, none⟩ = some (.int .i64 wide) := fun w' hb => (hb.cell (p := ⟨g, 3, none⟩) K.lt).trans cK3
    obtain ⟨st, hst⟩ : ∃ st, st = takeF room align ⟨op, wide, pls, lines, high, cut⟩ row := ⟨_, rfl⟩
    rw [← hst]
    have HST := Lib.hid hst
    clear hst
    obtain ⟨sm, hsm⟩ : ∃ sm, sm = (sumL (wide :: gwP row)).1 := ⟨_, rfl⟩
    obtain ⟨so, hso⟩ : ∃ so, so = (sumL (wide :: gwP row)).2 := ⟨_, rfl⟩
    simp only [← hsm, ← hso] at cw0
    have HSM := Lib.hid hsm
    have HSO := Lib.hid hso
    clear hsm hso
    go_enter Try.func30, Try.ntmps30
    go_wp2
    go_region_held3 (fun W' => W'.cell? ⟨g, 3, none⟩ = some (.int .i64 wide))
      (first | (with_reducible assumption) | exact hSk _ hb0 | exact hSk _ hb1 | exact hSk _ hb2)
      (first
        | (go_at_call 50; (with_reducible refine (cg0 _ (by with_reducible assumption)).mono ?_); rintro e w1 ⟨b, b2, c', c2, rfl, hr1, hr1t, hsl, hb1'⟩
           have hb1 := below_next hb0 hb1'
           have cw1 := cw0 w1 b c' hr1)
        | (go_at_call 49; (with_reducible refine cw1.mono ?_); rintro e w2 ⟨rfl, hb2'⟩
           have hb2 := below_next hb1 hb2'))
    have K2 := K.below hb2 K.lt
    have hO2 := opn_below hE0 hO hb2
    have hP2 : PlsO w2 base vp pls := own_below hP hb2
    have hk2 := KB.of_below g hb2 hbw
    have hs2 : base ≤ w2.heap.size := Nat.le_trans hbw hb2.size
    have hrow2 := hrow.below (hb2.mono hE0)
    have c20 : w2.cell? ⟨g, 0, none⟩ = some (.int .i64 room) := K2.cell 0
    have c22 : w2.cell? ⟨g, 2, none⟩ = some (.slice A m c) := K2.cell 2
    clear hSk cg0 cw0 cw1 cK cK3 hb0 hb1 hb2 hb1' hb2' hr1 hr1t hsl K hO hP hFS
    by_cases hf : sm ≤ room
    · have nu3 := fun w' (k7 : w'.cell? ⟨g, 7, none⟩ = some (.bool cut)) (kf : w'.frozen? ⟨g, 7, none⟩ = false) => numberL_any g sm so cut w' k7 kf
      go_wp2_with (first
        | (at_builtin; refine wpList_opn _ rfl (.tmp 33) (.tmp 34) rfl E base _ op row rfl hO2 hs2 E (some ad) n n rfl hrow2 (by rw [← HM.out]; omega) hn0 ?_; intro v' w3 row3 hO3 hg3 hr3
           obtain ⟨A3, c3, hv3⟩ := opn_form hO3
           subst hv3
           have K3 := K2.grownT hg3 hr3 (by decide)
           have nu4 := nu3 w3 (K3.cell 7) (K3.frozen 7)
           have hP3 : PlsO w3 base vp pls := own_grownT hP2 hg3 hr3 (by decide)
           have hk3 := hk2.grown hg3 hs2 (fun k hk => ⟨(hr3 k hk).1, _, (hr3 k hk).2⟩)
           obtain ⟨m3, hm3⟩ : ∃ m3, m3 = (op ++ row).length := ⟨_, rfl⟩
           rw [← hm3] at hO3 ⊢
           have HM3 := Lib.hid hm3
           clear hm3 hg3 hr3)
        | (go_at_call 51; (with_reducible refine nu4.mono ?_); rintro e w9 ⟨rfl, rfl⟩
           have K4 := K3.set_ 7 (.bool (cut || !so))
           rw [filC_cut] at K4
           have f42 := K4.frozen 2
           have c42 : (w3.setCell ⟨g, 7, none⟩ (.bool (cut || !so))).cell? ⟨g, 2, none⟩ = some (.slice A m c) := K4.cell 2
           have K5 := K4.set_ 2 (.slice A3 m3 c3)
           rw [filC_open] at K5
           have f53 := K5.frozen 3
           have c53 : ((w3.setCell ⟨g, 7, none⟩ (.bool (cut || !so))).setCell ⟨g, 2, none⟩ (.slice A3 m3 c3)).cell? ⟨g, 3, none⟩ = some (.int .i64 wide) := K5.cell 3
           have K6 := K5.set_ 3 (.int .i64 sm)
           rw [filC_wide] at K6))
      refine bodyPost_ret (results_none rfl _ _ _) rfl ?_
      have hO4 := opn_set hO3 K3 hEg (p := ⟨g, 7, none⟩) rfl (.bool (cut || !so))
      have hP4 := pls_set hP3 K3 (p := ⟨g, 7, none⟩) rfl (.bool (cut || !so))
      have hk4 := kb_set hk3 (p := ⟨g, 7, none⟩) rfl (.bool (cut || !so))
      have hO5 := opn_set hO4 K4 hEg (p := ⟨g, 2, none⟩) rfl (.slice A3 m3 c3)
      have hP5 := pls_set hP4 K4 (p := ⟨g, 2, none⟩) rfl (.slice A3 m3 c3)
      have hk5 := kb_set hk4 (p := ⟨g, 2, none⟩) rfl (.slice A3 m3 c3)
      have hO6 := opn_set hO5 K5 hEg (p := ⟨g, 3, none⟩) rfl (.int .i64 sm)
      have hP6 := pls_set hP5 K5 (p := ⟨g, 3, none⟩) rfl (.int .i64 sm)
      have hk6 := kb_set hk5 (p := ⟨g, 3, none⟩) rfl (.int .i64 sm)
      refine ⟨rfl, ?_, hk6⟩
      rw [HST.out, takeF_fits hz (by rw [← HSM.out]; exact hf)]
      simp only [← HSM.out, ← HSO.out]
      exact ⟨_, vp, K6, hO6, hP6⟩
    · have ce := end_any E base g room align ⟨op, wide, pls, lines, high, cut⟩ w2 ⟨_, vp, K2, hO2, hP2⟩ hEg hgb hs2 r1 r2 r3 r4 hmay (by rw [← HM.out]; omega) hp1 l1 l2
      obtain ⟨s3, hs3⟩ : ∃ s3, s3 = endF room align ⟨op, wide, pls, lines, high, cut⟩ := ⟨_, rfl⟩
      rw [← hs3] at ce
      have HS3 := Lib.hid hs3
      have HSMo := HSM
      clear hs3 HSM HSO
      have hnf : ¬ sm ≤ room := hf
      go_upto_region 5 with (go_at_call 31; (with_reducible refine ce.mono ?_); rintro e W ⟨rfl, hFS3, hk3⟩)
      have hk := hk2.trans hk3
      have hrowW : Reads W E 6 (some ad) n (flatP row) := hrow2.keep fun p hp => World.cell?_of_block (hk3.but.block p.block (by omega) (by omega))
      clear hrow hrow2 hk2 hk3 K2 hO2 hP2 ce c20 c22
      have hrow := hrowW
      obtain ⟨op3, wide3, pls3, lines3, high3, cut3⟩ := s3
      obtain ⟨vo3, vp3, K3, hO3, hP3⟩ := hFS3
      clear hO3
      simp only at K3 hP3
      clear r3 r4 hmay l1 l2 hp1
      have K := K3
      have hP := hP3
      clear K3 hP3
      generalize hwv : wide3 = wide' at *
      have hEW : E ≤ W.heap.size := Nat.le_trans (by omega) (Nat.le_trans hbw hk.size)
      have hbW : base ≤ W.heap.size := Nat.le_trans hbw hk.size
      have cg := fun w' (hb : Below W.heap.size W w') => gaw_row (some ad) n n w'.heap.size row w' (Nat.le_refl _) ((hrow.below (hb.mono hEW)).more (Nat.le_trans hEW hb.size)) (by omega) hn0 N N2 HN.out HN3.out
      have hb0 := Below.refl W.heap.size W
      have cw := fun w' b c' (hr' : Reads w' w'.heap.size 1 (some b) N2 (((gwP row).drop 1).map (Value.int .i64))) => widened_any (some b) N2 c' w'.heap.size 0 ((gwP row).drop 1) w' (Nat.le_refl _) hr' (by omega)
      obtain ⟨sm2, hsm⟩ : ∃ sm2, sm2 = (sumL (0 :: (gwP row).drop 1)).1 := ⟨_, rfl⟩
      obtain ⟨so2, hso⟩ : ∃ so2, so2 = (sumL (0 :: (gwP row).drop 1)).2 := ⟨_, rfl⟩
      simp only [← hsm, ← hso] at cw
      have HSM := Lib.hid hsm
      have HSO := Lib.hid hso
      clear hsm hso
      go_wp2_with (first
        | (go_at_call 50; (with_reducible refine (cg _ (by with_reducible assumption)).mono ?_); rintro e w1 ⟨b, b2, c', c2, rfl, hr1, hr1t, hsl, hb1⟩
           have K1 := K.below hb1 K.lt
           have cw1 := cw w1 b2 c2 hr1t)
        | (go_at_call 49; (with_reducible refine cw1.mono ?_); rintro e w2 ⟨rfl, hb2⟩
           have K2 := K1.below hb2 K1.lt
           have nu := numberL_any g sm2 so2 cut3 w2 (K2.cell 7) (K2.frozen 7))
        | (go_at_call 51; (with_reducible refine nu.mono ?_); rintro e w9 ⟨rfl, rfl⟩
           have K3 := K2.set_ 7 (.bool (cut3 || !so2))
           rw [filC_cut] at K3
           have f32 := K3.frozen 2
           have c32 : (w2.setCell ⟨g, 7, none⟩ (.bool (cut3 || !so2))).cell? ⟨g, 2, none⟩ = some vo3 := K3.cell 2
           have K4 := K3.set_ 2 (.slice (some ad) n n)
           rw [filC_open] at K4
           have f43 := K4.frozen 3
           have c43 : ((w2.setCell ⟨g, 7, none⟩ (.bool (cut3 || !so2))).setCell ⟨g, 2, none⟩ (.slice (some ad) n n)).cell? ⟨g, 3, none⟩ = some (.int .i64 wide') := K4.cell 3
           have K5 := K4.set_ 3 (.int .i64 sm2)
           rw [filC_wide] at K5))
      go_end0
      have hbb := hb1.trans (hb2.mono hb1.size)
      have hO2 : OpnO w2 E base (.slice (some ad) n n) row := .inr ⟨ad, by rw [HRL.out], hab, by rw [HRL.out]; exact hrow.below (hbb.mono hEW)⟩
      have hP2 : PlsO w2 base vp3 pls3 := own_below hP hbb
      have hk2 := kb_below hk hbW hbb
      have hO3 := opn_set hO2 K2 hEg (p := ⟨g, 7, none⟩) rfl (.bool (cut3 || !so2))
      have hP3 := pls_set hP2 K2 (p := ⟨g, 7, none⟩) rfl (.bool (cut3 || !so2))
      have hk3 := kb_set hk2 (p := ⟨g, 7, none⟩) rfl (.bool (cut3 || !so2))
      have hO4 := opn_set hO3 K3 hEg (p := ⟨g, 2, none⟩) rfl (.slice (some ad) n n)
      have hP4 := pls_set hP3 K3 (p := ⟨g, 2, none⟩) rfl (.slice (some ad) n n)
      have hk4 := kb_set hk3 (p := ⟨g, 2, none⟩) rfl (.slice (some ad) n n)
      have hO5 := opn_set hO4 K4 hEg (p := ⟨g, 3, none⟩) rfl (.int .i64 sm2)
      have hP5 := pls_set hP4 K4 (p := ⟨g, 3, none⟩) rfl (.int .i64 sm2)
      have hk5 := kb_set hk4 (p := ⟨g, 3, none⟩) rfl (.int .i64 sm2)
      rw [HST.out, takeF_new hz (by rw [← HSMo.out]; omega), ← HS3.out, beginF_eq, ← HSM.out, ← HSO.out]
      exact ⟨rfl, ⟨_, vp3, K5, hO5, hP5⟩, hk5⟩
end Go.Proofs.Ytgglffmfkhbcgaa
