/- What the landed package measure's Min answers. Conditions: the pieces lie in memory as they are read. -/
import Derived.Test.YtgglffmfkhbcgaaLineT
import Derived.Test.YtgglffmfkhbcgaaLineF
namespace Go.Proofs.Ytgglffmfkhbcgaa
open Go.ChangeShapes Go.WideShapes Go.ChangeAt Go.RowKit Go.Shelf
namespace meas
attribute [local go_sem] Oper.semAt_some
attribute [local go_sem] rowsL.wide_fn
attribute [local simp] rowsL.wide_fn
def minStep (l : List Pc) (s : Int × Bool) (r : Nat × Nat) : Int × Bool := (max s.1 (sumL ((gwP (rowOf l r)).drop 1)).1, s.2 && (sumL ((gwP (rowOf l r)).drop 1)).2)
def minW (l : List Pc) (rs : List (Nat × Nat)) : Int × Bool := rs.foldl (minStep l) (0, true)
def minP (l : List Pc) : Int × Bool := minW l (rowsTo l l.length).1
set_option maxHeartbeats 8000000 in
set_option maxRecDepth 100000 in
theorem min_in (A : Option Addr) (n c : Nat) (l : List Pc) (w : World) (hr : Reads w w.heap.size 6 A n (flatP l)) (hn : n ≤ 200) (hnc : n ≤ c) :
    CallsIn Fence.wide 8 Try.prog 12 #[.slice A n c] w fun e w' => e = .returned (.tuple #[.int .i64 (minP l).1, .bool (minP l).2]) ∧ Below w.heap.size w w' := by
  have HL := Lib.hid (len_P hr)
  refine callsIn_of_wp_marks Try.func12 rfl trivial ?_ rfl
  simp only [Try.ntmps12, List.size_toArray, List.length_cons, List.length_nil, Nat.reduceAdd, Nat.reduceSub, Array.replicate_succ, Array.replicate_zero, List.push_toArray, List.append_toArray, List.nil_append, List.cons_append]
  gi_wp2_with (gi_at_call 32; (with_reducible refine (callsIn_wide.2 (rows_any A n c _)).mono ?_); rintro e w' ⟨rfl, rfl⟩)
  have K1 := ((Blk.new w 2 #[.int .i64 0]).alloc (.cells #[.bool true] 4)).alloc (.cells #[.slice A n c] 22)
  have K2 := (Blk.new (w.alloc (.cells #[.int .i64 0] 2)) 4 #[.bool true]).alloc (.cells #[.slice A n c] 22)
  have K3 := Blk.new ((w.alloc (.cells #[.int .i64 0] 2)).alloc (.cells #[.bool true] 4)) 22 #[.slice A n c]
  have hB0 := below_al (below_al (below_al (Below.refl w.heap.size w) (.cells #[.int .i64 0] 2)) (.cells #[.bool true] 4)) (.cells #[.slice A n c] 22)
  have hsz : (((w.alloc (.cells #[.int .i64 0] 2)).alloc (.cells #[.bool true] 4)).alloc (.cells #[.slice A n c] 22)).heap.size = w.heap.size + 3 := by simp only [World.size_alloc]
  rw [size_al] at K2
  rw [size_al, size_al] at K3
  obtain ⟨W0, hW0⟩ : ∃ W0, (((w.alloc (.cells #[.int .i64 0] 2)).alloc (.cells #[.bool true] 4)).alloc (.cells #[.slice A n c] 22)) = W0 := ⟨_, rfl⟩
  rw [hW0] at K1 K2 K3 hB0 hsz
  rw [hW0]
  clear hW0
  have hr0 := hr.below hB0
  refine wpIn_rangeFunc_ownG (F := Fence.wide) rfl (by omega) (gf := 54) (lb := #[.pointer (some ⟨w.heap.size + 1 + 1, 0, none⟩)]) rfl trivial (enters_of Try.func54 (by kernel_rfl) rfl)
    (iter_stops 7 (w.heap.size + 1 + 1) (w.heap.size + 3) w.heap.size (w.heap.size + 1) A n c w.heap.size l hnc (by omega) (by omega) (by omega) (by omega) (by omega) (by omega) (by omega) (by omega) W0 (by omega) hr0 (K3.cell 0)) keepsTwo_t (keepsTwo_b (by omega)) (Below.refl _ _) (fun _ => rfl)
    (fun pre W => Blk W w.heap.size 2 #[.int .i64 (minW l (pre.map (·.1))).1] ∧ Blk W (w.heap.size + 1) 4 #[.bool (minW l (pre.map (·.1))).2] ∧ KeepsTwo w.heap.size (w.heap.size + 1) (w.heap.size + 3) W0 W)
    (fun _ _ _ => False)
    (fun pre W W' row hs hg hrr => ⟨hs.1.grown hg (fun e => by obtain ⟨_, o, ho, hc⟩ := hrr _ e.symm; have h1 := hs.1; unfold Blk at h1; rw [h1] at ho; cases ho; cases hc), hs.2.1.grown hg (fun e => by obtain ⟨_, o, ho, hc⟩ := hrr _ e.symm; have h1 := hs.2.1; unfold Blk at h1; rw [h1] at ho; cases ho; cases hc), hs.2.2.grown hg (by rw [← hsz]; exact hs.2.2.size) (fun k e => by have := (hrr k e).1; omega)⟩)
    (fun _ _ _ _ _ hs _ _ => hs)
    ⟨K1, K2, KeepsTwo.refl _ _ _ _⟩
    (fun x => { tmps := #[.slice A n c, undef, .int .i64 0, .bool false, .pointer (some ⟨w.heap.size, 0, none⟩), .pointer (some ⟨w.heap.size + 1, 0, none⟩), .slice (A.map fun a => a.add (x.1.1 * 6)) (x.1.2 - x.1.1) (c - x.1.1), undef, undef, .slice A n c,
      .func (.func 54) #[] #[.pointer (some ⟨w.heap.size + 1 + 1, 0, none⟩)], .slice (A.map fun a => a.add (x.1.1 * 6)) (x.1.2 - x.1.1) (c - x.1.1), undef, undef, undef, undef, undef, undef, undef, undef, undef, undef, undef, undef, undef, undef, undef, undef], defers := [] }) ?assign ?body ?done ?stop
  case assign =>
    intro li x W K hK
    dsimp only [encs]
    gi_wp2
    exact hK
  case body =>
    rintro li pre ⟨⟨b, e⟩, hbe, hen⟩ W ⟨J1, J2, hK⟩ hlt
    simp only at hbe hen
    have hWs := hK.size
    have hrW : Reads W w.heap.size 6 A n (flatP l) := hr0.keep fun p hp => World.cell?_of_block (hK.block p.block (by omega) (by omega) (by omega))
    obtain ⟨ad, rfl, hab, _⟩ := hrW.2 (by omega)
    have hrr := rowsL.reads_sub hrW hbe hen
    obtain ⟨N, hN⟩ : ∃ N, N = (gwP (rowOf l (b, e))).length := ⟨_, rfl⟩
    obtain ⟨N2, hN2⟩ : ∃ N2, N2 = N - 1 := ⟨_, rfl⟩
    have hNb : N2 ≤ 1000 := by have h1 := gwP_len (rowOf l (b, e)); have h2 := len_P hrr; omega
    have cg := gaw_row (some (ad.add (b * 6))) (e - b) (c - b) w.heap.size (rowOf l (b, e)) W (by omega) hrr (by omega) (by omega) N N2 hN hN2
    have sm := fun (b2 : Addr) (c2 : Nat) (w' : World) (h : Reads w' w'.heap.size 1 (some b2) N2 (((gwP (rowOf l (b, e))).drop 1).map (Value.int .i64))) => sum_any (some b2) N2 c2 w'.heap.size _ w' h (by omega)
    have HNX := Lib.hid (show minW l ((pre ++ [(⟨(b, e), hbe, hen⟩ : rowsL.Rw n)]).map (fun x => x.1)) = (max (minW l (pre.map (fun x => x.1))).1 (sumL ((gwP (rowOf l (b, e))).drop 1)).1, (minW l (pre.map (fun x => x.1))).2 && (sumL ((gwP (rowOf l (b, e))).drop 1)).2) by
      unfold minW; rw [List.map_append, List.foldl_append]; rfl)
    clear hrW hrr hr hr0 hN hN2 hNb
    generalize sumL ((gwP (rowOf l (b, e))).drop 1) = S at *
    generalize minW l (pre.map (fun x => x.1)) = s at J1 J2 HNX
    obtain ⟨sv, so⟩ := S
    obtain ⟨m0, x0⟩ := s
    simp only at J1 J2
    dsimp only [Option.map]
    generalize e - b = m at *
    generalize c - b = cb at *
    have hLM : w.heap.size + 1 ≠ w.heap.size := by omega
    have hML : w.heap.size ≠ w.heap.size + 1 := by omega
    cases x0
    all_goals
      gi_wp2_with (first
        | (gi_at_call 34; (with_reducible refine (CallsIn.inRound li (callsIn_wide.2 cg)).mono ?_); rintro e1 W1 ⟨b1, b2, c1, c2, rfl, hq1, hq2, hsl, hb1⟩
           have sm1 := sm b2 c2 W1 hq2
           have J11 := J1.below hb1 J1.lt
           have J21 := J2.below hb1 J2.lt
           have cc1 : W1.cell? ⟨w.heap.size, 0, none⟩ = some (.int .i64 m0) := J11.cell 0
           have cc2 := J21.cell 0
           have ff1 := J11.frozen 0
           have J12 : Blk (W1.setCell ⟨w.heap.size, 0, none⟩ (.int .i64 (max m0 sv))) w.heap.size 2 #[.int .i64 (max m0 sv)] := J11.set_ 0 _
           have J22 := J21.far (p := ⟨w.heap.size, 0, none⟩) hLM (.int .i64 (max m0 sv))
           have ff2 := J22.frozen 0
           simp only [List.getElem?_toArray, List.getElem?_cons_zero] at cc2)
        | (gi_at_call 33; (with_reducible refine (CallsIn.inRound li (callsIn_wide.2 sm1)).mono ?_); rintro e2 W2 ⟨rfl, rfl⟩))
    all_goals
      have hk1 : KeepsTwo w.heap.size (w.heap.size + 1) (w.heap.size + 3) W W1 := .of_below _ _ (hb1.mono (by omega))
      have ho1 := oth_below hb1
      have J23 := J22.set_ 0 (.bool (false && so))
      have J13 := J12.far (p := ⟨w.heap.size + 1, 0, none⟩) hML (.bool (false && so))
      have J24 := J22.set_ 0 (.bool (true && so))
      have J14 := J12.far (p := ⟨w.heap.size + 1, 0, none⟩) hML (.bool (true && so))
      simp only [Bool.true_and, Bool.false_and] at J23 J13 J24 J14 HNX
      refine ⟨((ho1.trans (KeepsOthers.setCell _ _ _)).trans (KeepsOthers.setCell _ _ _)).from _, (hk1.set1 _).set2 _, ⟨?_, ?_, hK.trans ((hk1.set1 _).set2 _)⟩⟩
      · rw [HNX.out]; first | exact J13 | exact J14
      · rw [HNX.out]; first | exact J23 | exact J24
  case done =>
    rintro D ys W hD hys ⟨J1, J2, hK⟩ hDef
    have hWs := hK.size
    have e : minW l (ys.map (fun x => x.1)) = minP l := by unfold minP; rw [HL.out, hys]
    rw [e] at J1 J2
    clear e
    have cc1 : W.cell? ⟨w.heap.size, 0, none⟩ = some (.int .i64 (minP l).1) := J1.cell 0
    have cc2 : W.cell? ⟨w.heap.size + 1, 0, none⟩ = some (.bool (minP l).2) := J2.cell 0
    gi_wp2_with (fail)
    gi_quiet ((fail))
    gi_wp2
    have hDef3 : (W.drewN nq).heap[D]? = some (.deferred (some [])) := hDef
    refine ⟨by simp, .inl ⟨_, _, rfl, run_takeDeferred hDef3, ?_⟩⟩
    refine ⟨_, results_tmp2 rfl _ _ _, rfl, ?_⟩
    exact hB0.trans (((hK).below (m := w.heap.size) (by omega) (by omega) (by omega)).trans ((Below.mono (below_dr (Below.refl W.heap.size W) nq) (by omega)).trans (belowK_b (w := w) (Nat.le_refl _) (W.drewN nq) D _ _ (by omega) hDef3 rfl rfl)))
  case stop =>
    rintro D c pre W _ _ h _
    exact h.elim
theorem min_any (A : Option Addr) (n c : Nat) (l : List Pc) (w : World) (hr : Reads w w.heap.size 6 A n (flatP l)) (hn : n ≤ 200) (hnc : n ≤ c) :
    Calls Try.prog 12 #[.slice A n c] w fun e w' => e = .returned (.tuple #[.int .i64 (minP l).1, .bool (minP l).2]) ∧ Below w.heap.size w w' := callsIn_wide.1 (min_in A n c l w hr hn hnc)
end meas
end Go.Proofs.Ytgglffmfkhbcgaa
