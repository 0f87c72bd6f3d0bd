/- What scan's own Split answers. Conditions: the text is not too long. -/
import Derived.Test.YthacboofbbfmlaaGreatDoorScanPartsS
namespace Go.Proofs.YthacboofbbfmlaaGreatDoor
open Go.ChangeShapes Go.WideShapes Go.ChangeAt Go.RowKit Go.Shelf
namespace partsS
attribute [local go_sem] Oper.semAt_some
attribute [local go_sem] wide_fn
attribute [local simp] wide_fn
def tr (pre : List Pt) : List (List UInt8) := (pre.map (·.1)).map trimL
theorem tr_more (pre : List Pt) (x : Pt) : tr (pre ++ [x]) = tr pre ++ [trimL x.1] := by simp [tr]
theorem tr_len (pre : List Pt) : (tr pre).length = pre.length := by simp [tr]
theorem reads_one (w : World) (t : TypeId) (u : Value) : Reads (w.alloc (.cells #[u] t)) (w.heap.size + 1) 1 (some ⟨w.heap.size, 0, none⟩) 1 [u] := by
  refine ⟨rfl, fun _ => ⟨_, rfl, Nat.lt_succ_self _, fun j x hx => ?_⟩⟩
  match j, hx with
  | 0, hx =>
    rw [add_zero_]
    exact ((Blk.new w t #[u]).cell 0).trans hx
set_option maxHeartbeats 8000000 in
set_option maxRecDepth 100000 in
theorem split_in (s : ByteArray) (sep : UInt8) (hs : s.size ≤ mostB) (w : World) :
    CallsIn Fence.wide 8 Tryz.prog 27 #[.string s, .int .u8 sep.toNat] w fun e w' => ∃ A n c, e = .returned (.slice A n c) ∧ Reads w' w'.heap.size 1 A n (strs (splitF sep s.data.toList)) ∧ Below w.heap.size w w' := by
  obtain ⟨i0, hi0, hz0, hz1, hz2⟩ := info_parts str_info
  have hs' : s.size ≤ 1000000 := hs
  refine callsIn_of_wp_marks Tryz.func27 rfl trivial ?_ rfl
  simp only [Tryz.ntmps27, List.size_toArray, List.length_cons, List.length_nil, Nat.reduceAdd, Nat.reduceSub, Array.replicate_succ, Array.replicate_zero, List.push_toArray, List.append_toArray, List.nil_append, List.cons_append]
  gi_wp2_with (gi_at_call 50; (with_reducible refine (callsIn_wide.2 (parts_any s w.heap.size _)).mono ?_); rintro e w' ⟨rfl, rfl⟩)
  have bQ := Boxed.new w 5 (.int .u8 (sep.toNat : Int))
  have bO := Boxed.new (w.alloc (.cells #[.int .u8 (sep.toNat : Int)] 5)) 50 (.slice none 0 0)
  have bS := Boxed.new ((w.alloc (.cells #[.int .u8 (sep.toNat : Int)] 5)).alloc (.cells #[.slice none 0 0] 50)) 9 (.string s)
  have bP := Boxed.new (((w.alloc (.cells #[.int .u8 (sep.toNat : Int)] 5)).alloc (.cells #[.slice none 0 0] 50)).alloc (.cells #[.string s] 9)) 85 (.func (.func 51) #[] #[.pointer (some ⟨w.heap.size, 0, none⟩)])
  simp only [World.size_alloc] at bO bS bP
  have hB2 := below_al (below_al (below_al (below_al (Below.refl w.heap.size w) (.cells #[.int .u8 (sep.toNat : Int)] 5)) (.cells #[.slice none 0 0] 50)) (.cells #[.string s] 9)) (.cells #[.func (.func 51) #[] #[.pointer (some ⟨w.heap.size, 0, none⟩)]] 85)
  have bQ2 := ((bQ.alloc (.cells #[.slice none 0 0] 50)).alloc (.cells #[.string s] 9)).alloc (.cells #[.func (.func 51) #[] #[.pointer (some ⟨w.heap.size, 0, none⟩)]] 85)
  have bO2 := (bO.alloc (.cells #[.string s] 9)).alloc (.cells #[.func (.func 51) #[] #[.pointer (some ⟨w.heap.size, 0, none⟩)]] 85)
  have bS2 := bS.alloc (.cells #[.func (.func 51) #[] #[.pointer (some ⟨w.heap.size, 0, none⟩)]] 85)
  have hsz : ((((w.alloc (.cells #[.int .u8 (sep.toNat : Int)] 5)).alloc (.cells #[.slice none 0 0] 50)).alloc (.cells #[.string s] 9)).alloc (.cells #[.func (.func 51) #[] #[.pointer (some ⟨w.heap.size, 0, none⟩)]] 85)).heap.size = w.heap.size + 4 := by simp only [World.size_alloc]
  obtain ⟨W0, hW0⟩ : ∃ W0, ((((w.alloc (.cells #[.int .u8 (sep.toNat : Int)] 5)).alloc (.cells #[.slice none 0 0] 50)).alloc (.cells #[.string s] 9)).alloc (.cells #[.func (.func 51) #[] #[.pointer (some ⟨w.heap.size, 0, none⟩)]] 85)) = W0 := ⟨_, rfl⟩
  rw [hW0] at hB2 bQ2 bO2 bS2 bP hsz
  try simp only [World.size_alloc]
  rw [hW0]
  clear hW0 bQ bO bS
  refine wpIn_rangeFunc_ownG (F := Fence.wide) rfl (by omega) (gf := 69) (lb := #[.pointer (some ⟨w.heap.size + 1 + 1, 0, none⟩), .pointer (some ⟨w.heap.size + 1 + 1 + 1, 0, none⟩)]) rfl trivial (enters_of Tryz.func69 (by kernel_rfl) rfl)
    (iter_stops 7 (w.heap.size + 1 + 1) (w.heap.size + 1 + 1 + 1) w.heap.size (w.heap.size + 4) (w.heap.size + 1) s hs sep (by omega) (by omega) (by omega) (by omega) (by omega) (by omega) (by omega) W0 (by omega) bS2.cell bP.cell bQ2.cell) keepsBut_t (keepsBut_b (by omega)) (Below.refl _ _) (fun _ => rfl)
    (fun pre W => (∃ v, Boxed W (w.heap.size + 1) 50 v ∧ W.ownsRow (w.heap.size + 4) 9 1 v (tr pre).length (strs (tr pre)) ∧ True) ∧ KeepsBut (w.heap.size + 1) (w.heap.size + 4) W0 W)
    (fun _ _ _ => False)
    (OwnFrom.and (Own.from (holdsRow_own (w.heap.size + 4) (w.heap.size + 1) 50 9 1 (fun pre => (tr pre).length) (fun pre => strs (tr pre)) (fun pre v => True)) _) (ownFrom_keepsBut (by omega) (by omega)))
    (fun _ _ _ _ _ hs _ _ => hs)
    ⟨⟨_, bO2, World.ownsRow_nil _ _ _ _, trivial⟩, KeepsBut.refl _ _ _⟩
    (fun x => { tmps := #[.string s, .int .u8 (sep.toNat : Int), undef, .pointer (some ⟨w.heap.size, 0, none⟩), .slice none 0 0, .pointer (some ⟨w.heap.size + 1, 0, none⟩), .string (toB x.1), .string s, .func (.func 51) #[] #[.pointer (some ⟨w.heap.size, 0, none⟩)], .func (.func 69) #[] #[.pointer (some ⟨w.heap.size + 1 + 1, 0, none⟩), .pointer (some ⟨w.heap.size + 1 + 1 + 1, 0, none⟩)], .string (toB x.1), undef, undef, undef, undef, undef, undef], defers := [] }) ?assign ?body ?done ?stop
  case assign =>
    intro l x W K hK
    dsimp only [encs]
    gi_wp2
    exact hK
  case body =>
    rintro l pre x W ⟨⟨v, hv, hrow, -⟩, hK⟩ hlt
    have hc := hv.cell
    have hpl : (tr pre).length ≤ pre.length := Nat.le_of_eq (tr_len pre)
    have hsW := hK.size
    have ct := fun w0 => trim_any (toB x.1) w0 (by rw [toB_size]; exact x.2)
    rw [onB_toB] at ct
    change ∀ w0, Calls _ _ #[.string (toB x.1)] w0 (fun e w' => e = .returned (.string (toB (trimL x.1))) ∧ Below w0.heap.size w0 w') at ct
    have HM := Lib.hid (tr_more pre x)
    generalize trimL x.1 = y at *
    gi_wp2
    refine wpIn_region_any (by kernel_rfl) ?_
    change wpAnyIn _ _ _ _ _ _ _ _ _ (World.drew _)
    refine wpAnyIn_ready (rs := [0, 1]) (by kernel_rfl) (by simp) ?_
    refine AllReadyIn.cons rfl (fun K hKK => ?_) (AllReadyIn.cons rfl (fun K hKK => ?_) AllReadyIn.nil)
    · go_simp
      refine hKK _ _ ?_
      clear hKK K
      refine wpAnyIn_ready (rs := [1]) (by kernel_rfl) (by simp) ?_
      refine AllReadyIn.cons rfl (fun K hKK => ?_) AllReadyIn.nil
      go_simp
      refine hKK _ _ ?_
      clear hKK K
      refine wpAnyIn_ready (rs := [2]) (by kernel_rfl) (by simp) ?_
      refine AllReadyIn.cons rfl (fun K hKK => ?_) AllReadyIn.nil
      go_simp
      gi_at_call 21
      with_reducible refine (CallsIn.inRound l (callsIn_wide.2 (ct _))).mono ?_
      rintro e w1 ⟨rfl, hb0⟩
      have hb1 : Below W.heap.size W w1 := ⟨hb0.os, hb0.tape, hb0.output, hb0.size, hb0.block⟩
      have hv1 : Boxed w1 (w.heap.size + 1) 50 v := boxed_below hv (n := W.heap.size) hb1 (by omega)
      have hrow1 := ownsRow_below hrow (w' := w1) hb1
      have hc1 := hv1.cell
      have hl1 : w.heap.size + 1 < w1.heap.size := hv1.lt
      have hs1 : W.heap.size ≤ w1.heap.size := hb1.size
      show K _ _
      refine hKK _ _ ?_
      clear hKK K hb0
      refine wpAnyIn_ready (rs := [3]) (by kernel_rfl) (by simp) ?_
      refine AllReadyIn.cons rfl (fun K hKK => ?_) AllReadyIn.nil
      go_simp
      refine hKK _ _ ?_
      clear hKK K
      refine wpAnyIn_ready (rs := [4]) (by kernel_rfl) (by simp) ?_
      refine AllReadyIn.cons rfl (fun K hKK => ?_) AllReadyIn.nil
      refine stepIn_append_any (w1.alloc (.cells #[.string (toB y)] 9)) (by rfl) (.tmp 11) (.tmp 14) 50 (by rfl) (w.heap.size + 4) 9 i0 (.string ⟨#[]⟩) 1 16 Tryz.underlying50 hi0 hz0 hz1 hz2 rfl (by decide) _ _ _ (by rfl) (hrow1.alloc _) (w1.heap.size + 1) (some ⟨w1.heap.size, 0, none⟩) 1 1 [.string (toB y)] (by rfl) (reads_one w1 _ _) (fun u hu => by rw [List.mem_singleton.1 hu]; rfl) (by simp only [maxLen]; omega) (by omega) (by rw [World.size_alloc]; omega) ?_
      intro v' w2 hown' hgrow
      obtain ⟨g', cap', rfl⟩ := ownsRow_succ hown'
      obtain ⟨hv3, hv4, hr2, hk2, hb2⟩ := boxed_appended hv1 (by decide) hrow1 (by omega) hown' hgrow
      have hc3 := hv3.cell
      have hf3 := hv3.frozen
      refine hKK _ _ ?_
      clear hKK K
      refine wpAnyIn_ready (rs := [5]) (by kernel_rfl) (by simp) ?_
      refine AllReadyIn.cons rfl (fun K hKK => ?_) AllReadyIn.nil
      go_simp
      refine hKK _ _ ?_
      clear hKK K
      refine wpAnyIn_done (by kernel_rfl) ?_ _
      have hkW : KeepsOthers W w1 := ⟨hb1.size, fun k o hk _ => (hb1.block k (Array.getElem?_eq_some_iff.1 hk).1).trans hk⟩
      have hbW : KeepsBut (w.heap.size + 1) (w.heap.size + 4) W w1 := .of_below _ (hb1.mono (by omega))
      refine ⟨(hkW.trans hk2).from _, hbW.trans hb2, ⟨_, hv4, ?_⟩, hK.trans (hbW.trans hb2)⟩
      rw [HM.out]
      have : strs (tr pre ++ [y]) = strs (tr pre) ++ [.string (toB y)] := by unfold strs; rw [List.map_append]; rfl
      rw [this, List.length_append]
      first | exact hr2 | exact ⟨hr2, trivial⟩
    · go_simp
      refine hKK _ _ ?_
      clear hKK K
      refine wpAnyIn_ready (rs := [0, 2]) (by kernel_rfl) (by simp) ?_
      refine AllReadyIn.cons rfl (fun K hKK => ?_) (AllReadyIn.cons rfl (fun K hKK => ?_) AllReadyIn.nil)
      · go_simp
        refine hKK _ _ ?_
        clear hKK K
        refine wpAnyIn_ready (rs := [2]) (by kernel_rfl) (by simp) ?_
        refine AllReadyIn.cons rfl (fun K hKK => ?_) AllReadyIn.nil
        go_simp
        gi_at_call 21
        with_reducible refine (CallsIn.inRound l (callsIn_wide.2 (ct _))).mono ?_
        rintro e w1 ⟨rfl, hb0⟩
        have hb1 : Below W.heap.size W w1 := ⟨hb0.os, hb0.tape, hb0.output, hb0.size, hb0.block⟩
        have hv1 : Boxed w1 (w.heap.size + 1) 50 v := boxed_below hv (n := W.heap.size) hb1 (by omega)
        have hrow1 := ownsRow_below hrow (w' := w1) hb1
        have hc1 := hv1.cell
        have hl1 : w.heap.size + 1 < w1.heap.size := hv1.lt
        have hs1 : W.heap.size ≤ w1.heap.size := hb1.size
        show K _ _
        refine hKK _ _ ?_
        clear hKK K hb0
        refine wpAnyIn_ready (rs := [3]) (by kernel_rfl) (by simp) ?_
        refine AllReadyIn.cons rfl (fun K hKK => ?_) AllReadyIn.nil
        go_simp
        refine hKK _ _ ?_
        clear hKK K
        refine wpAnyIn_ready (rs := [4]) (by kernel_rfl) (by simp) ?_
        refine AllReadyIn.cons rfl (fun K hKK => ?_) AllReadyIn.nil
        refine stepIn_append_any (w1.alloc (.cells #[.string (toB y)] 9)) (by rfl) (.tmp 11) (.tmp 14) 50 (by rfl) (w.heap.size + 4) 9 i0 (.string ⟨#[]⟩) 1 16 Tryz.underlying50 hi0 hz0 hz1 hz2 rfl (by decide) _ _ _ (by rfl) (hrow1.alloc _) (w1.heap.size + 1) (some ⟨w1.heap.size, 0, none⟩) 1 1 [.string (toB y)] (by rfl) (reads_one w1 _ _) (fun u hu => by rw [List.mem_singleton.1 hu]; rfl) (by simp only [maxLen]; omega) (by omega) (by rw [World.size_alloc]; omega) ?_
        intro v' w2 hown' hgrow
        obtain ⟨g', cap', rfl⟩ := ownsRow_succ hown'
        obtain ⟨hv3, hv4, hr2, hk2, hb2⟩ := boxed_appended hv1 (by decide) hrow1 (by omega) hown' hgrow
        have hc3 := hv3.cell
        have hf3 := hv3.frozen
        refine hKK _ _ ?_
        clear hKK K
        refine wpAnyIn_ready (rs := [5]) (by kernel_rfl) (by simp) ?_
        refine AllReadyIn.cons rfl (fun K hKK => ?_) AllReadyIn.nil
        go_simp
        refine hKK _ _ ?_
        clear hKK K
        refine wpAnyIn_done (by kernel_rfl) ?_ _
        have hkW : KeepsOthers W w1 := ⟨hb1.size, fun k o hk _ => (hb1.block k (Array.getElem?_eq_some_iff.1 hk).1).trans hk⟩
        have hbW : KeepsBut (w.heap.size + 1) (w.heap.size + 4) W w1 := .of_below _ (hb1.mono (by omega))
        refine ⟨(hkW.trans hk2).from _, hbW.trans hb2, ⟨_, hv4, ?_⟩, hK.trans (hbW.trans hb2)⟩
        rw [HM.out]
        have : strs (tr pre ++ [y]) = strs (tr pre) ++ [.string (toB y)] := by unfold strs; rw [List.map_append]; rfl
        rw [this, List.length_append]
        first | exact hr2 | exact ⟨hr2, trivial⟩
      · go_simp
        gi_at_call 21
        with_reducible refine (CallsIn.inRound l (callsIn_wide.2 (ct _))).mono ?_
        rintro e w1 ⟨rfl, hb0⟩
        have hb1 : Below W.heap.size W w1 := ⟨hb0.os, hb0.tape, hb0.output, hb0.size, hb0.block⟩
        have hv1 : Boxed w1 (w.heap.size + 1) 50 v := boxed_below hv (n := W.heap.size) hb1 (by omega)
        have hrow1 := ownsRow_below hrow (w' := w1) hb1
        have hc1 := hv1.cell
        have hl1 : w.heap.size + 1 < w1.heap.size := hv1.lt
        have hs1 : W.heap.size ≤ w1.heap.size := hb1.size
        show K _ _
        refine hKK _ _ ?_
        clear hKK K hb0
        refine wpAnyIn_ready (rs := [0, 3]) (by kernel_rfl) (by simp) ?_
        refine AllReadyIn.cons rfl (fun K hKK => ?_) (AllReadyIn.cons rfl (fun K hKK => ?_) AllReadyIn.nil)
        · go_simp
          refine hKK _ _ ?_
          clear hKK K
          refine wpAnyIn_ready (rs := [3]) (by kernel_rfl) (by simp) ?_
          refine AllReadyIn.cons rfl (fun K hKK => ?_) AllReadyIn.nil
          go_simp
          refine hKK _ _ ?_
          clear hKK K
          refine wpAnyIn_ready (rs := [4]) (by kernel_rfl) (by simp) ?_
          refine AllReadyIn.cons rfl (fun K hKK => ?_) AllReadyIn.nil
          refine stepIn_append_any (w1.alloc (.cells #[.string (toB y)] 9)) (by rfl) (.tmp 11) (.tmp 14) 50 (by rfl) (w.heap.size + 4) 9 i0 (.string ⟨#[]⟩) 1 16 Tryz.underlying50 hi0 hz0 hz1 hz2 rfl (by decide) _ _ _ (by rfl) (hrow1.alloc _) (w1.heap.size + 1) (some ⟨w1.heap.size, 0, none⟩) 1 1 [.string (toB y)] (by rfl) (reads_one w1 _ _) (fun u hu => by rw [List.mem_singleton.1 hu]; rfl) (by simp only [maxLen]; omega) (by omega) (by rw [World.size_alloc]; omega) ?_
          intro v' w2 hown' hgrow
          obtain ⟨g', cap', rfl⟩ := ownsRow_succ hown'
          obtain ⟨hv3, hv4, hr2, hk2, hb2⟩ := boxed_appended hv1 (by decide) hrow1 (by omega) hown' hgrow
          have hc3 := hv3.cell
          have hf3 := hv3.frozen
          refine hKK _ _ ?_
          clear hKK K
          refine wpAnyIn_ready (rs := [5]) (by kernel_rfl) (by simp) ?_
          refine AllReadyIn.cons rfl (fun K hKK => ?_) AllReadyIn.nil
          go_simp
          refine hKK _ _ ?_
          clear hKK K
          refine wpAnyIn_done (by kernel_rfl) ?_ _
          have hkW : KeepsOthers W w1 := ⟨hb1.size, fun k o hk _ => (hb1.block k (Array.getElem?_eq_some_iff.1 hk).1).trans hk⟩
          have hbW : KeepsBut (w.heap.size + 1) (w.heap.size + 4) W w1 := .of_below _ (hb1.mono (by omega))
          refine ⟨(hkW.trans hk2).from _, hbW.trans hb2, ⟨_, hv4, ?_⟩, hK.trans (hbW.trans hb2)⟩
          rw [HM.out]
          have : strs (tr pre ++ [y]) = strs (tr pre) ++ [.string (toB y)] := by unfold strs; rw [List.map_append]; rfl
          rw [this, List.length_append]
          first | exact hr2 | exact ⟨hr2, trivial⟩
        · go_simp
          refine hKK _ _ ?_
          clear hKK K
          refine wpAnyIn_ready (rs := [0]) (by kernel_rfl) (by simp) ?_
          refine AllReadyIn.cons rfl (fun K hKK => ?_) AllReadyIn.nil
          go_simp
          refine hKK _ _ ?_
          clear hKK K
          refine wpAnyIn_ready (rs := [4]) (by kernel_rfl) (by simp) ?_
          refine AllReadyIn.cons rfl (fun K hKK => ?_) AllReadyIn.nil
          refine stepIn_append_any (w1.alloc (.cells #[.string (toB y)] 9)) (by rfl) (.tmp 11) (.tmp 14) 50 (by rfl) (w.heap.size + 4) 9 i0 (.string ⟨#[]⟩) 1 16 Tryz.underlying50 hi0 hz0 hz1 hz2 rfl (by decide) _ _ _ (by rfl) (hrow1.alloc _) (w1.heap.size + 1) (some ⟨w1.heap.size, 0, none⟩) 1 1 [.string (toB y)] (by rfl) (reads_one w1 _ _) (fun u hu => by rw [List.mem_singleton.1 hu]; rfl) (by simp only [maxLen]; omega) (by omega) (by rw [World.size_alloc]; omega) ?_
          intro v' w2 hown' hgrow
          obtain ⟨g', cap', rfl⟩ := ownsRow_succ hown'
          obtain ⟨hv3, hv4, hr2, hk2, hb2⟩ := boxed_appended hv1 (by decide) hrow1 (by omega) hown' hgrow
          have hc3 := hv3.cell
          have hf3 := hv3.frozen
          refine hKK _ _ ?_
          clear hKK K
          refine wpAnyIn_ready (rs := [5]) (by kernel_rfl) (by simp) ?_
          refine AllReadyIn.cons rfl (fun K hKK => ?_) AllReadyIn.nil
          go_simp
          refine hKK _ _ ?_
          clear hKK K
          refine wpAnyIn_done (by kernel_rfl) ?_ _
          have hkW : KeepsOthers W w1 := ⟨hb1.size, fun k o hk _ => (hb1.block k (Array.getElem?_eq_some_iff.1 hk).1).trans hk⟩
          have hbW : KeepsBut (w.heap.size + 1) (w.heap.size + 4) W w1 := .of_below _ (hb1.mono (by omega))
          refine ⟨(hkW.trans hk2).from _, hbW.trans hb2, ⟨_, hv4, ?_⟩, hK.trans (hbW.trans hb2)⟩
          rw [HM.out]
          have : strs (tr pre ++ [y]) = strs (tr pre) ++ [.string (toB y)] := by unfold strs; rw [List.map_append]; rfl
          rw [this, List.length_append]
          first | exact hr2 | exact ⟨hr2, trivial⟩
  case done =>
    rintro D ys W hD hys ⟨⟨v, hv, hrow, -⟩, hK⟩ hDef
    have hc := hv.cell
    have hlt : ∀ g, v.ownBlock = some g → True := fun _ _ => trivial
    have e : tr ys = splitF sep s.data.toList := by unfold tr splitF; rw [hys]; rfl
    rw [e] at hrow
    gi_wp2
    refine ⟨by simp, .inl ⟨_, _, rfl, run_takeDeferred hDef, ?_⟩⟩
    have hp := ownsRow_putObj hrow (.deferred none) hDef rfl
    obtain ⟨A, c, rfl⟩ := own_form' hp
    exact ⟨_, results_tmp rfl _ _ _, A, _, c, rfl, Reads.of_own hp, hB2.trans ((hK.below (m := w.heap.size) (by omega) (by omega)).trans (belowK_b (w := w) (Nat.le_refl _) W D _ _ (by omega) hDef rfl rfl))⟩
  case stop =>
    rintro D c pre W _ _ h _
    exact h.elim
theorem split_any : SplitC := fun s sep w hs => callsIn_wide.1 (split_in s sep hs w)
end partsS
end Go.Proofs.YthacboofbbfmlaaGreatDoor
