/- What the landed package line's Fill answers. Conditions: the pieces lie in memory as they are read, at most 200. -/
import Derived.Test.YtgglffmfkhbcgaaLineD
import Derived.Test.YtgglffmfkhbcgaaLineE
namespace Go.Proofs.Ytgglffmfkhbcgaa
open Go.ChangeShapes Go.WideShapes Go.ChangeAt Go.RowKit Go.Shelf
namespace rowsL
attribute [local go_sem] Oper.semAt_some
attribute [local go_sem] wide_fn
attribute [local simp] wide_fn
/-! ### what a filler keeps -/
theorem cl_nn {n : Int} (h : 0 ≤ n) : 0 ≤ cl n := by unfold cl; split <;> (try split) <;> omega
theorem sumL_nn {l : List Int} (h : ∀ x ∈ l, 0 ≤ x) : 0 ≤ (sumL l).1 := by
  have key : ∀ (l : List Int) (s : Int × Bool), (∀ x ∈ l, 0 ≤ x) → 0 ≤ s.1 → 0 ≤ (l.foldl sumStep s).1 := by
    intro l
    induction l with
    | nil => intro s _ h; exact h
    | cons x l ih =>
      intro s h hs
      refine ih _ (fun y hy => h y (by simp [hy])) ?_
      have h1 := cl_nn hs
      have h2 := cl_nn (h x (by simp))
      exact cl_nn (by omega)
  exact key l (0, true) h (Int.le_refl _)
theorem gw_nn {row : List Pc} (h : mayP row = true) : ∀ x ∈ gwP row, 0 ≤ x := by
  intro x hx
  unfold gwP at hx
  obtain ⟨p, hp, hx⟩ := List.mem_flatMap.1 hx
  obtain ⟨k, hk⟩ := List.mem_iff_getElem?.1 hp
  obtain ⟨h1, _, _, _, h5, _⟩ := may_of h hk
  simp only [List.mem_cons, List.not_mem_nil, or_false] at hx
  rcases hx with rfl | rfl
  · exact h5
  · exact h1
structure GoodF (L q : Nat) (s : Fs) : Prop where
  w0 : 0 ≤ s.wide
  w1 : s.wide ≤ 1099511627776
  may : mayP s.op = true
  l0 : 0 ≤ s.lines
  l1 : s.lines ≤ q
  len : s.op.length + s.pls.length ≤ q * L
theorem good_begin {L q : Nat} {s : Fs} {row : List Pc} (h0 : 0 ≤ s.lines) (h1 : s.lines ≤ (q + 1 : Nat)) (hp : s.pls.length ≤ q * L) (hm : mayP row = true) (hl : row.length ≤ L) : GoodF L (q + 1) (beginF s row) :=
  ⟨sumL_nn (fun x hx => by
      rcases List.mem_cons.1 hx with rfl | hx
      · exact Int.le_refl _
      · exact gw_nn hm x (List.mem_of_mem_drop hx)), (sumL_bd _).2, hm, h0, h1, by show row.length + s.pls.length ≤ _; rw [Nat.succ_mul]; omega⟩
theorem good_take {L q : Nat} {room align : Int} {s : Fs} {row : List Pc} (h : GoodF L q s) (hm : mayP row = true) (hl : row.length ≤ L) : GoodF L (q + 1) (takeF room align s row) := by
  have hlen := h.len
  have l1 := h.l1
  by_cases hz : s.op = []
  · rw [takeF_none hz]
    exact good_begin h.l0 (by omega) (by omega) hm hl
  · by_cases hf : (sumL (s.wide :: gwP row)).1 ≤ room
    · rw [takeF_fits hz hf]
      refine ⟨sumL_nn (fun x hx => by
        rcases List.mem_cons.1 hx with rfl | hx
        · exact h.w0
        · exact gw_nn hm x hx), (sumL_bd _).2, ?_, h.l0, by show s.lines ≤ ((q + 1 : Nat) : Int); omega, ?_⟩
      · show mayP (s.op ++ row) = true
        have a := h.may
        unfold mayP at a hm ⊢
        rw [List.all_append, a, hm]; rfl
      · show (s.op ++ row).length + s.pls.length ≤ _
        rw [List.length_append, Nat.succ_mul]; omega
    · rw [takeF_new hz hf]
      obtain ⟨op, wide, pls, lines, high, cut⟩ := s
      have hp : (endF room align ⟨op, wide, pls, lines, high, cut⟩).pls.length = pls.length + op.length := by
        rw [endF_some hz]
        exact endAt_len _ _ _ _ _ _ (Nat.le_refl _)
      have hln : (endF room align ⟨op, wide, pls, lines, high, cut⟩).lines = lines + 1 := by rw [endF_some hz]
      have h0 := h.l0
      simp only at hlen h0 l1
      exact good_begin (by rw [hln]; omega) (by rw [hln]; omega) (by rw [hp]; omega) hm hl
theorem may_sub {l : List Pc} (h : mayP l = true) (r : Nat × Nat) : mayP (rowOf l r) = true := by
  unfold mayP rowOf at *
  rw [List.all_eq_true] at h ⊢
  exact fun x hx => h x (List.mem_of_mem_take (List.mem_of_mem_drop hx))
def fillW (l : List Pc) (room align : Int) (rs : List (Nat × Nat)) : Fs := rs.foldl (fun s r => takeF room align s (rowOf l r)) ⟨[], 0, [], 0, 0, false⟩
theorem good_fill {l : List Pc} {room align : Int} (hm : mayP l = true) : ∀ rs : List (Nat × Nat), GoodF l.length rs.length (fillW l room align rs) := by
  intro rs
  have key : ∀ (rs : List (Nat × Nat)) (q : Nat) (s : Fs), GoodF l.length q s → GoodF l.length (q + rs.length) (rs.foldl (fun s r => takeF room align s (rowOf l r)) s) := by
    intro rs
    induction rs with
    | nil => intro q s h; exact h
    | cons r rs ih =>
      intro q s h
      have := ih (q + 1) _ (good_take (room := room) (align := align) h (may_sub hm r) (by unfold rowOf; rw [List.length_drop, List.length_take]; omega))
      rw [List.length_cons, show q + (rs.length + 1) = q + 1 + rs.length by omega]
      exact this
  have := key rs 0 ⟨[], 0, [], 0, 0, false⟩ ⟨by decide, by decide, rfl, by decide, by decide, by simp⟩
  rwa [Nat.zero_add] at this
theorem reads_sub {w : World} {B : Nat} {ad : Addr} {n : Nat} {l : List Pc} (h : Reads w B 6 (some ad) n (flatP l)) {b e : Nat} (hb : b < e) (he : e ≤ n) : Reads w B 6 (some (ad.add (b * 6))) (e - b) (flatP (rowOf l (b, e))) := by
  have hl := len_P h
  obtain ⟨ad', hh, hbl, hc⟩ := h.2 (by omega)
  injection hh with hh
  subst hh
  refine ⟨by rw [flatP_len]; unfold rowOf; rw [List.length_drop, List.length_take]; congr 1; omega, fun _ => ⟨_, rfl, by rw [block_of_add]; exact hbl, fun j u hu => ?_⟩⟩
  rw [add_of_add]
  refine hc _ u ?_
  unfold rowOf at hu
  rw [← flatP_drop, ← flatP_take, List.getElem?_drop] at hu
  rw [List.getElem?_take] at hu
  split at hu
  · exact hu
  · cases hu
/-! ### a filler, where blocks turn that are no cells -/
theorem own_nocell {W W' : World} {b0 : Nat} {e : TypeId} {size n : Nat} {v : Value} {xs : List Value} {row : Option Nat} (h : W.ownsRow b0 e size v n xs) (hg : W.grownBy W' row) (hr : ∀ r, row = some r → ∃ o : Obj, W.heap[r]? = some o ∧ o.isCells = false) : W'.ownsRow b0 e size v n xs := by
  refine ⟨h.1, ?_⟩
  rcases h.2 with h2 | ⟨g, cap, cur, h1, h2, h3, h4⟩
  · exact Or.inl h2
  · refine Or.inr ⟨g, cap, cur, h1, h2, ?_, h4⟩
    exact (hg.block g (Array.getElem?_eq_some_iff.1 h3).1 (fun e => by obtain ⟨o, ho, hc⟩ := hr g e.symm; rw [h3] at ho; cases ho; cases hc)).trans h3
theorem fil_kept {W W' : World} {E base g : Nat} {room align : Int} {s : Fs} {row : Option Nat} (h : FilS W E base g room align s) (hg : W.grownBy W' row) (hr : ∀ r, row = some r → base ≤ r ∧ ∃ o : Obj, W.heap[r]? = some o ∧ o.isCells = false) (hE : E ≤ base) (hb : base ≤ W.heap.size) : FilS W' E base g room align s := by
  obtain ⟨vo, vp, K, hO, hP⟩ := h
  refine ⟨vo, vp, K.grown hg (fun e => by obtain ⟨_, o, ho, hc⟩ := hr g e.symm; unfold Blk at K; rw [K] at ho; cases ho; cases hc), ?_, own_nocell hP hg (fun r e => (hr r e).2)⟩
  rcases hO with h | ⟨ad, e, h0, hrd⟩
  · exact .inl (own_nocell h hg (fun r e => (hr r e).2))
  · exact .inr ⟨ad, e, h0, hrd.keep fun p hp => World.cell?_of_block (hg.block p.block (by omega) (fun e => by have := (hr _ e.symm).1; omega))⟩
set_option maxHeartbeats 8000000 in
set_option maxRecDepth 100000 in
theorem fill_in (A : Option Addr) (n c : Nat) (l : List Pc) (room align : Int) (w : World) (hr : Reads w w.heap.size 6 A n (flatP l)) (hn : n ≤ 200) (hnc : n ≤ c) :
    CallsIn Fence.wide 8 Try.prog 11 #[.slice A n c, .int .i64 room, .int .i64 align] w fun e w' => ∃ v, e = .returned (.tuple #[v, .int .i64 (fillH l room align), .bool (fillE l room align)]) ∧ PlsO w' w.heap.size v (fillP l room align) ∧ Below w.heap.size w w' := by
  have HL := Lib.hid (len_P hr)
  have s1 := fun w => isSize_any room w
  have s2 := mayAll_any A n c w.heap.size l w (Nat.le_refl _) hr (by omega)
  cases hz : isz room
  · have e1 : fillOk l room = false := by unfold fillOk; rw [hz]; rfl
    have e2 : fillP l room align = [] := by unfold fillP; rw [e1]; rfl
    have e3 : fillH l room align = 0 := by unfold fillH; rw [e1]; rfl
    have e4 : fillE l room align = false := by unfold fillE; rw [e1]; rfl
    rw [e2, e3, e4]
    rw [hz] at s1
    refine callsIn_of_wp_marks Try.func11 rfl trivial ?_ rfl
    simp only [Try.ntmps11, List.size_toArray, List.length_cons, List.length_nil, Nat.reduceAdd, Nat.reduceSub, Array.replicate_succ, Array.replicate_zero, List.push_toArray, List.append_toArray, List.nil_append, List.cons_append]
    gi_wp2_with (gi_at_call 27; (with_reducible refine (callsIn_wide.2 (s1 _)).mono ?_); rintro e w' ⟨rfl, rfl⟩)
    exact ⟨_, results_tmp3 rfl _ _ _, .slice none 0 0, rfl, PlsO.nil _ _, Below.refl _ _⟩
  · cases hma : mayP l
    · have e1 : fillOk l room = false := by unfold fillOk; rw [hma]; simp
      have e2 : fillP l room align = [] := by unfold fillP; rw [e1]; rfl
      have e3 : fillH l room align = 0 := by unfold fillH; rw [e1]; rfl
      have e4 : fillE l room align = false := by unfold fillE; rw [e1]; rfl
      rw [e2, e3, e4]
      rw [hz] at s1
      rw [hma] at s2
      refine callsIn_of_wp_marks Try.func11 rfl trivial ?_ rfl
      simp only [Try.ntmps11, List.size_toArray, List.length_cons, List.length_nil, Nat.reduceAdd, Nat.reduceSub, Array.replicate_succ, Array.replicate_zero, List.push_toArray, List.append_toArray, List.nil_append, List.cons_append]
      gi_wp2_with (first
        | (gi_at_call 27; (with_reducible refine (callsIn_wide.2 (s1 _)).mono ?_); rintro e w' ⟨rfl, rfl⟩)
        | (gi_at_call 28; (with_reducible refine (callsIn_wide.2 s2).mono ?_); rintro e w1 ⟨rfl, hb1⟩))
      exact ⟨_, results_tmp3 rfl _ _ _, .slice none 0 0, rfl, PlsO.nil _ _, hb1⟩
    · rw [hz] at s1
      rw [hma] at s2
      have hroom : 0 ≤ room ∧ room ≤ 1099511627776 := by unfold isz at hz; simpa using hz
      refine callsIn_of_wp_marks Try.func11 rfl trivial ?_ rfl
      simp only [Try.ntmps11, List.size_toArray, List.length_cons, List.length_nil, Nat.reduceAdd, Nat.reduceSub, Array.replicate_succ, Array.replicate_zero, List.push_toArray, List.append_toArray, List.nil_append, List.cons_append]
      gi_wp2_with (first
        | (gi_at_call 27; (with_reducible refine (callsIn_wide.2 (s1 _)).mono ?_); rintro e w' ⟨rfl, rfl⟩)
        | (gi_at_call 28; (with_reducible refine (callsIn_wide.2 s2).mono ?_); rintro e w1 ⟨rfl, hb1⟩)
        | (gi_at_call 29; (with_reducible refine (callsIn_wide.2 (rows_any A n c _)).mono ?_); rintro e w' ⟨rfl, rfl⟩))
      have KF0 := (Blk.new w1 60 (filC room align (.slice none 0 0) 0 (.slice none 0 0) 0 0 false)).alloc (.cells #[.slice A n c] 22)
      have KB0 := Blk.new (w1.alloc (.cells (filC room align (.slice none 0 0) 0 (.slice none 0 0) 0 0 false) 60)) 22 #[.slice A n c]
      have hB0 := below_al (below_al hb1 (.cells (filC room align (.slice none 0 0) 0 (.slice none 0 0) 0 0 false) 60)) (.cells #[.slice A n c] 22)
      have hsz : ((w1.alloc (.cells (filC room align (.slice none 0 0) 0 (.slice none 0 0) 0 0 false) 60)).alloc (.cells #[.slice A n c] 22)).heap.size = w1.heap.size + 2 := by simp only [World.size_alloc]
      rw [size_al] at KB0
      obtain ⟨W0, hW0⟩ : ∃ W0, ((w1.alloc (.cells (filC room align (.slice none 0 0) 0 (.slice none 0 0) 0 0 false) 60)).alloc (.cells #[.slice A n c] 22)) = W0 := ⟨_, rfl⟩
      rw [hW0] at KF0 KB0 hB0 hsz
      have hW1 := hW0
      unfold filC at hW1
      rw [hW1]
      clear hW1 hW0
      have hw1 := hb1.size
      have hr0 := hr.below hB0
      have hI0 : FilS W0 w.heap.size (w1.heap.size + 2) w1.heap.size room align ⟨[], 0, [], 0, 0, false⟩ := ⟨_, _, KF0, .inl ⟨rfl, .inl ⟨rfl, rfl⟩⟩, PlsO.nil _ _⟩
      refine wpIn_rangeFunc_ownG (F := Fence.wide) rfl (by omega) (gf := 48) (lb := #[.pointer (some ⟨w1.heap.size + 1, 0, none⟩)]) rfl trivial (enters_of Try.func48 (by kernel_rfl) rfl)
        (iter_stops 7 (w1.heap.size + 1) (w1.heap.size + 2) w1.heap.size A n c w.heap.size l hnc (by omega) (by omega) (by omega) (by omega) (by omega) (by omega) W0 (by omega) hr0 (KB0.cell 0)) keepsBut_t (keepsBut_b (by omega)) (Below.refl _ _) (fun _ => rfl)
        (fun pre W => FilS W w.heap.size (w1.heap.size + 2) w1.heap.size room align (fillW l room align (pre.map (·.1))) ∧ KeepsBut w1.heap.size (w1.heap.size + 2) W0 W)
        (fun _ _ _ => False)
        (fun pre W W' row hs hg hrr => ⟨fil_kept hs.1 hg (fun r e => ⟨by have := (hrr r e).1; omega, (hrr r e).2⟩) (by omega) (by rw [← hsz]; exact hs.2.size), hs.2.grown hg (by rw [← hsz]; exact hs.2.size) (fun k e => by have := (hrr k e).1; omega)⟩)
        (fun _ _ _ _ _ hs _ _ => hs)
        ⟨hI0, KeepsBut.refl _ _ _⟩
        (fun x => { tmps := #[.slice A n c, .int .i64 room, .int .i64 align, undef, undef, undef, .slice none 0 0, .int .i64 0, .bool false, .pointer (some ⟨w1.heap.size, 0, none⟩), .slice (A.map fun a => a.add (x.1.1 * 6)) (x.1.2 - x.1.1) (x.1.2 - x.1.1), .int .i64 room, .bool true,
          .bool false, .bool false, .slice A n c, .bool true, .bool false, .bool false, .int .i64 room, .int .i64 align,
          .agg #[.int .i64 room, .int .i64 align, .slice none 0 0, .int .i64 0, .slice none 0 0, .int .i64 0, .int .i64 0, .bool false], .slice A n c, .func (.func 48) #[] #[.pointer (some ⟨w1.heap.size + 1, 0, none⟩)],
          .slice (A.map fun a => a.add (x.1.1 * 6)) (x.1.2 - x.1.1) (x.1.2 - x.1.1), undef, undef, undef, undef, undef, undef, undef, undef, undef, undef], defers := [] }) ?assign ?body ?done ?stop
      case assign =>
        intro li x W K hK
        dsimp only [encs]
        gi_wp2
        exact hK
      case body =>
        rintro li pre ⟨⟨b, e⟩, hbe, hen⟩ W ⟨hF, hK⟩ hlt
        simp only at hbe hen
        have hWs := hK.size
        have hrW : Reads W w.heap.size 6 A n (flatP l) := hr0.keep fun p hp => World.cell?_of_block (hK.block p.block (by omega) (by omega))
        obtain ⟨ad, rfl, hab, _⟩ := hrW.2 (by omega)
        have good := good_fill (room := room) (align := align) hma (pre.map (·.1))
        have hlen := good.len
        have hlin := good.l1
        have hmul : (pre.map (·.1)).length * l.length ≤ 201 * 200 := Nat.mul_le_mul (by rw [List.length_map]; omega) (by rw [HL.out]; omega)
        have hpl : (pre.map (·.1)).length ≤ 201 := by rw [List.length_map]; omega
        have ct := take_any w.heap.size (w1.heap.size + 2) w1.heap.size room align _ W hF (by omega) (by omega) (by omega) hroom.1 hroom.2 good.w0 good.w1 good.may (by omega) good.l0 (by omega) (ad.add (b * 6)) (e - b) (rowOf l (b, e)) (by rw [block_of_add]; exact hab) (reads_sub hrW hbe hen) (by omega) (by omega)
        have hnx : takeF room align (fillW l room align (pre.map (·.1))) (rowOf l (b, e)) = fillW l room align ((pre ++ [(⟨(b, e), hbe, hen⟩ : Rw n)]).map (fun x => x.val)) := by
          unfold fillW
          rw [List.map_append, List.foldl_append]
          rfl
        have HNX := Lib.hid hnx
        clear hnx good hlen hlin hmul hpl hrW hr hr0 s1 s2
        dsimp only [Option.map]
        generalize e - b = m at *
        gi_wp2_with (gi_at_call 30; (with_reducible refine (CallsIn.inRound li (callsIn_wide.2 ct)).mono ?_); rintro e2 W' ⟨rfl, hF2, hkb⟩)
        exact ⟨hkb.oth.from _, hkb.but, by rw [← HNX.out]; exact hF2, hK.trans hkb.but⟩
      case done =>
        rintro D ys W hD hys ⟨hF, hK⟩ hDef
        have hWs := hK.size
        have good := good_fill (room := room) (align := align) hma (ys.map (·.1))
        have hlen := good.len
        have hlin := good.l1
        have hyl : (ys.map (·.1)).length ≤ 200 := by rw [hys]; have := rowsTo_len l n; omega
        have hmul : (ys.map (·.1)).length * l.length ≤ 200 * 200 := Nat.mul_le_mul hyl (by rw [HL.out]; omega)
        have ce := end_any w.heap.size (w1.heap.size + 2) w1.heap.size room align _ W hF (by omega) (by omega) (by omega) hroom.1 hroom.2 good.w0 good.w1 good.may (by omega) (by omega) good.l0 (by omega)
        have hS : endF room align (fillW l room align (ys.map (·.1))) = fillS l room align := by unfold fillS; rw [HL.out, hys]; rfl
        rw [hS] at ce
        have hok : fillOk l room = true := by unfold fillOk; rw [hz, hma]; rfl
        have e2 : fillP l room align = (fillS l room align).pls := by unfold fillP; rw [if_pos hok]
        have e3 : fillH l room align = (fillS l room align).high := by unfold fillH; rw [if_pos hok]
        have e4 : fillE l room align = !(fillS l room align).cut := by unfold fillE; rw [if_pos hok]
        clear good hlen hlin hmul hyl hr hr0 s1 s2 hF hS hok
        obtain ⟨S, hSS⟩ : ∃ S, S = fillS l room align := ⟨_, rfl⟩
        rw [← hSS] at ce e2 e3 e4
        have E2 := Lib.hid e2
        have E3 := Lib.hid e3
        have E4 := Lib.hid e4
        clear e2 e3 e4 hSS
        obtain ⟨op, wide, pls, lines, high, cut⟩ := S
        gi_wp2_with (gi_at_call 31; (with_reducible refine (callsIn_wide.2 ce).mono ?_); rintro e2 W2 ⟨rfl, ⟨vo2, vp2, K2, hO2, hP2⟩, hkb⟩)
        have c4 : W2.cell? ⟨w1.heap.size, 4, none⟩ = some vp2 := K2.cell 4
        have c6 : W2.cell? ⟨w1.heap.size, 6, none⟩ = some (.int .i64 high) := K2.cell 6
        have c7 : W2.cell? ⟨w1.heap.size, 7, none⟩ = some (.bool cut) := K2.cell 7
        have hDef2 : W2.heap[D]? = some (.deferred (some [])) := hkb.oth.same D _ hDef rfl
        gi_quiet ((fail))
        gi_wp2
        have hDef3 : (W2.drewN nq).heap[D]? = some (.deferred (some [])) := hDef2
        have hP3 : PlsO (W2.drewN nq) (w1.heap.size + 2) vp2 pls := hP2
        refine ⟨by simp, .inl ⟨_, _, rfl, run_takeDeferred hDef3, ?_⟩⟩
        have hp := ownsRow_putObj hP3 (.deferred none) hDef3 rfl
        refine ⟨_, results_tmp3 rfl _ _ _, vp2, ?_, ?_, ?_⟩
        · rw [E3.out, E4.out]; rfl
        · rw [E2.out]
          exact ownsRow_base hp (by omega)
        · exact hB0.trans (((hK.trans hkb.but).below (m := w.heap.size) (by omega) (by omega)).trans ((Below.mono (below_dr (Below.refl W2.heap.size W2) nq) (by have := hkb.size; omega)).trans (belowK_b (w := w) (Nat.le_refl _) (W2.drewN nq) D _ _ (by omega) hDef3 rfl rfl)))
      case stop =>
        rintro D c pre W _ _ h _
        exact h.elim
theorem fill_any (A : Option Addr) (n c : Nat) (l : List Pc) (room align : Int) (w : World) (hr : Reads w w.heap.size 6 A n (flatP l)) (hn : n ≤ 200) (hnc : n ≤ c) :
    Calls Try.prog 11 #[.slice A n c, .int .i64 room, .int .i64 align] w fun e w' => ∃ v, e = .returned (.tuple #[v, .int .i64 (fillH l room align), .bool (fillE l room align)]) ∧ PlsO w' w.heap.size v (fillP l room align) ∧ Below w.heap.size w w' := callsIn_wide.1 (fill_in A n c l room align w hr hn hnc)
end rowsL
end Go.Proofs.Ytgglffmfkhbcgaa
