/- What scan's own Words answers. Conditions: the text is not too long. -/
import Derived.Test.YtdfcahdipalmkaaGreatDoorKt
import Derived.Test.YtdfcahdipalmkaaGreatDoorScanTrimC
import Derived.Test.YtdfcahdipalmkaaGreatDoorRx7Split
import Derived.Test.YtdfcahdipalmkaaGreatDoorOpenS
import Derived.Deep.Draws
import Derived.Sort.QuietIn
import Derived.WalkSmall
/- What scan's own parts yields, handed the closure of Words. Conditions: the text is not too long; the boxes hold what parts laid. -/
namespace Go.Proofs.YtdfcahdipalmkaaGreatDoor
open Go.ChangeShapes Go.WideShapes Go.ChangeAt Go.RowKit Go.Shelf
namespace partsW
attribute [local go_sem] Oper.semAt_some
theorem wide_fn (f : FuncId) : Fence.wide.fn f = True := rfl
attribute [local go_sem] wide_fn
attribute [local simp] wide_fn
/-- A part: no longer than any text that is parted. -/
abbrev Pt := { x : List UInt8 // x.length ≤ mostB }
abbrev encs (x : Pt) : Array Value := #[.string (toB x.1)]
theorem pred_any (b : UInt8) (w : World) : Calls Tryz.prog 107 #[.int .u8 (b.toNat : Int)] w fun e w' => e = .returned (.bool (isBlank b)) ∧ w' = w := by
  have c1 := fun w => Tryz.strings_IndexByte ⟨#[32, 9, 10, 13]⟩ (b.toNat : Int) w
  have hb : ((b.toNat : Int)).toNat.toUInt8 = b := by simp
  rw [hb] at c1
  have e : isBlank b = decide (0 ≤ Lib.indexByte [32, 9, 10, 13] b) := by
    rw [← Lib.contains_iff_indexByte, ← blank_set]
  rw [e]
  change ∀ w, Calls _ _ _ w (fun e w' => e = .returned (.int .i64 (Lib.indexByte [32, 9, 10, 13] b)) ∧ w' = w) at c1
  clear e hb
  generalize Lib.indexByte [32, 9, 10, 13] b = i at *
  go_enter Tryz.func107, Tryz.ntmps107
  go_wp2_with (go_at_call 108; (with_reducible refine (c1 _).mono ?_); rintro e w' ⟨rfl, rfl⟩)
  go_ret
  exact ⟨rfl, rfl⟩
set_option maxHeartbeats 8000000 in
set_option maxRecDepth 100000 in
theorem iter_in (l n Bs Bp  n₁ L : Nat) (s : ByteArray) (hs : s.size ≤ mostB)  (hn : 1 ≤ n) (hBs : Bs < n₁) (hBp : Bp < n₁) (hLs : Bs ≠ L) (hLp : Bp ≠ L)  (J Jx : List Pt → World → Prop) (W : World) (hJ : AbidesFrom W.heap.size J)
    (hY : ∀ pre x W1, J pre W1 → pre.length < s.size + 1 → YieldAt Fence.wide (n - 1) Tryz.prog l (encs x) W1 fun e W' =>
      (e = .returned (.bool true) ∧ J (pre ++ [x]) W' ∧ KeepsBut L n₁ W1 W') ∨ (e = .returned (.bool false) ∧ Jx (pre ++ [x]) W'))
    (hc1 : W.cell? ⟨Bs, 0, none⟩ = some (.string s)) (hc2 : W.cell? ⟨Bp, 0, none⟩ = some (.func (.func 107) #[] #[]))  (h0 : J [] W) :
    CallsIn Fence.wide n Tryz.prog 103 #[.func (.yield l) #[] #[], .pointer (some ⟨Bs, 0, none⟩), .pointer (some ⟨Bp, 0, none⟩)] W fun e W' => (∃ v, e = .returned v) ∧
      ((∃ ys : List Pt, ys.map (·.1) = partsAt isBlank s.data.toList ∧ J ys W') ∨ (∃ pre : List Pt, True ∧ Jx pre W')) := by
  unfold mostB at hs
  refine callsIn_of_wp Tryz.func103 rfl trivial ?_ rfl
  simp only [Tryz.ntmps103, List.size_toArray, List.length_cons, List.length_nil, Nat.reduceAdd, Nat.reduceSub, Array.replicate_succ, Array.replicate_zero, List.push_toArray, List.append_toArray, List.nil_append, List.cons_append]
  gi_wp2
  gi_loopw [8, 4] (fun i b wr => ∃ (k beg : Nat) (ys : List Pt), i = .int .i64 k ∧ b = .int .i64 beg ∧ beg ≤ k ∧ k ≤ s.size ∧ ys.length ≤ beg ∧ Hid (partsAt isBlank s.data.toList = ys.map (·.1) ++ partsAt isBlank (s.data.toList.drop beg)) ∧ Hid (∀ c ∈ (s.data.toList.take k).drop beg, isBlank c = false) ∧ Hid (J ys wr) ∧ KeepsBut L n₁ W wr)
    (fun i _ _ => s.size - (intOf i).toNat)
  case atStart => exact ⟨0, 0, [], rfl, rfl, Nat.le_refl _, Nat.zero_le _, Nat.le_refl _, rfl, fun c hc => by simp at hc, h0, KeepsBut.refl _ _ _⟩
  case round =>
    obtain ⟨k, beg, ys, rfl, rfl, hbk, hk, hyl, HP, HN, HJ, hKB⟩ := hrel
    have d1 : wr.cell? ⟨Bs, 0, none⟩ = some (.string s) := (hKB.cell hBs hLs).trans hc1
    have d2 : wr.cell? ⟨Bp, 0, none⟩ = some (.func (.func 107) #[] #[]) := (hKB.cell hBp hLp).trans hc2
    
    by_cases hkl : k < s.size
    · have cp := fun w0 (_ : True) => pred_any (s[k])  w0 
      have HJ1 : ∀ q, Hid (J ys (wr.drewN q)) := fun q => hJ ys wr (wr.drewN q) none HJ.out ⟨rfl, rfl, rfl, Nat.le_refl _, fun _ _ _ => rfl⟩ (fun r e => by cases e)
      cases hp : isBlank s[k]
      · have HN' : Hid (∀ c ∈ (s.data.toList.take (k + 1)).drop beg, isBlank c = false) := by
          intro c hc
          rw [List.take_succ_eq_append_getElem (l := s.data.toList) (i := k) (by rw [size_list]; exact hkl), List.drop_append_of_le_length (by rw [List.length_take, size_list]; omega)] at hc
          rcases List.mem_append.1 hc with h | h
          · exact HN.out c h
          · obtain rfl := List.mem_singleton.1 h; exact hp
        rw [hp] at cp
        clear hp
        gi_wp2
        gi_quiet ((gi_at_call 107; refine CallsIn.quiet_of_same (callsIn_wide.2 (cp _ trivial))))
        gi_wp2
        go_roundw
        case rel => exact ⟨k + 1, beg, ys, by go_num, rfl, by omega, by omega, hyl, HP, HN', HJ1 _, hKB.trans (.of_below L (below_drewN (Below.refl _ _) _))⟩
        case measure => simp [intOf]; omega
      · have hlx : (s.extract beg k).data.toList.length ≤ mostB := by unfold mostB; rw [size_list, ByteArray.size_extract]; omega
        have HP' : Hid (partsAt isBlank s.data.toList = (ys ++ [(⟨_, hlx⟩ : Pt)]).map (·.1) ++ partsAt isBlank (s.data.toList.drop (k + 1))) := by
          show partsAt isBlank s.data.toList = _
          have e : s.data.toList.drop beg = (s.extract beg k).data.toList ++ s[k] :: s.data.toList.drop (k + 1) := by
            rw [extract_list]
            have e1 : s.data.toList = s.data.toList.take k ++ s[k] :: s.data.toList.drop (k + 1) := by
              conv => lhs; rw [← List.take_append_drop k s.data.toList]
              rw [List.drop_eq_getElem_cons (l := s.data.toList) (i := k) (by rw [size_list]; exact hkl)]
              rfl
            conv => lhs; rw [e1]
            rw [List.drop_append_of_le_length (by rw [List.length_take, size_list]; omega)]
          rw [HP.out, e, partsAt_some _ _ _ (by rw [extract_list]; exact HN.out) hp, List.map_append]
          simp
        have hsl : ∀ w, (Instr.slice 9 (.string s) (some (.int .i64 beg)) (some (.int .i64 k)) none).run Tryz.prog w = .ok (.string (s.extract beg k)) w := by
          intro w
          have := run_slice_string (P := Tryz.prog) w 9 s .i64 .i64 beg k Tryz.underlying9 (by omega) (by omega) (by omega)
          rwa [Int.toNat_natCast, Int.toNat_natCast] at this
        rw [hp] at cp
        clear hp
        gi_wp2
        gi_quiet ((gi_at_call 107; refine CallsIn.quiet_of_same (callsIn_wide.2 (cp _ trivial))))
        obtain ⟨fn, tmps, assign, body, hy, hR⟩ := hY ys ⟨_, hlx⟩ _ (HJ1 nq).out (by omega)
        dsimp only [encs] at hy
        rw [toB_list] at hy
        gi_wp2
        refine hR.mono ?_
        rintro e W3 (⟨rfl, hJ3, hk3⟩ | ⟨rfl, hJx3⟩)
        · gi_wp2
          go_roundw
          case rel => exact ⟨k + 1, k + 1, ys ++ [⟨_, hlx⟩], by go_num, by go_num, Nat.le_refl _, by omega, by simp; omega, HP', fun c hc => by rw [List.drop_of_length_le (by rw [List.length_take]; omega)] at hc; simp at hc, Lib.hid hJ3, (hKB.trans (.of_below L (below_drewN (Below.refl _ _) _))).trans hk3⟩
          case measure => simp [intOf]; omega
        · gi_wp2
          refine bodyPost_ret (results_none rfl _ _ _) rfl ?_
          exact ⟨⟨_, rfl⟩, .inr ⟨_, trivial, hJx3⟩⟩
    · obtain rfl : k = s.size := by omega
      have hlx : (s.extract beg s.size).data.toList.length ≤ mostB := by unfold mostB; rw [size_list, ByteArray.size_extract]; omega
      have hall : (ys ++ [(⟨_, hlx⟩ : Pt)]).map (·.1) = partsAt isBlank s.data.toList := by
        have htk : s.data.toList.take s.size = s.data.toList := List.take_of_length_le (by rw [size_list]; exact Nat.le_refl _)
        have e : s.data.toList.drop beg = (s.extract beg s.size).data.toList := by rw [extract_list, htk]
        have hn := HN.out
        rw [htk] at hn
        rw [HP.out, partsAt_none _ hn, List.map_append, e]
        rfl
      have HA := Lib.hid hall
      have hsl : ∀ w, (Instr.slice 9 (.string s) (some (.int .i64 beg)) none none).run Tryz.prog w = .ok (.string (s.extract beg s.size)) w := by
        intro w
        have := run_slice_string_l (P := Tryz.prog) (w := w) (t := 9) (s := s) Tryz.underlying9 .i64 beg (by omega) (by omega)
        rwa [Int.toNat_natCast] at this
      obtain ⟨fn, tmps, assign, body, hy, hR⟩ := hY ys ⟨_, hlx⟩ _ HJ.out (by omega)
      dsimp only [encs] at hy
      rw [toB_list] at hy
      clear hall HP HN
      gi_wp2
      refine hR.mono ?_
      rintro e W3 (⟨rfl, hJ3, hk3⟩ | ⟨rfl, hJx3⟩)
      · gi_wp2
        go_end0
        exact ⟨⟨_, rfl⟩, .inl ⟨_, HA.out, hJ3⟩⟩
      · gi_wp2
        go_end0
        exact ⟨⟨_, rfl⟩, .inr ⟨_, trivial, hJx3⟩⟩
theorem parts_any (s : ByteArray)  (w : World) : Calls Tryz.prog 57 #[.string s, .func (.func 107) #[] #[]] w fun e w' =>
    e = .returned (.func (.func 103) #[] #[.pointer (some ⟨w.heap.size, 0, none⟩), .pointer (some ⟨w.heap.size + 1, 0, none⟩)]) ∧ w' = (w.alloc (.cells #[.string s] 9)).alloc (.cells #[.func (.func 107) #[] #[]] 121) := by
  go_enter Tryz.func57, Tryz.ntmps57
  go_wp2
  go_ret
  exact ⟨rfl, rfl⟩
theorem iter_stops (n Bs Bp  n₁ L : Nat) (s : ByteArray) (hs : s.size ≤ mostB)  (hn : 1 ≤ n) (hBs : Bs < n₁) (hBp : Bp < n₁) (hLs : Bs ≠ L) (hLp : Bp ≠ L)  (w : World) (hw : n₁ ≤ w.heap.size)
    (hc1 : w.cell? ⟨Bs, 0, none⟩ = some (.string s)) (hc2 : w.cell? ⟨Bp, 0, none⟩ = some (.func (.func 107) #[] #[]))  :
    SeqStopsK Fence.wide n Tryz.prog 103 #[.pointer (some ⟨Bs, 0, none⟩), .pointer (some ⟨Bp, 0, none⟩)] encs (KeepsBut L n₁) (fun ys => ys.map (·.1) = partsAt isBlank s.data.toList) (fun _ => True) (s.size + 1) w :=
  fun l J Jx W hW hJ _ hY h0 => iter_in l n Bs Bp  n₁ L s hs  hn hBs hBp hLs hLp  J Jx W hJ hY ((hW.cell (p := ⟨Bs, 0, none⟩) (by show Bs < w.heap.size; omega)).trans hc1) ((hW.cell (p := ⟨Bp, 0, none⟩) (by show Bp < w.heap.size; omega)).trans hc2)  h0
end partsW
end Go.Proofs.YtdfcahdipalmkaaGreatDoor
namespace Go.Proofs.YtdfcahdipalmkaaGreatDoor
open Go.ChangeShapes Go.WideShapes Go.ChangeAt Go.RowKit Go.Shelf
namespace partsW
attribute [local go_sem] Oper.semAt_some
attribute [local go_sem] wide_fn
attribute [local simp] wide_fn
def ne (pre : List Pt) : List (List UInt8) := (pre.map (·.1)).filter fun w => !w.isEmpty
theorem ne_hit (pre : List Pt) (x : Pt) (h : x.1.isEmpty = false) : ne (pre ++ [x]) = ne pre ++ [x.1] := by simp [ne, List.filter_append, h]
theorem ne_miss (pre : List Pt) (x : Pt) (h : x.1.isEmpty = true) : ne (pre ++ [x]) = ne pre := by simp [ne, List.filter_append, h]
theorem ne_len (pre : List Pt) : (ne pre).length ≤ pre.length := by
  have := List.length_filter_le (fun w : List UInt8 => !w.isEmpty) (pre.map (·.1))
  rw [List.length_map] at this
  exact this
set_option maxHeartbeats 8000000 in
set_option maxRecDepth 100000 in
theorem words_in (s : ByteArray) (hs : s.size ≤ mostB) (w : World) :
    CallsIn Fence.wide 8 Tryz.prog 64 #[.string s] w fun e w' => ∃ A n c, e = .returned (.slice A n c) ∧ Reads w' w'.heap.size 1 A n (strs (wordsF s.data.toList)) ∧ Below w.heap.size w w' := by
  obtain ⟨i0, hi0, hz0, hz1, hz2⟩ := info_parts str_info
  have hs' : s.size ≤ 1000000 := hs
  refine callsIn_of_wp_marks Tryz.func64 rfl trivial ?_ rfl
  simp only [Tryz.ntmps64, List.size_toArray, List.length_cons, List.length_nil, Nat.reduceAdd, Nat.reduceSub, Array.replicate_succ, Array.replicate_zero, List.push_toArray, List.append_toArray, List.nil_append, List.cons_append]
  gi_wp2_with (gi_at_call 57; (with_reducible refine (callsIn_wide.2 (parts_any s _)).mono ?_); rintro e w' ⟨rfl, rfl⟩)
  have bO := Boxed.new w 49 (.slice none 0 0)
  have hB0 : Below w.heap.size w (w.alloc (.cells #[.slice none 0 0] 49)) := below_al (Below.refl _ _) _
  have bS := Boxed.new (w.alloc (.cells #[.slice none 0 0] 49)) 9 (.string s)
  have bP := Boxed.new ((w.alloc (.cells #[.slice none 0 0] 49)).alloc (.cells #[.string s] 9)) 121 (.func (.func 107) #[] #[])
  simp only [World.size_alloc] at bS bP
  have hB1 := below_al hB0 (.cells #[.string s] 9)
  have hB2 := below_al hB1 (.cells #[.func (.func 107) #[] #[]] 121)
  have bO2 := (bO.alloc (.cells #[.string s] 9)).alloc (.cells #[.func (.func 107) #[] #[]] 121)
  have bS2 := bS.alloc (.cells #[.func (.func 107) #[] #[]] 121)
  have hsz : (((w.alloc (.cells #[.slice none 0 0] 49)).alloc (.cells #[.string s] 9)).alloc (.cells #[.func (.func 107) #[] #[]] 121)).heap.size = w.heap.size + 3 := by simp only [World.size_alloc]
  obtain ⟨W0, hW0⟩ : ∃ W0, ((w.alloc (.cells #[.slice none 0 0] 49)).alloc (.cells #[.string s] 9)).alloc (.cells #[.func (.func 107) #[] #[]] 121) = W0 := ⟨_, rfl⟩
  rw [hW0] at hB2 bO2 bS2 bP hsz ⊢
  clear hW0 bO bS hB0 hB1
  refine wpIn_rangeFunc_ownG (F := Fence.wide) rfl (by omega) (gf := 103) (lb := #[.pointer (some ⟨w.heap.size + 1, 0, none⟩), .pointer (some ⟨w.heap.size + 1 + 1, 0, none⟩)]) rfl trivial (enters_of Tryz.func103 (by kernel_rfl) rfl)
    (iter_stops 7 (w.heap.size + 1) (w.heap.size + 1 + 1) (w.heap.size + 3) w.heap.size s hs (by omega) (by omega) (by omega) (by omega) (by omega) W0 (by omega) bS2.cell bP.cell) keepsBut_t (keepsBut_b (by omega)) (Below.refl _ _) (fun _ => rfl)
    (fun pre W => (∃ v, Boxed W w.heap.size 49 v ∧ W.ownsRow (w.heap.size + 3) 9 1 v (ne pre).length (strs (ne pre)) ∧ True) ∧ KeepsBut w.heap.size (w.heap.size + 3) W0 W)
    (fun _ _ _ => False)
    (OwnFrom.and (Own.from (holdsRow_own (w.heap.size + 3) w.heap.size 49 9 1 (fun pre => (ne pre).length) (fun pre => strs (ne pre)) (fun pre v => True)) _) (ownFrom_keepsBut (by omega) (by omega)))
    (fun _ _ _ _ _ hs _ _ => hs)
    ⟨⟨_, bO2, World.ownsRow_nil _ _ _ _, trivial⟩, KeepsBut.refl _ _ _⟩
    (fun x => { tmps := #[.string s, undef, .slice none 0 0, .pointer (some ⟨w.heap.size, 0, none⟩), .string (toB x.1), .string s, .func (.func 103) #[] #[.pointer (some ⟨w.heap.size + 1, 0, none⟩), .pointer (some ⟨w.heap.size + 1 + 1, 0, none⟩)], .string (toB x.1), undef, undef, undef, undef, undef, undef, undef], defers := [] }) ?assign ?body ?done ?stop
  case assign =>
    intro l x W K hK
    dsimp only [encs]
    gi_wp2
    exact hK
  case body =>
    rintro l pre x W ⟨⟨v, hv, hrow, -⟩, hK⟩ hlt
    have hc := hv.cell
    have hpl := ne_len pre
    have hsW := hK.size
    have he := toB_beq x.1
    cases hem : x.1.isEmpty
    · have hne := ne_hit pre x hem
      rw [hem] at he
      have HNE := Lib.hid hne
      clear hne hem
      gi_wp2_with (gi_at_builtin; (refine wpListIn_append_own _ rfl _ _ 49 rfl (w.heap.size + 3) 9 i0 (.string ⟨#[]⟩) 1 16 Tryz.underlying49 hi0 hz0 hz1 hz2 rfl (by decide) _ _ _ rfl (hrow.alloc _) ⟨W.heap.size, 0, none⟩ 1 1 [.string (toB x.1)] rfl rfl (cell_one_new _ _ _) (by simp [Value.oneCell']) (by simp only [maxLen]; omega) (by omega) (by simp; omega) ?_; intro v' w1 hown' hgrow _; obtain ⟨g', cap', rfl⟩ := ownsRow_succ hown'; obtain ⟨hv1, hv2, hr2, hk2, hb2⟩ := boxed_appended hv (by decide) hrow (by omega) hown' hgrow; have hc1 := hv1.cell; have hf1 := hv1.frozen))
      refine ⟨hk2.from _, hb2, ⟨_, hv2, ?_⟩, hK.trans hb2⟩
      rw [HNE.out]
      have : strs (ne pre ++ [x.1]) = strs (ne pre) ++ [.string (toB x.1)] := by unfold strs; rw [List.map_append]; rfl
      rw [this, List.length_append]
      first | exact hr2 | exact ⟨hr2, trivial⟩
    · have hne := ne_miss pre x hem
      rw [hem] at he
      have HNE := Lib.hid hne
      clear hne hem
      gi_wp2
      refine ⟨KeepsFrom.refl _ _, KeepsBut.refl _ _ _, ⟨v, hv, ?_⟩, hK⟩
      rw [HNE.out]
      first | exact hrow | exact ⟨hrow, trivial⟩
  case done =>
    rintro D ys W hD hys ⟨⟨v, hv, hrow, -⟩, hK⟩ hDef
    have hc := hv.cell
    have hlt : ∀ g, v.ownBlock = some g → True := fun _ _ => trivial
    have e : ne ys = wordsF s.data.toList := by unfold ne wordsF; rw [hys]
    rw [e] at hrow
    gi_wp2
    refine ⟨by simp, .inl ⟨_, _, rfl, run_takeDeferred hDef, ?_⟩⟩
    have hp := ownsRow_putObj hrow (.deferred none) hDef rfl
    obtain ⟨A, c, rfl⟩ := own_form' hp
    exact ⟨_, results_tmp rfl _ _ _, A, _, c, rfl, Reads.of_own hp, hB2.trans ((hK.below (m := w.heap.size) (by omega) (Nat.le_refl _)).trans (belowK_b (w := w) (Nat.le_refl _) W D _ _ (by omega) hDef rfl rfl))⟩
  case stop =>
    rintro D c pre W _ _ h _
    exact h.elim
theorem words_any : WordsC := fun s w hs => callsIn_wide.1 (words_in s hs w)
end partsW
end Go.Proofs.YtdfcahdipalmkaaGreatDoor
