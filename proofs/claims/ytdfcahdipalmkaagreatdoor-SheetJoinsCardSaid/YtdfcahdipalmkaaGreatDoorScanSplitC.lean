/- What scan's own Split answers. Conditions: the text is not too long. -/
import Derived.Test.YtdfcahdipalmkaaGreatDoorKt
import Derived.Test.YtdfcahdipalmkaaGreatDoorScanTrimC
import Derived.Test.YtdfcahdipalmkaaGreatDoorRx7Split
import Derived.Test.YtdfcahdipalmkaaGreatDoorOpenS
import Derived.Deep.Draws
import Derived.Sort.QuietIn
import Derived.WalkSmall
/- What scan's own parts yields, handed the closure of Split. Conditions: the text is not too long; the boxes hold what parts laid. -/
namespace Go.Proofs.YtdfcahdipalmkaaGreatDoor
open Go.ChangeShapes Go.WideShapes Go.ChangeAt Go.RowKit Go.Shelf
namespace partsS
attribute [local go_sem] Oper.semAt_some
theorem wide_fn (f : FuncId) : Fence.wide.fn f = True := rfl
attribute [local go_sem] wide_fn
attribute [local simp] wide_fn
/-- A part: no longer than any text that is parted. -/
abbrev Pt := { x : List UInt8 // x.length ≤ mostB }
abbrev encs (x : Pt) : Array Value := #[.string (toB x.1)]
def isSep (sep b : UInt8) : Bool := b == sep
theorem pred_any (b sep : UInt8) (Bq : Nat) (w : World) (hq : w.cell? ⟨Bq, 0, none⟩ = some (.int .u8 (sep.toNat : Int))) : Calls Tryz.prog 58 #[.int .u8 (b.toNat : Int), .pointer (some ⟨Bq, 0, none⟩)] w fun e w' => e = .returned (.bool (isSep sep b)) ∧ w' = w := by
  have e : isSep sep b = ((b.toNat : Int) == (sep.toNat : Int)) := by
    unfold isSep
    by_cases h : b = sep
    · subst h; simp
    · have : ¬ ((b.toNat : Int) = sep.toNat) := fun e => h (UInt8.toNat_inj.1 (by omega))
      rw [beq_eq_false_iff_ne.2 h, beq_eq_false_iff_ne.2 this]
  rw [e]
  go_enter Tryz.func58, Tryz.ntmps58
  go_wp2
  go_ret
  exact ⟨rfl, rfl⟩
set_option maxHeartbeats 8000000 in
set_option maxRecDepth 100000 in
theorem iter_in (l n Bs Bp Bq n₁ L : Nat) (s : ByteArray) (hs : s.size ≤ mostB) (sep : UInt8) (hn : 1 ≤ n) (hBs : Bs < n₁) (hBp : Bp < n₁) (hLs : Bs ≠ L) (hLp : Bp ≠ L) (hBq : Bq < n₁) (hLq : Bq ≠ L) (J Jx : List Pt → World → Prop) (W : World) (hJ : AbidesFrom W.heap.size J)
    (hY : ∀ pre x W1, J pre W1 → pre.length < s.size + 1 → YieldAt Fence.wide (n - 1) Tryz.prog l (encs x) W1 fun e W' =>
      (e = .returned (.bool true) ∧ J (pre ++ [x]) W' ∧ KeepsBut L n₁ W1 W') ∨ (e = .returned (.bool false) ∧ Jx (pre ++ [x]) W'))
    (hc1 : W.cell? ⟨Bs, 0, none⟩ = some (.string s)) (hc2 : W.cell? ⟨Bp, 0, none⟩ = some (.func (.func 58) #[] #[.pointer (some ⟨Bq, 0, none⟩)])) (hc3 : W.cell? ⟨Bq, 0, none⟩ = some (.int .u8 (sep.toNat : Int))) (h0 : J [] W) :
    CallsIn Fence.wide n Tryz.prog 103 #[.func (.yield l) #[] #[], .pointer (some ⟨Bs, 0, none⟩), .pointer (some ⟨Bp, 0, none⟩)] W fun e W' => (∃ v, e = .returned v) ∧
      ((∃ ys : List Pt, ys.map (·.1) = partsAt (isSep sep) s.data.toList ∧ J ys W') ∨ (∃ pre : List Pt, True ∧ Jx pre W')) := by
  unfold mostB at hs
  refine callsIn_of_wp Tryz.func103 rfl trivial ?_ rfl
  simp only [Tryz.ntmps103, List.size_toArray, List.length_cons, List.length_nil, Nat.reduceAdd, Nat.reduceSub, Array.replicate_succ, Array.replicate_zero, List.push_toArray, List.append_toArray, List.nil_append, List.cons_append]
  gi_wp2
  gi_loopw [8, 4] (fun i b wr => ∃ (k beg : Nat) (ys : List Pt), i = .int .i64 k ∧ b = .int .i64 beg ∧ beg ≤ k ∧ k ≤ s.size ∧ ys.length ≤ beg ∧ Hid (partsAt (isSep sep) s.data.toList = ys.map (·.1) ++ partsAt (isSep sep) (s.data.toList.drop beg)) ∧ Hid (∀ c ∈ (s.data.toList.take k).drop beg, (isSep sep) c = false) ∧ Hid (J ys wr) ∧ KeepsBut L n₁ W wr)
    (fun i _ _ => s.size - (intOf i).toNat)
  case atStart => exact ⟨0, 0, [], rfl, rfl, Nat.le_refl _, Nat.zero_le _, Nat.le_refl _, rfl, fun c hc => by simp at hc, h0, KeepsBut.refl _ _ _⟩
  case round =>
    obtain ⟨k, beg, ys, rfl, rfl, hbk, hk, hyl, HP, HN, HJ, hKB⟩ := hrel
    have d1 : wr.cell? ⟨Bs, 0, none⟩ = some (.string s) := (hKB.cell hBs hLs).trans hc1
    have d2 : wr.cell? ⟨Bp, 0, none⟩ = some (.func (.func 58) #[] #[.pointer (some ⟨Bq, 0, none⟩)]) := (hKB.cell hBp hLp).trans hc2
    have d3 : wr.cell? ⟨Bq, 0, none⟩ = some (.int .u8 (sep.toNat : Int)) := (hKB.cell hBq hLq).trans hc3
    by_cases hkl : k < s.size
    · have cp := fun w0 (h : w0.cell? ⟨Bq, 0, none⟩ = some (.int .u8 (sep.toNat : Int))) => pred_any (s[k]) sep Bq w0 h
      have HJ1 : ∀ q, Hid (J ys (wr.drewN q)) := fun q => hJ ys wr (wr.drewN q) none HJ.out ⟨rfl, rfl, rfl, Nat.le_refl _, fun _ _ _ => rfl⟩ (fun r e => by cases e)
      cases hp : (isSep sep) s[k]
      · have HN' : Hid (∀ c ∈ (s.data.toList.take (k + 1)).drop beg, (isSep sep) c = false) := by
          intro c hc
          rw [List.take_succ_eq_append_getElem (l := s.data.toList) (i := k) (by rw [size_list]; exact hkl), List.drop_append_of_le_length (by rw [List.length_take, size_list]; omega)] at hc
          rcases List.mem_append.1 hc with h | h
          · exact HN.out c h
          · obtain rfl := List.mem_singleton.1 h; exact hp
        rw [hp] at cp
        clear hp
        gi_wp2
        gi_quiet ((gi_at_call 58; refine CallsIn.quiet_of_same (callsIn_wide.2 (cp _ d3))))
        gi_wp2
        go_roundw
        case rel => exact ⟨k + 1, beg, ys, by go_num, rfl, by omega, by omega, hyl, HP, HN', HJ1 _, hKB.trans (.of_below L (below_drewN (Below.refl _ _) _))⟩
        case measure => simp [intOf]; omega
      · have hlx : (s.extract beg k).data.toList.length ≤ mostB := by unfold mostB; rw [size_list, ByteArray.size_extract]; omega
        have HP' : Hid (partsAt (isSep sep) s.data.toList = (ys ++ [(⟨_, hlx⟩ : Pt)]).map (·.1) ++ partsAt (isSep sep) (s.data.toList.drop (k + 1))) := by
          show partsAt (isSep sep) s.data.toList = _
          have e : s.data.toList.drop beg = (s.extract beg k).data.toList ++ s[k] :: s.data.toList.drop (k + 1) := by
            rw [extract_list]
            have e1 : s.data.toList = s.data.toList.take k ++ s[k] :: s.data.toList.drop (k + 1) := by
              conv => lhs; rw [← List.take_append_drop k s.data.toList]
              rw [List.drop_eq_getElem_cons (l := s.data.toList) (i := k) (by rw [size_list]; exact hkl)]
              rfl
            conv => lhs; rw [e1]
            rw [List.drop_append_of_le_length (by rw [List.length_take, size_list]; omega)]
          rw [HP.out, e, partsAt_some _ _ _ (by rw [extract_list]; exact HN.out) hp, List.map_append]
          simp
        have hsl : ∀ w, (Instr.slice 9 (.string s) (some (.int .i64 beg)) (some (.int .i64 k)) none).run Tryz.prog w = .ok (.string (s.extract beg k)) w := by
          intro w
          have := run_slice_string (P := Tryz.prog) w 9 s .i64 .i64 beg k Tryz.underlying9 (by omega) (by omega) (by omega)
          rwa [Int.toNat_natCast, Int.toNat_natCast] at this
        rw [hp] at cp
        clear hp
        gi_wp2
        gi_quiet ((gi_at_call 58; refine CallsIn.quiet_of_same (callsIn_wide.2 (cp _ d3))))
        obtain ⟨fn, tmps, assign, body, hy, hR⟩ := hY ys ⟨_, hlx⟩ _ (HJ1 nq).out (by omega)
        dsimp only [encs] at hy
        rw [toB_list] at hy
        gi_wp2
        refine hR.mono ?_
        rintro e W3 (⟨rfl, hJ3, hk3⟩ | ⟨rfl, hJx3⟩)
        · gi_wp2
          go_roundw
          case rel => exact ⟨k + 1, k + 1, ys ++ [⟨_, hlx⟩], by go_num, by go_num, Nat.le_refl _, by omega, by simp; omega, HP', fun c hc => by rw [List.drop_of_length_le (by rw [List.length_take]; omega)] at hc; simp at hc, Lib.hid hJ3, (hKB.trans (.of_below L (below_drewN (Below.refl _ _) _))).trans hk3⟩
          case measure => simp [intOf]; omega
        · gi_wp2
          refine bodyPost_ret (results_none rfl _ _ _) rfl ?_
          exact ⟨⟨_, rfl⟩, .inr ⟨_, trivial, hJx3⟩⟩
    · obtain rfl : k = s.size := by omega
      have hlx : (s.extract beg s.size).data.toList.length ≤ mostB := by unfold mostB; rw [size_list, ByteArray.size_extract]; omega
      have hall : (ys ++ [(⟨_, hlx⟩ : Pt)]).map (·.1) = partsAt (isSep sep) s.data.toList := by
        have htk : s.data.toList.take s.size = s.data.toList := List.take_of_length_le (by rw [size_list]; exact Nat.le_refl _)
        have e : s.data.toList.drop beg = (s.extract beg s.size).data.toList := by rw [extract_list, htk]
        have hn := HN.out
        rw [htk] at hn
        rw [HP.out, partsAt_none _ hn, List.map_append, e]
        rfl
      have HA := Lib.hid hall
      have hsl : ∀ w, (Instr.slice 9 (.string s) (some (.int .i64 beg)) none none).run Tryz.prog w = .ok (.string (s.extract beg s.size)) w := by
        intro w
        have := run_slice_string_l (P := Tryz.prog) (w := w) (t := 9) (s := s) Tryz.underlying9 .i64 beg (by omega) (by omega)
        rwa [Int.toNat_natCast] at this
      obtain ⟨fn, tmps, assign, body, hy, hR⟩ := hY ys ⟨_, hlx⟩ _ HJ.out (by omega)
      dsimp only [encs] at hy
      rw [toB_list] at hy
      clear hall HP HN
      gi_wp2
      refine hR.mono ?_
      rintro e W3 (⟨rfl, hJ3, hk3⟩ | ⟨rfl, hJx3⟩)
      · gi_wp2
        go_end0
        exact ⟨⟨_, rfl⟩, .inl ⟨_, HA.out, hJ3⟩⟩
      · gi_wp2
        go_end0
        exact ⟨⟨_, rfl⟩, .inr ⟨_, trivial, hJx3⟩⟩
theorem parts_any (s : ByteArray) (Bq : Nat) (w : World) : Calls Tryz.prog 57 #[.string s, .func (.func 58) #[] #[.pointer (some ⟨Bq, 0, none⟩)]] w fun e w' =>
    e = .returned (.func (.func 103) #[] #[.pointer (some ⟨w.heap.size, 0, none⟩), .pointer (some ⟨w.heap.size + 1, 0, none⟩)]) ∧ w' = (w.alloc (.cells #[.string s] 9)).alloc (.cells #[.func (.func 58) #[] #[.pointer (some ⟨Bq, 0, none⟩)]] 121) := by
  go_enter Tryz.func57, Tryz.ntmps57
  go_wp2
  go_ret
  exact ⟨rfl, rfl⟩
theorem iter_stops (n Bs Bp Bq n₁ L : Nat) (s : ByteArray) (hs : s.size ≤ mostB) (sep : UInt8) (hn : 1 ≤ n) (hBs : Bs < n₁) (hBp : Bp < n₁) (hLs : Bs ≠ L) (hLp : Bp ≠ L) (hBq : Bq < n₁) (hLq : Bq ≠ L) (w : World) (hw : n₁ ≤ w.heap.size)
    (hc1 : w.cell? ⟨Bs, 0, none⟩ = some (.string s)) (hc2 : w.cell? ⟨Bp, 0, none⟩ = some (.func (.func 58) #[] #[.pointer (some ⟨Bq, 0, none⟩)])) (hc3 : w.cell? ⟨Bq, 0, none⟩ = some (.int .u8 (sep.toNat : Int))) :
    SeqStopsK Fence.wide n Tryz.prog 103 #[.pointer (some ⟨Bs, 0, none⟩), .pointer (some ⟨Bp, 0, none⟩)] encs (KeepsBut L n₁) (fun ys => ys.map (·.1) = partsAt (isSep sep) s.data.toList) (fun _ => True) (s.size + 1) w :=
  fun l J Jx W hW hJ _ hY h0 => iter_in l n Bs Bp Bq n₁ L s hs sep hn hBs hBp hLs hLp hBq hLq J Jx W hJ hY ((hW.cell (p := ⟨Bs, 0, none⟩) (by show Bs < w.heap.size; omega)).trans hc1) ((hW.cell (p := ⟨Bp, 0, none⟩) (by show Bp < w.heap.size; omega)).trans hc2) ((hW.cell (p := ⟨Bq, 0, none⟩) (by show Bq < w.heap.size; omega)).trans hc3) h0
end partsS
end Go.Proofs.YtdfcahdipalmkaaGreatDoor
namespace Go.Proofs.YtdfcahdipalmkaaGreatDoor
open Go.ChangeShapes Go.WideShapes Go.ChangeAt Go.RowKit Go.Shelf
namespace partsS
attribute [local go_sem] Oper.semAt_some
attribute [local go_sem] wide_fn
attribute [local simp] wide_fn
def tr (pre : List Pt) : List (List UInt8) := (pre.map (·.1)).map trimL
theorem tr_more (pre : List Pt) (x : Pt) : tr (pre ++ [x]) = tr pre ++ [trimL x.1] := by simp [tr]
theorem tr_len (pre : List Pt) : (tr pre).length = pre.length := by simp [tr]
theorem reads_one (w : World) (t : TypeId) (u : Value) : Reads (w.alloc (.cells #[u] t)) (w.heap.size + 1) 1 (some ⟨w.heap.size, 0, none⟩) 1 [u] := by
  refine ⟨rfl, fun _ => ⟨_, rfl, Nat.lt_succ_self _, fun j x hx => ?_⟩⟩
  match j, hx with
  | 0, hx =>
    rw [add_zero_]
    exact ((Blk.new w t #[u]).cell 0).trans hx
set_option maxHeartbeats 8000000 in
set_option maxRecDepth 100000 in
theorem split_in (s : ByteArray) (sep : UInt8) (hs : s.size ≤ mostB) (w : World) :
    CallsIn Fence.wide 8 Tryz.prog 31 #[.string s, .int .u8 sep.toNat] w fun e w' => ∃ A n c, e = .returned (.slice A n c) ∧ Reads w' w'.heap.size 1 A n (strs (splitF sep s.data.toList)) ∧ Below w.heap.size w w' := by
  obtain ⟨i0, hi0, hz0, hz1, hz2⟩ := info_parts str_info
  have hs' : s.size ≤ 1000000 := hs
  refine callsIn_of_wp_marks Tryz.func31 rfl trivial ?_ rfl
  simp only [Tryz.ntmps31, List.size_toArray, List.length_cons, List.length_nil, Nat.reduceAdd, Nat.reduceSub, Array.replicate_succ, Array.replicate_zero, List.push_toArray, List.append_toArray, List.nil_append, List.cons_append]
  gi_wp2_with (gi_at_call 57; (with_reducible refine (callsIn_wide.2 (parts_any s w.heap.size _)).mono ?_); rintro e w' ⟨rfl, rfl⟩)
  have bQ := Boxed.new w 5 (.int .u8 (sep.toNat : Int))
  have bO := Boxed.new (w.alloc (.cells #[.int .u8 (sep.toNat : Int)] 5)) 49 (.slice none 0 0)
  have bS := Boxed.new ((w.alloc (.cells #[.int .u8 (sep.toNat : Int)] 5)).alloc (.cells #[.slice none 0 0] 49)) 9 (.string s)
  have bP := Boxed.new (((w.alloc (.cells #[.int .u8 (sep.toNat : Int)] 5)).alloc (.cells #[.slice none 0 0] 49)).alloc (.cells #[.string s] 9)) 121 (.func (.func 58) #[] #[.pointer (some ⟨w.heap.size, 0, none⟩)])
  simp only [World.size_alloc] at bO bS bP
  have hB2 := below_al (below_al (below_al (below_al (Below.refl w.heap.size w) (.cells #[.int .u8 (sep.toNat : Int)] 5)) (.cells #[.slice none 0 0] 49)) (.cells #[.string s] 9)) (.cells #[.func (.func 58) #[] #[.pointer (some ⟨w.heap.size, 0, none⟩)]] 121)
  have bQ2 := ((bQ.alloc (.cells #[.slice none 0 0] 49)).alloc (.cells #[.string s] 9)).alloc (.cells #[.func (.func 58) #[] #[.pointer (some ⟨w.heap.size, 0, none⟩)]] 121)
  have bO2 := (bO.alloc (.cells #[.string s] 9)).alloc (.cells #[.func (.func 58) #[] #[.pointer (some ⟨w.heap.size, 0, none⟩)]] 121)
  have bS2 := bS.alloc (.cells #[.func (.func 58) #[] #[.pointer (some ⟨w.heap.size, 0, none⟩)]] 121)
  have hsz : ((((w.alloc (.cells #[.int .u8 (sep.toNat : Int)] 5)).alloc (.cells #[.slice none 0 0] 49)).alloc (.cells #[.string s] 9)).alloc (.cells #[.func (.func 58) #[] #[.pointer (some ⟨w.heap.size, 0, none⟩)]] 121)).heap.size = w.heap.size + 4 := by simp only [World.size_alloc]
  obtain ⟨W0, hW0⟩ : ∃ W0, ((((w.alloc (.cells #[.int .u8 (sep.toNat : Int)] 5)).alloc (.cells #[.slice none 0 0] 49)).alloc (.cells #[.string s] 9)).alloc (.cells #[.func (.func 58) #[] #[.pointer (some ⟨w.heap.size, 0, none⟩)]] 121)) = W0 := ⟨_, rfl⟩
  rw [hW0] at hB2 bQ2 bO2 bS2 bP hsz
  try simp only [World.size_alloc]
  rw [hW0]
  clear hW0 bQ bO bS
  refine wpIn_rangeFunc_ownG (F := Fence.wide) rfl (by omega) (gf := 103) (lb := #[.pointer (some ⟨w.heap.size + 1 + 1, 0, none⟩), .pointer (some ⟨w.heap.size + 1 + 1 + 1, 0, none⟩)]) rfl trivial (enters_of Tryz.func103 (by kernel_rfl) rfl)
    (iter_stops 7 (w.heap.size + 1 + 1) (w.heap.size + 1 + 1 + 1) w.heap.size (w.heap.size + 4) (w.heap.size + 1) s hs sep (by omega) (by omega) (by omega) (by omega) (by omega) (by omega) (by omega) W0 (by omega) bS2.cell bP.cell bQ2.cell) keepsBut_t (keepsBut_b (by omega)) (Below.refl _ _) (fun _ => rfl)
    (fun pre W => (∃ v, Boxed W (w.heap.size + 1) 49 v ∧ W.ownsRow (w.heap.size + 4) 9 1 v (tr pre).length (strs (tr pre)) ∧ True) ∧ KeepsBut (w.heap.size + 1) (w.heap.size + 4) W0 W)
    (fun _ _ _ => False)
    (OwnFrom.and (Own.from (holdsRow_own (w.heap.size + 4) (w.heap.size + 1) 49 9 1 (fun pre => (tr pre).length) (fun pre => strs (tr pre)) (fun pre v => True)) _) (ownFrom_keepsBut (by omega) (by omega)))
    (fun _ _ _ _ _ hs _ _ => hs)
    ⟨⟨_, bO2, World.ownsRow_nil _ _ _ _, trivial⟩, KeepsBut.refl _ _ _⟩
    (fun x => { tmps := #[.string s, .int .u8 (sep.toNat : Int), undef, .pointer (some ⟨w.heap.size, 0, none⟩), .slice none 0 0, .pointer (some ⟨w.heap.size + 1, 0, none⟩), .string (toB x.1), .string s, .func (.func 58) #[] #[.pointer (some ⟨w.heap.size, 0, none⟩)], .func (.func 103) #[] #[.pointer (some ⟨w.heap.size + 1 + 1, 0, none⟩), .pointer (some ⟨w.heap.size + 1 + 1 + 1, 0, none⟩)], .string (toB x.1), undef, undef, undef, undef, undef, undef], defers := [] }) ?assign ?body ?done ?stop
  case assign =>
    intro l x W K hK
    dsimp only [encs]
    gi_wp2
    exact hK
  case body =>
    rintro l pre x W ⟨⟨v, hv, hrow, -⟩, hK⟩ hlt
    have hc := hv.cell
    have hpl : (tr pre).length ≤ pre.length := Nat.le_of_eq (tr_len pre)
    have hsW := hK.size
    have ct := fun w0 => trim_any (toB x.1) w0 (by rw [toB_size]; exact x.2)
    rw [onB_toB] at ct
    change ∀ w0, Calls _ _ #[.string (toB x.1)] w0 (fun e w' => e = .returned (.string (toB (trimL x.1))) ∧ Below w0.heap.size w0 w') at ct
    have HM := Lib.hid (tr_more pre x)
    generalize trimL x.1 = y at *
    gi_wp2
    refine wpIn_region_any (by kernel_rfl) ?_
    change wpAnyIn _ _ _ _ _ _ _ _ _ (World.drew _)
    refine wpAnyIn_ready (rs := [0, 1]) (by kernel_rfl) (by simp) ?_
    refine AllReadyIn.cons rfl (fun K hKK => ?_) (AllReadyIn.cons rfl (fun K hKK => ?_) AllReadyIn.nil)
    · go_simp
      refine hKK _ _ ?_
      clear hKK K
      refine wpAnyIn_ready (rs := [1]) (by kernel_rfl) (by simp) ?_
      refine AllReadyIn.cons rfl (fun K hKK => ?_) AllReadyIn.nil
      go_simp
      refine hKK _ _ ?_
      clear hKK K
      refine wpAnyIn_ready (rs := [2]) (by kernel_rfl) (by simp) ?_
      refine AllReadyIn.cons rfl (fun K hKK => ?_) AllReadyIn.nil
      go_simp
      gi_at_call 59
      with_reducible refine (CallsIn.inRound l (callsIn_wide.2 (ct _))).mono ?_
      rintro e w1 ⟨rfl, hb0⟩
      have hb1 : Below W.heap.size W w1 := ⟨hb0.os, hb0.tape, hb0.output, hb0.size, hb0.block⟩
      have hv1 : Boxed w1 (w.heap.size + 1) 49 v := boxed_below hv (n := W.heap.size) hb1 (by omega)
      have hrow1 := ownsRow_below hrow (w' := w1) hb1
      have hc1 := hv1.cell
      have hl1 : w.heap.size + 1 < w1.heap.size := hv1.lt
      have hs1 : W.heap.size ≤ w1.heap.size := hb1.size
      show K _ _
      refine hKK _ _ ?_
      clear hKK K hb0
      refine wpAnyIn_ready (rs := [3]) (by kernel_rfl) (by simp) ?_
      refine AllReadyIn.cons rfl (fun K hKK => ?_) AllReadyIn.nil
      go_simp
      refine hKK _ _ ?_
      clear hKK K
      refine wpAnyIn_ready (rs := [4]) (by kernel_rfl) (by simp) ?_
      refine AllReadyIn.cons rfl (fun K hKK => ?_) AllReadyIn.nil
      refine stepIn_append_any (w1.alloc (.cells #[.string (toB y)] 9)) (by rfl) (.tmp 11) (.tmp 14) 49 (by rfl) (w.heap.size + 4) 9 i0 (.string ⟨#[]⟩) 1 16 Tryz.underlying49 hi0 hz0 hz1 hz2 rfl (by decide) _ _ _ (by rfl) (hrow1.alloc _) (w1.heap.size + 1) (some ⟨w1.heap.size, 0, none⟩) 1 1 [.string (toB y)] (by rfl) (reads_one w1 _ _) (fun u hu => by rw [List.mem_singleton.1 hu]; rfl) (by simp only [maxLen]; omega) (by omega) (by rw [World.size_alloc]; omega) ?_
      intro v' w2 hown' hgrow
      obtain ⟨g', cap', rfl⟩ := ownsRow_succ hown'
      obtain ⟨hv3, hv4, hr2, hk2, hb2⟩ := boxed_appended hv1 (by decide) hrow1 (by omega) hown' hgrow
      have hc3 := hv3.cell
      have hf3 := hv3.frozen
      refine hKK _ _ ?_
      clear hKK K
      refine wpAnyIn_ready (rs := [5]) (by kernel_rfl) (by simp) ?_
      refine AllReadyIn.cons rfl (fun K hKK => ?_) AllReadyIn.nil
      go_simp
      refine hKK _ _ ?_
      clear hKK K
      refine wpAnyIn_done (by kernel_rfl) ?_ _
      have hkW : KeepsOthers W w1 := ⟨hb1.size, fun k o hk _ => (hb1.block k (Array.getElem?_eq_some_iff.1 hk).1).trans hk⟩
      have hbW : KeepsBut (w.heap.size + 1) (w.heap.size + 4) W w1 := .of_below _ (hb1.mono (by omega))
      refine ⟨(hkW.trans hk2).from _, hbW.trans hb2, ⟨_, hv4, ?_⟩, hK.trans (hbW.trans hb2)⟩
      rw [HM.out]
      have : strs (tr pre ++ [y]) = strs (tr pre) ++ [.string (toB y)] := by unfold strs; rw [List.map_append]; rfl
      rw [this, List.length_append]
      first | exact hr2 | exact ⟨hr2, trivial⟩
    · go_simp
      refine hKK _ _ ?_
      clear hKK K
      refine wpAnyIn_ready (rs := [0, 2]) (by kernel_rfl) (by simp) ?_
      refine AllReadyIn.cons rfl (fun K hKK => ?_) (AllReadyIn.cons rfl (fun K hKK => ?_) AllReadyIn.nil)
      · go_simp
        refine hKK _ _ ?_
        clear hKK K
        refine wpAnyIn_ready (rs := [2]) (by kernel_rfl) (by simp) ?_
        refine AllReadyIn.cons rfl (fun K hKK => ?_) AllReadyIn.nil
        go_simp
        gi_at_call 59
        with_reducible refine (CallsIn.inRound l (callsIn_wide.2 (ct _))).mono ?_
        rintro e w1 ⟨rfl, hb0⟩
        have hb1 : Below W.heap.size W w1 := ⟨hb0.os, hb0.tape, hb0.output, hb0.size, hb0.block⟩
        have hv1 : Boxed w1 (w.heap.size + 1) 49 v := boxed_below hv (n := W.heap.size) hb1 (by omega)
        have hrow1 := ownsRow_below hrow (w' := w1) hb1
        have hc1 := hv1.cell
        have hl1 : w.heap.size + 1 < w1.heap.size := hv1.lt
        have hs1 : W.heap.size ≤ w1.heap.size := hb1.size
        show K _ _
        refine hKK _ _ ?_
        clear hKK K hb0
        refine wpAnyIn_ready (rs := [3]) (by kernel_rfl) (by simp) ?_
        refine AllReadyIn.cons rfl (fun K hKK => ?_) AllReadyIn.nil
        go_simp
        refine hKK _ _ ?_
        clear hKK K
        refine wpAnyIn_ready (rs := [4]) (by kernel_rfl) (by simp) ?_
        refine AllReadyIn.cons rfl (fun K hKK => ?_) AllReadyIn.nil
        refine stepIn_append_any (w1.alloc (.cells #[.string (toB y)] 9)) (by rfl) (.tmp 11) (.tmp 14) 49 (by rfl) (w.heap.size + 4) 9 i0 (.string ⟨#[]⟩) 1 16 Tryz.underlying49 hi0 hz0 hz1 hz2 rfl (by decide) _ _ _ (by rfl) (hrow1.alloc _) (w1.heap.size + 1) (some ⟨w1.heap.size, 0, none⟩) 1 1 [.string (toB y)] (by rfl) (reads_one w1 _ _) (fun u hu => by rw [List.mem_singleton.1 hu]; rfl) (by simp only [maxLen]; omega) (by omega) (by rw [World.size_alloc]; omega) ?_
        intro v' w2 hown' hgrow
        obtain ⟨g', cap', rfl⟩ := ownsRow_succ hown'
        obtain ⟨hv3, hv4, hr2, hk2, hb2⟩ := boxed_appended hv1 (by decide) hrow1 (by omega) hown' hgrow
        have hc3 := hv3.cell
        have hf3 := hv3.frozen
        refine hKK _ _ ?_
        clear hKK K
        refine wpAnyIn_ready (rs := [5]) (by kernel_rfl) (by simp) ?_
        refine AllReadyIn.cons rfl (fun K hKK => ?_) AllReadyIn.nil
        go_simp
        refine hKK _ _ ?_
        clear hKK K
        refine wpAnyIn_done (by kernel_rfl) ?_ _
        have hkW : KeepsOthers W w1 := ⟨hb1.size, fun k o hk _ => (hb1.block k (Array.getElem?_eq_some_iff.1 hk).1).trans hk⟩
        have hbW : KeepsBut (w.heap.size + 1) (w.heap.size + 4) W w1 := .of_below _ (hb1.mono (by omega))
        refine ⟨(hkW.trans hk2).from _, hbW.trans hb2, ⟨_, hv4, ?_⟩, hK.trans (hbW.trans hb2)⟩
        rw [HM.out]
        have : strs (tr pre ++ [y]) = strs (tr pre) ++ [.string (toB y)] := by unfold strs; rw [List.map_append]; rfl
        rw [this, List.length_append]
        first | exact hr2 | exact ⟨hr2, trivial⟩
      · go_simp
        gi_at_call 59
        with_reducible refine (CallsIn.inRound l (callsIn_wide.2 (ct _))).mono ?_
        rintro e w1 ⟨rfl, hb0⟩
        have hb1 : Below W.heap.size W w1 := ⟨hb0.os, hb0.tape, hb0.output, hb0.size, hb0.block⟩
        have hv1 : Boxed w1 (w.heap.size + 1) 49 v := boxed_below hv (n := W.heap.size) hb1 (by omega)
        have hrow1 := ownsRow_below hrow (w' := w1) hb1
        have hc1 := hv1.cell
        have hl1 : w.heap.size + 1 < w1.heap.size := hv1.lt
        have hs1 : W.heap.size ≤ w1.heap.size := hb1.size
        show K _ _
        refine hKK _ _ ?_
        clear hKK K hb0
        refine wpAnyIn_ready (rs := [0, 3]) (by kernel_rfl) (by simp) ?_
        refine AllReadyIn.cons rfl (fun K hKK => ?_) (AllReadyIn.cons rfl (fun K hKK => ?_) AllReadyIn.nil)
        · go_simp
          refine hKK _ _ ?_
          clear hKK K
          refine wpAnyIn_ready (rs := [3]) (by kernel_rfl) (by simp) ?_
          refine AllReadyIn.cons rfl (fun K hKK => ?_) AllReadyIn.nil
          go_simp
          refine hKK _ _ ?_
          clear hKK K
          refine wpAnyIn_ready (rs := [4]) (by kernel_rfl) (by simp) ?_
          refine AllReadyIn.cons rfl (fun K hKK => ?_) AllReadyIn.nil
          refine stepIn_append_any (w1.alloc (.cells #[.string (toB y)] 9)) (by rfl) (.tmp 11) (.tmp 14) 49 (by rfl) (w.heap.size + 4) 9 i0 (.string ⟨#[]⟩) 1 16 Tryz.underlying49 hi0 hz0 hz1 hz2 rfl (by decide) _ _ _ (by rfl) (hrow1.alloc _) (w1.heap.size + 1) (some ⟨w1.heap.size, 0, none⟩) 1 1 [.string (toB y)] (by rfl) (reads_one w1 _ _) (fun u hu => by rw [List.mem_singleton.1 hu]; rfl) (by simp only [maxLen]; omega) (by omega) (by rw [World.size_alloc]; omega) ?_
          intro v' w2 hown' hgrow
          obtain ⟨g', cap', rfl⟩ := ownsRow_succ hown'
          obtain ⟨hv3, hv4, hr2, hk2, hb2⟩ := boxed_appended hv1 (by decide) hrow1 (by omega) hown' hgrow
          have hc3 := hv3.cell
          have hf3 := hv3.frozen
          refine hKK _ _ ?_
          clear hKK K
          refine wpAnyIn_ready (rs := [5]) (by kernel_rfl) (by simp) ?_
          refine AllReadyIn.cons rfl (fun K hKK => ?_) AllReadyIn.nil
          go_simp
          refine hKK _ _ ?_
          clear hKK K
          refine wpAnyIn_done (by kernel_rfl) ?_ _
          have hkW : KeepsOthers W w1 := ⟨hb1.size, fun k o hk _ => (hb1.block k (Array.getElem?_eq_some_iff.1 hk).1).trans hk⟩
          have hbW : KeepsBut (w.heap.size + 1) (w.heap.size + 4) W w1 := .of_below _ (hb1.mono (by omega))
          refine ⟨(hkW.trans hk2).from _, hbW.trans hb2, ⟨_, hv4, ?_⟩, hK.trans (hbW.trans hb2)⟩
          rw [HM.out]
          have : strs (tr pre ++ [y]) = strs (tr pre) ++ [.string (toB y)] := by unfold strs; rw [List.map_append]; rfl
          rw [this, List.length_append]
          first | exact hr2 | exact ⟨hr2, trivial⟩
        · go_simp
          refine hKK _ _ ?_
          clear hKK K
          refine wpAnyIn_ready (rs := [0]) (by kernel_rfl) (by simp) ?_
          refine AllReadyIn.cons rfl (fun K hKK => ?_) AllReadyIn.nil
          go_simp
          refine hKK _ _ ?_
          clear hKK K
          refine wpAnyIn_ready (rs := [4]) (by kernel_rfl) (by simp) ?_
          refine AllReadyIn.cons rfl (fun K hKK => ?_) AllReadyIn.nil
          refine stepIn_append_any (w1.alloc (.cells #[.string (toB y)] 9)) (by rfl) (.tmp 11) (.tmp 14) 49 (by rfl) (w.heap.size + 4) 9 i0 (.string ⟨#[]⟩) 1 16 Tryz.underlying49 hi0 hz0 hz1 hz2 rfl (by decide) _ _ _ (by rfl) (hrow1.alloc _) (w1.heap.size + 1) (some ⟨w1.heap.size, 0, none⟩) 1 1 [.string (toB y)] (by rfl) (reads_one w1 _ _) (fun u hu => by rw [List.mem_singleton.1 hu]; rfl) (by simp only [maxLen]; omega) (by omega) (by rw [World.size_alloc]; omega) ?_
          intro v' w2 hown' hgrow
          obtain ⟨g', cap', rfl⟩ := ownsRow_succ hown'
          obtain ⟨hv3, hv4, hr2, hk2, hb2⟩ := boxed_appended hv1 (by decide) hrow1 (by omega) hown' hgrow
          have hc3 := hv3.cell
          have hf3 := hv3.frozen
          refine hKK _ _ ?_
          clear hKK K
          refine wpAnyIn_ready (rs := [5]) (by kernel_rfl) (by simp) ?_
          refine AllReadyIn.cons rfl (fun K hKK => ?_) AllReadyIn.nil
          go_simp
          refine hKK _ _ ?_
          clear hKK K
          refine wpAnyIn_done (by kernel_rfl) ?_ _
          have hkW : KeepsOthers W w1 := ⟨hb1.size, fun k o hk _ => (hb1.block k (Array.getElem?_eq_some_iff.1 hk).1).trans hk⟩
          have hbW : KeepsBut (w.heap.size + 1) (w.heap.size + 4) W w1 := .of_below _ (hb1.mono (by omega))
          refine ⟨(hkW.trans hk2).from _, hbW.trans hb2, ⟨_, hv4, ?_⟩, hK.trans (hbW.trans hb2)⟩
          rw [HM.out]
          have : strs (tr pre ++ [y]) = strs (tr pre) ++ [.string (toB y)] := by unfold strs; rw [List.map_append]; rfl
          rw [this, List.length_append]
          first | exact hr2 | exact ⟨hr2, trivial⟩
  case done =>
    rintro D ys W hD hys ⟨⟨v, hv, hrow, -⟩, hK⟩ hDef
    have hc := hv.cell
    have hlt : ∀ g, v.ownBlock = some g → True := fun _ _ => trivial
    have e : tr ys = splitF sep s.data.toList := by unfold tr splitF; rw [hys]; rfl
    rw [e] at hrow
    gi_wp2
    refine ⟨by simp, .inl ⟨_, _, rfl, run_takeDeferred hDef, ?_⟩⟩
    have hp := ownsRow_putObj hrow (.deferred none) hDef rfl
    obtain ⟨A, c, rfl⟩ := own_form' hp
    exact ⟨_, results_tmp rfl _ _ _, A, _, c, rfl, Reads.of_own hp, hB2.trans ((hK.below (m := w.heap.size) (by omega) (by omega)).trans (belowK_b (w := w) (Nat.le_refl _) W D _ _ (by omega) hDef rfl rfl))⟩
  case stop =>
    rintro D c pre W _ _ h _
    exact h.elim
theorem split_any : SplitC := fun s sep w hs => callsIn_wide.1 (split_in s sep hs w)
end partsS
end Go.Proofs.YtdfcahdipalmkaaGreatDoor
