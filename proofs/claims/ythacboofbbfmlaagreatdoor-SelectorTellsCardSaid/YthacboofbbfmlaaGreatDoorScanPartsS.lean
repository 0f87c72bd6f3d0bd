/- What scan's own parts yields, handed the closure of Split. Conditions: the text is not too long; the boxes hold what parts laid. -/
import Derived.Test.YthacboofbbfmlaaGreatDoorKeepsBut
import Derived.Test.YthacboofbbfmlaaGreatDoorScanTrimC
import Derived.Test.YthacboofbbfmlaaGreatDoorRx7Split
import Derived.Test.YthacboofbbfmlaaGreatDoorOpenS
import Derived.Deep.Draws
import Derived.Sort.QuietIn
import Derived.WalkSmall
namespace Go.Proofs.YthacboofbbfmlaaGreatDoor
open Go.ChangeShapes Go.WideShapes Go.ChangeAt Go.RowKit Go.Shelf
namespace partsS
attribute [local go_sem] Oper.semAt_some
theorem wide_fn (f : FuncId) : Fence.wide.fn f = True := rfl
attribute [local go_sem] wide_fn
attribute [local simp] wide_fn
/-- A part: no longer than any text that is parted. -/
abbrev Pt := { x : List UInt8 // x.length ≤ mostB }
abbrev encs (x : Pt) : Array Value := #[.string (toB x.1)]
def isSep (sep b : UInt8) : Bool := b == sep
theorem pred_any (b sep : UInt8) (Bq : Nat) (w : World) (hq : w.cell? ⟨Bq, 0, none⟩ = some (.int .u8 (sep.toNat : Int))) : Calls Tryz.prog 51 #[.int .u8 (b.toNat : Int), .pointer (some ⟨Bq, 0, none⟩)] w fun e w' => e = .returned (.bool (isSep sep b)) ∧ w' = w := by
  have e : isSep sep b = ((b.toNat : Int) == (sep.toNat : Int)) := by
    unfold isSep
    by_cases h : b = sep
    · subst h; simp
    · have : ¬ ((b.toNat : Int) = sep.toNat) := fun e => h (UInt8.toNat_inj.1 (by omega))
      rw [beq_eq_false_iff_ne.2 h, beq_eq_false_iff_ne.2 this]
  rw [e]
  go_enter Tryz.func51, Tryz.ntmps51
  go_wp2
  go_ret
  exact ⟨rfl, rfl⟩
set_option maxHeartbeats 8000000 in
set_option maxRecDepth 100000 in
theorem iter_in (l n Bs Bp Bq n₁ L : Nat) (s : ByteArray) (hs : s.size ≤ mostB) (sep : UInt8) (hn : 1 ≤ n) (hBs : Bs < n₁) (hBp : Bp < n₁) (hLs : Bs ≠ L) (hLp : Bp ≠ L) (hBq : Bq < n₁) (hLq : Bq ≠ L) (J Jx : List Pt → World → Prop) (W : World) (hJ : AbidesFrom W.heap.size J)
    (hY : ∀ pre x W1, J pre W1 → pre.length < s.size + 1 → YieldAt Fence.wide (n - 1) Tryz.prog l (encs x) W1 fun e W' =>
      (e = .returned (.bool true) ∧ J (pre ++ [x]) W' ∧ KeepsBut L n₁ W1 W') ∨ (e = .returned (.bool false) ∧ Jx (pre ++ [x]) W'))
    (hc1 : W.cell? ⟨Bs, 0, none⟩ = some (.string s)) (hc2 : W.cell? ⟨Bp, 0, none⟩ = some (.func (.func 51) #[] #[.pointer (some ⟨Bq, 0, none⟩)])) (hc3 : W.cell? ⟨Bq, 0, none⟩ = some (.int .u8 (sep.toNat : Int))) (h0 : J [] W) :
    CallsIn Fence.wide n Tryz.prog 69 #[.func (.yield l) #[] #[], .pointer (some ⟨Bs, 0, none⟩), .pointer (some ⟨Bp, 0, none⟩)] W fun e W' => (∃ v, e = .returned v) ∧
      ((∃ ys : List Pt, ys.map (·.1) = partsAt (isSep sep) s.data.toList ∧ J ys W') ∨ (∃ pre : List Pt, True ∧ Jx pre W')) := by
  unfold mostB at hs
  refine callsIn_of_wp Tryz.func69 rfl trivial ?_ rfl
  simp only [Tryz.ntmps69, List.size_toArray, List.length_cons, List.length_nil, Nat.reduceAdd, Nat.reduceSub, Array.replicate_succ, Array.replicate_zero, List.push_toArray, List.append_toArray, List.nil_append, List.cons_append]
  gi_wp2
  gi_loopw [8, 4] (fun i b wr => ∃ (k beg : Nat) (ys : List Pt), i = .int .i64 k ∧ b = .int .i64 beg ∧ beg ≤ k ∧ k ≤ s.size ∧ ys.length ≤ beg ∧ Hid (partsAt (isSep sep) s.data.toList = ys.map (·.1) ++ partsAt (isSep sep) (s.data.toList.drop beg)) ∧ Hid (∀ c ∈ (s.data.toList.take k).drop beg, (isSep sep) c = false) ∧ Hid (J ys wr) ∧ KeepsBut L n₁ W wr)
    (fun i _ _ => s.size - (intOf i).toNat)
  case atStart => exact ⟨0, 0, [], rfl, rfl, Nat.le_refl _, Nat.zero_le _, Nat.le_refl _, rfl, fun c hc => by simp at hc, h0, KeepsBut.refl _ _ _⟩
  case round =>
    obtain ⟨k, beg, ys, rfl, rfl, hbk, hk, hyl, HP, HN, HJ, hKB⟩ := hrel
    have d1 : wr.cell? ⟨Bs, 0, none⟩ = some (.string s) := (hKB.cell hBs hLs).trans hc1
    have d2 : wr.cell? ⟨Bp, 0, none⟩ = some (.func (.func 51) #[] #[.pointer (some ⟨Bq, 0, none⟩)]) := (hKB.cell hBp hLp).trans hc2
    have d3 : wr.cell? ⟨Bq, 0, none⟩ = some (.int .u8 (sep.toNat : Int)) := (hKB.cell hBq hLq).trans hc3
    by_cases hkl : k < s.size
    · have cp := fun w0 (h : w0.cell? ⟨Bq, 0, none⟩ = some (.int .u8 (sep.toNat : Int))) => pred_any (s[k]) sep Bq w0 h
      have HJ1 : ∀ q, Hid (J ys (wr.drewN q)) := fun q => hJ ys wr (wr.drewN q) none HJ.out ⟨rfl, rfl, rfl, Nat.le_refl _, fun _ _ _ => rfl⟩ (fun r e => by cases e)
      cases hp : (isSep sep) s[k]
      · have HN' : Hid (∀ c ∈ (s.data.toList.take (k + 1)).drop beg, (isSep sep) c = false) := by
          intro c hc
          rw [List.take_succ_eq_append_getElem (l := s.data.toList) (i := k) (by rw [size_list]; exact hkl), List.drop_append_of_le_length (by rw [List.length_take, size_list]; omega)] at hc
          rcases List.mem_append.1 hc with h | h
          · exact HN.out c h
          · obtain rfl := List.mem_singleton.1 h; exact hp
        rw [hp] at cp
        clear hp
        gi_wp2
        gi_quiet ((gi_at_call 51; refine CallsIn.quiet_of_same (callsIn_wide.2 (cp _ d3))))
        gi_wp2
        go_roundw
        case rel => exact ⟨k + 1, beg, ys, by go_num, rfl, by omega, by omega, hyl, HP, HN', HJ1 _, hKB.trans (.of_below L (below_drewN (Below.refl _ _) _))⟩
        case measure => simp [intOf]; omega
      · have hlx : (s.extract beg k).data.toList.length ≤ mostB := by unfold mostB; rw [size_list, ByteArray.size_extract]; omega
        have HP' : Hid (partsAt (isSep sep) s.data.toList = (ys ++ [(⟨_, hlx⟩ : Pt)]).map (·.1) ++ partsAt (isSep sep) (s.data.toList.drop (k + 1))) := by
          show partsAt (isSep sep) s.data.toList = _
          have e : s.data.toList.drop beg = (s.extract beg k).data.toList ++ s[k] :: s.data.toList.drop (k + 1) := by
            rw [extract_list]
            have e1 : s.data.toList = s.data.toList.take k ++ s[k] :: s.data.toList.drop (k + 1) := by
              conv => lhs; rw [← List.take_append_drop k s.data.toList]
              rw [List.drop_eq_getElem_cons (l := s.data.toList) (i := k) (by rw [size_list]; exact hkl)]
              rfl
            conv => lhs; rw [e1]
            rw [List.drop_append_of_le_length (by rw [List.length_take, size_list]; omega)]
          rw [HP.out, e, partsAt_some _ _ _ (by rw [extract_list]; exact HN.out) hp, List.map_append]
          simp
        have hsl : ∀ w, (Instr.slice 9 (.string s) (some (.int .i64 beg)) (some (.int .i64 k)) none).run Tryz.prog w = .ok (.string (s.extract beg k)) w := by
          intro w
          have := run_slice_string (P := Tryz.prog) w 9 s .i64 .i64 beg k Tryz.underlying9 (by omega) (by omega) (by omega)
          rwa [Int.toNat_natCast, Int.toNat_natCast] at this
        rw [hp] at cp
        clear hp
        gi_wp2
        gi_quiet ((gi_at_call 51; refine CallsIn.quiet_of_same (callsIn_wide.2 (cp _ d3))))
        obtain ⟨fn, tmps, assign, body, hy, hR⟩ := hY ys ⟨_, hlx⟩ _ (HJ1 nq).out (by omega)
        dsimp only [encs] at hy
        rw [toB_list] at hy
        gi_wp2
        refine hR.mono ?_
        rintro e W3 (⟨rfl, hJ3, hk3⟩ | ⟨rfl, hJx3⟩)
        · gi_wp2
          go_roundw
          case rel => exact ⟨k + 1, k + 1, ys ++ [⟨_, hlx⟩], by go_num, by go_num, Nat.le_refl _, by omega, by simp; omega, HP', fun c hc => by rw [List.drop_of_length_le (by rw [List.length_take]; omega)] at hc; simp at hc, Lib.hid hJ3, (hKB.trans (.of_below L (below_drewN (Below.refl _ _) _))).trans hk3⟩
          case measure => simp [intOf]; omega
        · gi_wp2
          refine bodyPost_ret (results_none rfl _ _ _) rfl ?_
          exact ⟨⟨_, rfl⟩, .inr ⟨_, trivial, hJx3⟩⟩
    · obtain rfl : k = s.size := by omega
      have hlx : (s.extract beg s.size).data.toList.length ≤ mostB := by unfold mostB; rw [size_list, ByteArray.size_extract]; omega
      have hall : (ys ++ [(⟨_, hlx⟩ : Pt)]).map (·.1) = partsAt (isSep sep) s.data.toList := by
        have htk : s.data.toList.take s.size = s.data.toList := List.take_of_length_le (by rw [size_list]; exact Nat.le_refl _)
        have e : s.data.toList.drop beg = (s.extract beg s.size).data.toList := by rw [extract_list, htk]
        have hn := HN.out
        rw [htk] at hn
        rw [HP.out, partsAt_none _ hn, List.map_append, e]
        rfl
      have HA := Lib.hid hall
      have hsl : ∀ w, (Instr.slice 9 (.string s) (some (.int .i64 beg)) none none).run Tryz.prog w = .ok (.string (s.extract beg s.size)) w := by
        intro w
        have := run_slice_string_l (P := Tryz.prog) (w := w) (t := 9) (s := s) Tryz.underlying9 .i64 beg (by omega) (by omega)
        rwa [Int.toNat_natCast] at this
      obtain ⟨fn, tmps, assign, body, hy, hR⟩ := hY ys ⟨_, hlx⟩ _ HJ.out (by omega)
      dsimp only [encs] at hy
      rw [toB_list] at hy
      clear hall HP HN
      gi_wp2
      refine hR.mono ?_
      rintro e W3 (⟨rfl, hJ3, hk3⟩ | ⟨rfl, hJx3⟩)
      · gi_wp2
        go_end0
        exact ⟨⟨_, rfl⟩, .inl ⟨_, HA.out, hJ3⟩⟩
      · gi_wp2
        go_end0
        exact ⟨⟨_, rfl⟩, .inr ⟨_, trivial, hJx3⟩⟩
theorem parts_any (s : ByteArray) (Bq : Nat) (w : World) : Calls Tryz.prog 50 #[.string s, .func (.func 51) #[] #[.pointer (some ⟨Bq, 0, none⟩)]] w fun e w' =>
    e = .returned (.func (.func 69) #[] #[.pointer (some ⟨w.heap.size, 0, none⟩), .pointer (some ⟨w.heap.size + 1, 0, none⟩)]) ∧ w' = (w.alloc (.cells #[.string s] 9)).alloc (.cells #[.func (.func 51) #[] #[.pointer (some ⟨Bq, 0, none⟩)]] 85) := by
  go_enter Tryz.func50, Tryz.ntmps50
  go_wp2
  go_ret
  exact ⟨rfl, rfl⟩
theorem iter_stops (n Bs Bp Bq n₁ L : Nat) (s : ByteArray) (hs : s.size ≤ mostB) (sep : UInt8) (hn : 1 ≤ n) (hBs : Bs < n₁) (hBp : Bp < n₁) (hLs : Bs ≠ L) (hLp : Bp ≠ L) (hBq : Bq < n₁) (hLq : Bq ≠ L) (w : World) (hw : n₁ ≤ w.heap.size)
    (hc1 : w.cell? ⟨Bs, 0, none⟩ = some (.string s)) (hc2 : w.cell? ⟨Bp, 0, none⟩ = some (.func (.func 51) #[] #[.pointer (some ⟨Bq, 0, none⟩)])) (hc3 : w.cell? ⟨Bq, 0, none⟩ = some (.int .u8 (sep.toNat : Int))) :
    SeqStopsK Fence.wide n Tryz.prog 69 #[.pointer (some ⟨Bs, 0, none⟩), .pointer (some ⟨Bp, 0, none⟩)] encs (KeepsBut L n₁) (fun ys => ys.map (·.1) = partsAt (isSep sep) s.data.toList) (fun _ => True) (s.size + 1) w :=
  fun l J Jx W hW hJ _ hY h0 => iter_in l n Bs Bp Bq n₁ L s hs sep hn hBs hBp hLs hLp hBq hLq J Jx W hJ hY ((hW.cell (p := ⟨Bs, 0, none⟩) (by show Bs < w.heap.size; omega)).trans hc1) ((hW.cell (p := ⟨Bp, 0, none⟩) (by show Bp < w.heap.size; omega)).trans hc2) ((hW.cell (p := ⟨Bq, 0, none⟩) (by show Bq < w.heap.size; omega)).trans hc3) h0
end partsS
end Go.Proofs.YthacboofbbfmlaaGreatDoor
