/- What scan's own blocks yields. Conditions: the text is not too long; what strings.IndexAny tells of its ends is known; bytealg.MaxLen holds some number. -/
import Derived.Test.YthkofdleoigajaaDoorKeepsBut
import Derived.Test.YthkofdleoigajaaDoorScanStripC
import Derived.Test.YthkofdleoigajaaDoorScanBMath
import Derived.Test.YthkofdleoigajaaDoorOpenS
import Derived.Test.YthkofdleoigajaaDoorRx7Split
import Derived.Deep.Draws
import Derived.Sort.QuietIn
import Derived.WalkSmall
namespace Go.Proofs.YthkofdleoigajaaDoor
open Go.ChangeShapes Go.WideShapes Go.ChangeAt Go.RowKit Go.Shelf
namespace blks
attribute [local go_sem] Oper.semAt_some
theorem wide_fn (f : FuncId) : Fence.wide.fn f = True := rfl
attribute [local go_sem] wide_fn
attribute [local simp] wide_fn
abbrev Blk2 := List UInt8 × List UInt8
abbrev encs (x : Blk2) : Array Value := #[.agg #[.string (toB x.1), .string (toB x.2)]]
/-- What IndexAny tells of the ends of a text. -/
def IaC (s : ByteArray) : Prop := ∀ (t : ByteArray) (w : World), t.size ≤ s.size → (∀ c ∈ t.data.toList, c ∈ s.data.toList) → Calls Tryd.prog 36 #[.string t, .string ⟨#[123, 125]⟩] w fun e w' => e = .returned (.int .i64 (Lib.indexAny t.data.toList [123, 125])) ∧ Below w.heap.size w w'
set_option maxHeartbeats 8000000 in
set_option maxRecDepth 100000 in
theorem iter_in (l n Bs n₁ L : Nat) (s : ByteArray) (hs : s.size ≤ mostB) (cIA : IaC s) (hn : 1 ≤ n) (J Jx : List Blk2 → World → Prop) (W : World) (hn₁ : n₁ ≤ W.heap.size) (hJ : AbidesFrom W.heap.size J)
    (hg : 0 < n₁) (hgL : 0 ≠ L) (hLens : Lens W)
    (hY : ∀ pre x W1, J pre W1 → pre.length < s.size + 1 → YieldAt Fence.wide (n - 1) Tryd.prog l (encs x) W1 fun e W' =>
      (e = .returned (.bool true) ∧ J (pre ++ [x]) W' ∧ KeepsBut L n₁ W1 W') ∨ (e = .returned (.bool false) ∧ Jx (pre ++ [x]) W'))
    (hc1 : W.cell? ⟨Bs, 0, none⟩ = some (.string s)) (h0 : J [] W) :
    CallsIn Fence.wide n Tryd.prog 35 #[.func (.yield l) #[] #[], .pointer (some ⟨Bs, 0, none⟩)] W fun e W' => (∃ v, e = .returned v) ∧
      ((∃ ys : List Blk2, ys = blocksF s.data.toList ∧ J ys W') ∨ (∃ pre : List Blk2, True ∧ Jx pre W')) := by
  unfold mostB at hs
  refine callsIn_of_wp Tryd.func35 rfl trivial ?_ rfl
  simp only [Tryd.ntmps35, List.size_toArray, List.length_cons, List.length_nil, Nat.reduceAdd, Nat.reduceSub, Array.replicate_succ, Array.replicate_zero, List.push_toArray, List.append_toArray, List.nil_append, List.cons_append]
  gi_wp2
  gi_loopw [3] (fun v wr => ∃ (t : ByteArray) (ys : List Blk2), v = .string t ∧ t.size ≤ s.size ∧ ys.length + t.size ≤ s.size ∧ Hid (∀ c ∈ t.data.toList, c ∈ s.data.toList) ∧ Hid (blocksF s.data.toList = ys ++ blocksF t.data.toList) ∧ Hid (J ys wr) ∧ KeepsBut L n₁ W wr)
    (fun v _ => match v with | .string t => t.size | _ => 0)
  case atStart => exact ⟨s, [], rfl, Nat.le_refl _, by simp, fun c hc => hc, rfl, h0, KeepsBut.refl _ _ _⟩
  case round =>
    obtain ⟨t, ys, rfl, hts, hyl, HM, HP, HJ, hKB⟩ := hrel
    have c1 := fun w => cIA t w hts HM.out
    have hle := hKB.size
    have hAb : ∀ w1, Below wr.heap.size wr w1 → J ys w1 := fun w1 hb => hJ ys wr w1 none HJ.out ⟨hb.os, hb.tape, hb.output, hb.size, fun k hk _ => hb.block k hk⟩ (fun r e => by cases e)
    rcases ia_cases t.data.toList with ⟨e, hno⟩ | ⟨h, c, u, e, hi, hno, hc⟩
    · rw [e] at c1
      have HA : Hid (ys = blocksF s.data.toList) := by
        show ys = _
        rw [HP.out, blocks_none hno, List.append_nil]
      clear HP e hno
      gi_wp2_with (gi_at_call 36; (with_reducible refine (callsIn_wide.2 (c1 _)).mono ?_); rintro e w1 ⟨rfl, hb1⟩)
      refine bodyPost_ret (results_none rfl _ _ _) rfl ?_
      exact ⟨⟨_, rfl⟩, .inl ⟨_, HA.out, hAb _ hb1⟩⟩
    · rw [hi] at c1
      have hsz : h.length + 1 + u.length = t.size := by
        have := congrArg List.length e
        rw [size_list] at this
        simp only [List.length_append, List.length_cons] at this
        omega
      have hsl1 : ∀ w, (Instr.slice 9 (.string t) none (some (.int .i64 h.length)) none).run Tryd.prog w = .ok (.string (toB h)) w := by
        intro w
        have := run_slice_string_h (P := Tryd.prog) (w := w) (t := 9) (s := t) Tryd.underlying9 .i64 h.length (by omega) (by omega)
        rw [Int.toNat_natCast] at this
        have e2 : t.extract 0 h.length = toB h := by
          refine bytes_inj ?_
          rw [extract_list, e, List.take_left, List.drop_zero]
          rfl
        rwa [e2] at this
      have hsl2 : ∀ w, (Instr.slice 9 (.string t) (some (.int .i64 ((h.length : Int) + 1))) none none).run Tryd.prog w = .ok (.string (toB u)) w := by
        intro w
        have := run_slice_string_l (P := Tryd.prog) (w := w) (t := 9) (s := t) Tryd.underlying9 .i64 ((h.length : Int) + 1) (by omega) (by omega)
        rw [show ((h.length : Int) + 1).toNat = h.length + 1 by omega] at this
        have e2 : t.extract (h.length + 1) t.size = toB u := by
          refine bytes_inj ?_
          have htk : t.data.toList.take t.size = t.data.toList := List.take_of_length_le (by rw [size_list]; exact Nat.le_refl _)
          rw [extract_list, htk, e, show h.length + 1 = (h ++ [c]).length by simp, show h ++ c :: u = (h ++ [c]) ++ u by simp, List.drop_left]
          rfl
        rwa [e2] at this
      have hat : t[h.length]'(by omega) = c := by
        have h1 : t.data.toList[h.length]'(by rw [size_list]; omega) = c := by simp [e]
        exact h1
      have hbc : ((t[h.length]'(by omega)).toNat : Int) = (c.toNat : Int) := by rw [hat]
      have s1 : IntKind.i64.wrap ((h.length : Int) + 1) = (h.length : Int) + 1 := IntWalk.i64_in _ (by omega)
      have hhl : h.length < t.size := by omega
      have zu := toB_size u
      rcases hc with rfl | rfl
      · -- a brace that opens
        have c2 := fun w hl => ccut_any (toB u) ⟨#[125]⟩ w hl (by unfold mostB; omega)
        change ∀ w, Lens w → Calls _ _ #[.string (toB u), .string ⟨#[125]⟩] w (fun e w' => e = .returned (.tuple #[.string (toB (Lib.cut u [125]).1), .string (toB (Lib.cut u [125]).2.1), .bool (Lib.cut u [125]).2.2]) ∧ ∃ q, w.drewN q = w') at c2
        have hcu := cut_brace u
        have hcl := cut_len u [125]
        generalize Lib.cut u [125] = cu at *
        obtain ⟨b, v, f⟩ := cu
        simp only at hcu hcl c2
        have hq : ((123 : UInt8).toNat : Int) = 123 := rfl
        rw [hq] at hbc
        have hLr : Lens wr := by
          obtain ⟨m, hm⟩ := hLens
          exact ⟨m, (hKB.cell hg hgL).trans hm⟩
        rcases hcu with ⟨rfl, hn5⟩ | ⟨rfl, hue, hn5⟩
        · have HA : Hid (ys = blocksF s.data.toList) := by
            show ys = _
            rw [HP.out, e, blocks_open hno hn5, List.append_nil]
          clear HP e hno HM hn5
          gi_wp2_with (first
            | (gi_at_call 36; (with_reducible refine (callsIn_wide.2 (c1 _)).mono ?_); rintro e w1 ⟨rfl, hb1⟩; have HJ1 := hAb _ hb1; have hL1 := hLr.of hb1)
            | (gi_at_call 23; (with_reducible refine (callsIn_wide.2 (c2 _ hL2)).mono ?_); rintro e w2 ⟨rfl, q2, rfl⟩; have hq2 := q2))
          gi_quiet (fail)
          have hL2 : Lens (w1.drewN nq) := hL1.of (below_drewN (Below.refl _ _) _)
          gi_wp2_with (gi_at_call 23; (with_reducible refine (callsIn_wide.2 (c2 _ hL2)).mono ?_); rintro e w2 ⟨rfl, q2, rfl⟩)
          refine bodyPost_ret (results_none rfl _ _ _) rfl ?_
          exact ⟨⟨_, rfl⟩, .inl ⟨_, HA.out, hAb _ (hb1.trans (below_drewN (Below.refl _ _) _))⟩⟩
        · have hbv : b.length + 1 + v.length = u.length := by
            have := congrArg List.length hue
            simp only [List.length_append, List.length_cons] at this
            omega
          have HP' : Hid (blocksF s.data.toList = (ys ++ [(trimL h, trimL b)]) ++ blocksF (toB v).data.toList) := by
            show blocksF s.data.toList = _
            rw [HP.out, e, hue, blocks_one hno hn5, List.append_assoc]
            rfl
          have HM' : Hid (∀ c ∈ (toB v).data.toList, c ∈ s.data.toList) := fun c hc => HM.out c (by
            rw [e, hue]
            have : c ∈ v := hc
            simp [this])
          have c3 := fun w => trim_any (toB h) w (by rw [toB_size]; unfold mostB; omega)
          have c4 := fun w => trim_any (toB b) w (by rw [toB_size]; unfold mostB; omega)
          rw [onB_toB] at c3 c4
          change ∀ w, Calls _ _ #[.string (toB h)] w (fun e w' => e = .returned (.string (toB (trimL h))) ∧ Below w.heap.size w w') at c3
          change ∀ w, Calls _ _ #[.string (toB b)] w (fun e w' => e = .returned (.string (toB (trimL b))) ∧ Below w.heap.size w w') at c4
          have zv := toB_size v
          generalize trimL h = h' at *
          generalize trimL b = b' at *
          clear HP e hno HM hn5 hue
          gi_wp2_with (gi_at_call 36; (with_reducible refine (callsIn_wide.2 (c1 _)).mono ?_); rintro e w1 ⟨rfl, hb1⟩; have HJ1 := hAb _ hb1; have hL1 := hLr.of hb1)
          gi_quiet (fail)
          have hL2 : Lens (w1.drewN nq) := hL1.of (below_drewN (Below.refl _ _) _)
          have hB := hb1.trans (below_drewN (Below.refl wr.heap.size w1) nq)
          gi_wp2_with (first
            | (gi_at_call 23; (with_reducible refine (callsIn_wide.2 (c2 _ hL2)).mono ?_); rintro e w2 ⟨rfl, q2, rfl⟩; replace hB := hb1.trans (below_drewN (Below.refl wr.heap.size w1) (nq + q2)))
            | (gi_at_call 12; (with_reducible refine (callsIn_wide.2 (c3 _)).mono ?_); rintro e w3 ⟨rfl, hb3⟩; replace hB := hB.trans (hb3.mono hB.size); clear c3)
            | (gi_at_call 12; (with_reducible refine (callsIn_wide.2 (c4 _)).mono ?_); rintro e w4 ⟨rfl, hb4⟩; replace hB := hB.trans (hb4.mono hB.size); clear c4
               obtain ⟨fn, tmps, assign, body, hy, hR⟩ := hY ys (h', b') w4 (hAb _ hB) (by omega)
               dsimp only [encs] at hy))
          refine hR.mono ?_
          rintro e W3 (⟨rfl, hJ3, hk3⟩ | ⟨rfl, hJx3⟩)
          · gi_wp2
            go_roundw
            case rel => exact ⟨toB v, ys ++ [(h', b')], rfl, by omega, by simp; omega, HM', HP', Lib.hid hJ3, (hKB.trans (.of_below L (hB.mono (by omega)))).trans hk3⟩
            case measure => simp; omega
          · gi_wp2
            refine bodyPost_ret (results_none rfl _ _ _) rfl ?_
            exact ⟨⟨_, rfl⟩, .inr ⟨_, trivial, hJx3⟩⟩
      · -- a brace that closes stands ahead
        have HP' : Hid (blocksF s.data.toList = ys ++ blocksF (toB u).data.toList) := by
          show blocksF s.data.toList = _
          rw [HP.out, e, blocks_drop hno]
          rfl
        have HM' : Hid (∀ c ∈ (toB u).data.toList, c ∈ s.data.toList) := fun c hc => HM.out c (by rw [e]; have : c ∈ u := hc; simp [this])
        have hq : ((125 : UInt8).toNat : Int) = 125 := rfl
        rw [hq] at hbc
        clear HP e hno HM
        gi_wp2_with (gi_at_call 36; (with_reducible refine (callsIn_wide.2 (c1 _)).mono ?_); rintro e w1 ⟨rfl, hb1⟩; have HJ1 := hAb _ hb1)
        gi_quiet (fail)
        gi_wp2
        go_roundw
        case rel => exact ⟨toB u, ys, rfl, by omega, by omega, HM', HP', Lib.hid (hAb _ (hb1.trans (below_drewN (Below.refl _ _) _))), hKB.trans (.of_below L ((hb1.trans (below_drewN (Below.refl _ _) _)).mono (by omega)))⟩
        case measure => simp; omega
end blks
end Go.Proofs.YthkofdleoigajaaDoor
