/- What scan's own Blocks answers, at a text of whose ends IndexAny tells. Conditions: the text is not too long; bytealg.MaxLen holds some number. -/
import Derived.Test.YtdfcahdipalmkaaGreatDoorKt
import Derived.Test.YtdfcahdipalmkaaGreatDoorScanStripC
import Derived.Test.YtdfcahdipalmkaaGreatDoorScanBMath
import Derived.Test.YtdfcahdipalmkaaGreatDoorOpenS
import Derived.Test.YtdfcahdipalmkaaGreatDoorRx7Split
import Derived.Deep.Draws
import Derived.Sort.QuietIn
import Derived.WalkSmall
/- What scan's own blocks yields. Conditions: the text is not too long; what strings.IndexAny tells of its ends is known; bytealg.MaxLen holds some number. -/
namespace Go.Proofs.YtdfcahdipalmkaaGreatDoor
open Go.ChangeShapes Go.WideShapes Go.ChangeAt Go.RowKit Go.Shelf
namespace blks
attribute [local go_sem] Oper.semAt_some
theorem wide_fn (f : FuncId) : Fence.wide.fn f = True := rfl
attribute [local go_sem] wide_fn
attribute [local simp] wide_fn
abbrev Blk2 := List UInt8 × List UInt8
abbrev encs (x : Blk2) : Array Value := #[.agg #[.string (toB x.1), .string (toB x.2)]]
/-- What IndexAny tells of the ends of a text. -/
def IaC (s : ByteArray) : Prop := ∀ (t : ByteArray) (w : World), t.size ≤ s.size → (∀ c ∈ t.data.toList, c ∈ s.data.toList) → Calls Tryz.prog 96 #[.string t, .string ⟨#[123, 125]⟩] w fun e w' => e = .returned (.int .i64 (Lib.indexAny t.data.toList [123, 125])) ∧ Below w.heap.size w w'
set_option maxHeartbeats 8000000 in
set_option maxRecDepth 100000 in
theorem iter_in (l n Bs n₁ L : Nat) (s : ByteArray) (hs : s.size ≤ mostB) (cIA : IaC s) (hn : 1 ≤ n) (J Jx : List Blk2 → World → Prop) (W : World) (hn₁ : n₁ ≤ W.heap.size) (hJ : AbidesFrom W.heap.size J)
    (hg : 0 < n₁) (hgL : 0 ≠ L) (hLens : Lens W)
    (hY : ∀ pre x W1, J pre W1 → pre.length < s.size + 1 → YieldAt Fence.wide (n - 1) Tryz.prog l (encs x) W1 fun e W' =>
      (e = .returned (.bool true) ∧ J (pre ++ [x]) W' ∧ KeepsBut L n₁ W1 W') ∨ (e = .returned (.bool false) ∧ Jx (pre ++ [x]) W'))
    (hc1 : W.cell? ⟨Bs, 0, none⟩ = some (.string s)) (h0 : J [] W) :
    CallsIn Fence.wide n Tryz.prog 95 #[.func (.yield l) #[] #[], .pointer (some ⟨Bs, 0, none⟩)] W fun e W' => (∃ v, e = .returned v) ∧
      ((∃ ys : List Blk2, ys = blocksF s.data.toList ∧ J ys W') ∨ (∃ pre : List Blk2, True ∧ Jx pre W')) := by
  unfold mostB at hs
  refine callsIn_of_wp Tryz.func95 rfl trivial ?_ rfl
  simp only [Tryz.ntmps95, List.size_toArray, List.length_cons, List.length_nil, Nat.reduceAdd, Nat.reduceSub, Array.replicate_succ, Array.replicate_zero, List.push_toArray, List.append_toArray, List.nil_append, List.cons_append]
  gi_wp2
  gi_loopw [3] (fun v wr => ∃ (t : ByteArray) (ys : List Blk2), v = .string t ∧ t.size ≤ s.size ∧ ys.length + t.size ≤ s.size ∧ Hid (∀ c ∈ t.data.toList, c ∈ s.data.toList) ∧ Hid (blocksF s.data.toList = ys ++ blocksF t.data.toList) ∧ Hid (J ys wr) ∧ KeepsBut L n₁ W wr)
    (fun v _ => match v with | .string t => t.size | _ => 0)
  case atStart => exact ⟨s, [], rfl, Nat.le_refl _, by simp, fun c hc => hc, rfl, h0, KeepsBut.refl _ _ _⟩
  case round =>
    obtain ⟨t, ys, rfl, hts, hyl, HM, HP, HJ, hKB⟩ := hrel
    have c1 := fun w => cIA t w hts HM.out
    have hle := hKB.size
    have hAb : ∀ w1, Below wr.heap.size wr w1 → J ys w1 := fun w1 hb => hJ ys wr w1 none HJ.out ⟨hb.os, hb.tape, hb.output, hb.size, fun k hk _ => hb.block k hk⟩ (fun r e => by cases e)
    rcases ia_cases t.data.toList with ⟨e, hno⟩ | ⟨h, c, u, e, hi, hno, hc⟩
    · rw [e] at c1
      have HA : Hid (ys = blocksF s.data.toList) := by
        show ys = _
        rw [HP.out, blocks_none hno, List.append_nil]
      clear HP e hno
      gi_wp2_with (gi_at_call 96; (with_reducible refine (callsIn_wide.2 (c1 _)).mono ?_); rintro e w1 ⟨rfl, hb1⟩)
      refine bodyPost_ret (results_none rfl _ _ _) rfl ?_
      exact ⟨⟨_, rfl⟩, .inl ⟨_, HA.out, hAb _ hb1⟩⟩
    · rw [hi] at c1
      have hsz : h.length + 1 + u.length = t.size := by
        have := congrArg List.length e
        rw [size_list] at this
        simp only [List.length_append, List.length_cons] at this
        omega
      have hsl1 : ∀ w, (Instr.slice 9 (.string t) none (some (.int .i64 h.length)) none).run Tryz.prog w = .ok (.string (toB h)) w := by
        intro w
        have := run_slice_string_h (P := Tryz.prog) (w := w) (t := 9) (s := t) Tryz.underlying9 .i64 h.length (by omega) (by omega)
        rw [Int.toNat_natCast] at this
        have e2 : t.extract 0 h.length = toB h := by
          refine bytes_inj ?_
          rw [extract_list, e, List.take_left, List.drop_zero]
          rfl
        rwa [e2] at this
      have hsl2 : ∀ w, (Instr.slice 9 (.string t) (some (.int .i64 ((h.length : Int) + 1))) none none).run Tryz.prog w = .ok (.string (toB u)) w := by
        intro w
        have := run_slice_string_l (P := Tryz.prog) (w := w) (t := 9) (s := t) Tryz.underlying9 .i64 ((h.length : Int) + 1) (by omega) (by omega)
        rw [show ((h.length : Int) + 1).toNat = h.length + 1 by omega] at this
        have e2 : t.extract (h.length + 1) t.size = toB u := by
          refine bytes_inj ?_
          have htk : t.data.toList.take t.size = t.data.toList := List.take_of_length_le (by rw [size_list]; exact Nat.le_refl _)
          rw [extract_list, htk, e, show h.length + 1 = (h ++ [c]).length by simp, show h ++ c :: u = (h ++ [c]) ++ u by simp, List.drop_left]
          rfl
        rwa [e2] at this
      have hat : t[h.length]'(by omega) = c := by
        have h1 : t.data.toList[h.length]'(by rw [size_list]; omega) = c := by simp [e]
        exact h1
      have hbc : ((t[h.length]'(by omega)).toNat : Int) = (c.toNat : Int) := by rw [hat]
      have s1 : IntKind.i64.wrap ((h.length : Int) + 1) = (h.length : Int) + 1 := IntWalk.i64_in _ (by omega)
      have hhl : h.length < t.size := by omega
      have zu := toB_size u
      rcases hc with rfl | rfl
      · -- a brace that opens
        have c2 := fun w hl => ccut_any (toB u) ⟨#[125]⟩ w hl (by unfold mostB; omega)
        change ∀ w, Lens w → Calls _ _ #[.string (toB u), .string ⟨#[125]⟩] w (fun e w' => e = .returned (.tuple #[.string (toB (Lib.cut u [125]).1), .string (toB (Lib.cut u [125]).2.1), .bool (Lib.cut u [125]).2.2]) ∧ ∃ q, w.drewN q = w') at c2
        have hcu := cut_brace u
        have hcl := cut_len u [125]
        generalize Lib.cut u [125] = cu at *
        obtain ⟨b, v, f⟩ := cu
        simp only at hcu hcl c2
        have hq : ((123 : UInt8).toNat : Int) = 123 := rfl
        rw [hq] at hbc
        have hLr : Lens wr := by
          obtain ⟨m, hm⟩ := hLens
          exact ⟨m, (hKB.cell hg hgL).trans hm⟩
        rcases hcu with ⟨rfl, hn5⟩ | ⟨rfl, hue, hn5⟩
        · have HA : Hid (ys = blocksF s.data.toList) := by
            show ys = _
            rw [HP.out, e, blocks_open hno hn5, List.append_nil]
          clear HP e hno HM hn5
          gi_wp2_with (first
            | (gi_at_call 96; (with_reducible refine (callsIn_wide.2 (c1 _)).mono ?_); rintro e w1 ⟨rfl, hb1⟩; have HJ1 := hAb _ hb1; have hL1 := hLr.of hb1)
            | (gi_at_call 50; (with_reducible refine (callsIn_wide.2 (c2 _ hL2)).mono ?_); rintro e w2 ⟨rfl, q2, rfl⟩; have hq2 := q2))
          gi_quiet (fail)
          have hL2 : Lens (w1.drewN nq) := hL1.of (below_drewN (Below.refl _ _) _)
          gi_wp2_with (gi_at_call 50; (with_reducible refine (callsIn_wide.2 (c2 _ hL2)).mono ?_); rintro e w2 ⟨rfl, q2, rfl⟩)
          refine bodyPost_ret (results_none rfl _ _ _) rfl ?_
          exact ⟨⟨_, rfl⟩, .inl ⟨_, HA.out, hAb _ (hb1.trans (below_drewN (Below.refl _ _) _))⟩⟩
        · have hbv : b.length + 1 + v.length = u.length := by
            have := congrArg List.length hue
            simp only [List.length_append, List.length_cons] at this
            omega
          have HP' : Hid (blocksF s.data.toList = (ys ++ [(trimL h, trimL b)]) ++ blocksF (toB v).data.toList) := by
            show blocksF s.data.toList = _
            rw [HP.out, e, hue, blocks_one hno hn5, List.append_assoc]
            rfl
          have HM' : Hid (∀ c ∈ (toB v).data.toList, c ∈ s.data.toList) := fun c hc => HM.out c (by
            rw [e, hue]
            have : c ∈ v := hc
            simp [this])
          have c3 := fun w => trim_any (toB h) w (by rw [toB_size]; unfold mostB; omega)
          have c4 := fun w => trim_any (toB b) w (by rw [toB_size]; unfold mostB; omega)
          rw [onB_toB] at c3 c4
          change ∀ w, Calls _ _ #[.string (toB h)] w (fun e w' => e = .returned (.string (toB (trimL h))) ∧ Below w.heap.size w w') at c3
          change ∀ w, Calls _ _ #[.string (toB b)] w (fun e w' => e = .returned (.string (toB (trimL b))) ∧ Below w.heap.size w w') at c4
          have zv := toB_size v
          generalize trimL h = h' at *
          generalize trimL b = b' at *
          clear HP e hno HM hn5 hue
          gi_wp2_with (gi_at_call 96; (with_reducible refine (callsIn_wide.2 (c1 _)).mono ?_); rintro e w1 ⟨rfl, hb1⟩; have HJ1 := hAb _ hb1; have hL1 := hLr.of hb1)
          gi_quiet (fail)
          have hL2 : Lens (w1.drewN nq) := hL1.of (below_drewN (Below.refl _ _) _)
          have hB := hb1.trans (below_drewN (Below.refl wr.heap.size w1) nq)
          gi_wp2_with (first
            | (gi_at_call 50; (with_reducible refine (callsIn_wide.2 (c2 _ hL2)).mono ?_); rintro e w2 ⟨rfl, q2, rfl⟩; replace hB := hb1.trans (below_drewN (Below.refl wr.heap.size w1) (nq + q2)))
            | (gi_at_call 59; (with_reducible refine (callsIn_wide.2 (c3 _)).mono ?_); rintro e w3 ⟨rfl, hb3⟩; replace hB := hB.trans (hb3.mono hB.size); clear c3)
            | (gi_at_call 59; (with_reducible refine (callsIn_wide.2 (c4 _)).mono ?_); rintro e w4 ⟨rfl, hb4⟩; replace hB := hB.trans (hb4.mono hB.size); clear c4
               obtain ⟨fn, tmps, assign, body, hy, hR⟩ := hY ys (h', b') w4 (hAb _ hB) (by omega)
               dsimp only [encs] at hy))
          refine hR.mono ?_
          rintro e W3 (⟨rfl, hJ3, hk3⟩ | ⟨rfl, hJx3⟩)
          · gi_wp2
            go_roundw
            case rel => exact ⟨toB v, ys ++ [(h', b')], rfl, by omega, by simp; omega, HM', HP', Lib.hid hJ3, (hKB.trans (.of_below L (hB.mono (by omega)))).trans hk3⟩
            case measure => simp; omega
          · gi_wp2
            refine bodyPost_ret (results_none rfl _ _ _) rfl ?_
            exact ⟨⟨_, rfl⟩, .inr ⟨_, trivial, hJx3⟩⟩
      · -- a brace that closes stands ahead
        have HP' : Hid (blocksF s.data.toList = ys ++ blocksF (toB u).data.toList) := by
          show blocksF s.data.toList = _
          rw [HP.out, e, blocks_drop hno]
          rfl
        have HM' : Hid (∀ c ∈ (toB u).data.toList, c ∈ s.data.toList) := fun c hc => HM.out c (by rw [e]; have : c ∈ u := hc; simp [this])
        have hq : ((125 : UInt8).toNat : Int) = 125 := rfl
        rw [hq] at hbc
        clear HP e hno HM
        gi_wp2_with (gi_at_call 96; (with_reducible refine (callsIn_wide.2 (c1 _)).mono ?_); rintro e w1 ⟨rfl, hb1⟩; have HJ1 := hAb _ hb1)
        gi_quiet (fail)
        gi_wp2
        go_roundw
        case rel => exact ⟨toB u, ys, rfl, by omega, by omega, HM', HP', Lib.hid (hAb _ (hb1.trans (below_drewN (Below.refl _ _) _))), hKB.trans (.of_below L ((hb1.trans (below_drewN (Below.refl _ _) _)).mono (by omega)))⟩
        case measure => simp; omega
end blks
end Go.Proofs.YtdfcahdipalmkaaGreatDoor
/- What the document's own Blocks of layer 7 answers. Conditions: the text is not too long. -/
namespace Go.Proofs.YtdfcahdipalmkaaGreatDoor
open Go.ChangeShapes Go.WideShapes Go.ChangeAt Go.RowKit
def Bks (w : World) (base : Nat) (v : Value) (l : List (List UInt8 × List UInt8)) : Prop := w.ownsRow base 83 2 v l.length (flatB l)
theorem flatB_len (l : List (List UInt8 × List UInt8)) : (flatB l).length = l.length * 2 := by
  induction l with
  | nil => rfl
  | cons b t ih => unfold flatB at ih ⊢; rw [List.flatMap_cons, List.length_append, ih]; simp only [List.length_cons, List.length_nil]; omega
theorem flatB_snoc (l : List (List UInt8 × List UInt8)) (b : List UInt8 × List UInt8) : flatB (l ++ [b]) = flatB l ++ [.string (toB b.1), .string (toB b.2)] := by
  unfold flatB; rw [List.flatMap_append]; rfl
theorem blk_info : (Tryz.prog.info? 83).map (fun i => (i.zero, i.size, i.bytes)) = some (some (.agg #[.string ⟨#[]⟩, .string ⟨#[]⟩]), 2, 32) := by kernel_rfl
theorem Bks.nil (w : World) (base : Nat) (h : base ≤ w.heap.size) : Bks (w.alloc (.cells #[] 83)) base (.slice (some ⟨w.heap.size, 0, none⟩) 0 0) [] := World.ownsRow_made w #[] 0 h (Nat.zero_le _) rfl
theorem step_block {ops : Array Oper} {o : Oper} {a : Act} {K : Act → World → Prop} {Q : Exit → Act → World → Prop} {E : Prop} (w : World) (hgd : o.guard = none) (s x : Operand)
    (ho : o.op = .call { callee := .builtin .append, args := #[s, x], argTypes := #[79, 79] })
    (base : Nat) (v : Value) (l : List (List UInt8 × List UInt8)) (h b : List UInt8) (hs : a.eval s = v) (hown : Bks w base v l) (cp : Nat) (hx : a.eval x = .slice (some ⟨w.heap.size, 0, none⟩) 1 cp) (hl : l.length < 4000000000) (hbase : base ≤ w.heap.size)
    (hk : ∀ v' w', Bks w' base v' (l ++ [(h, b)]) → (w.alloc (.cells #[.string (toB h), .string (toB b)] 83)).grownBy w' v.ownBlock → K (a.put o.dst v') w') :
    if Region.wanted o (yielded ops a.tmps) = true then Oper.wp Tryz.prog o a (w.alloc (.cells #[.string (toB h), .string (toB b)] 83)) K Q else E := by
  obtain ⟨i0, hi0, hz0, hz1, hz2⟩ := info_parts blk_info
  refine step_append_any _ hgd s x _ ho base 83 i0 _ 2 32 Tryz.underlying79 hi0 hz0 hz1 hz2 rfl (by omega) v l.length (flatB l) hs (World.ownsRow.alloc hown _) (w.heap.size + 1) (some ⟨w.heap.size, 0, none⟩) 1 cp [.string (toB h), .string (toB b)] hx ?_ ?_ (by simp only [maxLen]; omega) (by omega) (by rw [size_al]; omega) ?_
  · refine ⟨rfl, fun _ => ⟨_, rfl, Nat.lt_succ_self _, fun j u hu => ?_⟩⟩
    have hc := Blk.new w 83 #[.string (toB h), .string (toB b)]
    rw [add_zero_, hc.cell j]
    match j, hu with
    | 0, hu => exact hu
    | 1, hu => exact hu
  · intro u hu
    simp only [List.mem_cons, List.not_mem_nil, or_false] at hu
    rcases hu with rfl | rfl <;> rfl
  · intro v' w' h2 h3 _
    refine hk v' w' ?_ h3
    show w'.ownsRow base 83 2 v' (l ++ [(h, b)]).length (flatB (l ++ [(h, b)]))
    rw [flatB_snoc, List.length_append]
    exact h2
theorem ext_snoc (s : ByteArray) (f k : Nat) (hf : f ≤ k) (hk : k < s.size) : (s.extract f (k + 1)).data.toList = (s.extract f k).data.toList ++ [s[k]] := by
  rw [extract_list, extract_list, List.take_succ_eq_append_getElem (by rw [size_list]; exact hk), List.drop_append_of_le_length (by rw [List.length_take, size_list]; omega)]
  rfl
theorem ext_none (s : ByteArray) (k : Nat) : (s.extract k k).data.toList = [] := by
  rw [extract_list]
  exact List.drop_of_length_le (List.length_take_le _ _)
def bfold (s : ByteArray) (k : Nat) : Bst := (s.data.toList.take k).foldl bstep ⟨[], [], none⟩
theorem bfold_next (s : ByteArray) (k : Nat) (hk : k < s.size) : bfold s (k + 1) = bstep (bfold s k) s[k] := by
  unfold bfold
  rw [List.take_succ_eq_append_getElem (by rw [size_list]; exact hk), List.foldl_append]
  rfl
theorem bstep_close {o : List (List UInt8 × List UInt8)} {h b : List UInt8} : bstep ⟨o, h, some b⟩ 125 = ⟨o ++ [(trimL h, trimL b)], [], none⟩ := rfl
theorem bstep_drop {o : List (List UInt8 × List UInt8)} {h : List UInt8} : bstep ⟨o, h, none⟩ 125 = ⟨o, [], none⟩ := rfl
theorem bstep_open {o : List (List UInt8 × List UInt8)} {h : List UInt8} : bstep ⟨o, h, none⟩ 123 = ⟨o, h, some []⟩ := rfl
theorem bstep_body {o : List (List UInt8 × List UInt8)} {h b : List UInt8} {c : UInt8} (hc : ¬ c = 125) : bstep ⟨o, h, some b⟩ c = ⟨o, h, some (b ++ [c])⟩ := by unfold bstep; rw [if_neg hc]
theorem bstep_head {o : List (List UInt8 × List UInt8)} {h : List UInt8} {c : UInt8} (hc : ¬ c = 125) (hd : ¬ c = 123) : bstep ⟨o, h, none⟩ c = ⟨o, h ++ [c], none⟩ := by unfold bstep; rw [if_neg hc]; show (if c = 123 then _ else _) = _; rw [if_neg hd]
theorem byte_is {c d : UInt8} : ((c.toNat : Int) == (d.toNat : Int)) = decide (c = d) := by
  by_cases h : c = d
  · subst h; simp
  · rw [decide_eq_false h, beq_eq_false_iff_ne]
    exact fun e => h (UInt8.toNat_inj.1 (by omega))
/-- How far a round of Blocks has come. -/
def BRel (s : ByteArray) (k f : Nat) (op : Option Nat) (o : List (List UInt8 × List UInt8)) : Prop := match op with
  | none => f ≤ k ∧ bfold s k = ⟨o, (s.extract f k).data.toList, none⟩
  | some p => f ≤ p ∧ p < k ∧ bfold s k = ⟨o, (s.extract f p).data.toList, some (s.extract (p + 1) k).data.toList⟩
def opV : Option Nat → Value
  | none => .int .i64 (-1)
  | some p => .int .i64 p
theorem r_open {s : ByteArray} {k f : Nat} {o} (h : BRel s k f none o) (hk : k < s.size) (hc : s[k] = 123) : BRel s (k + 1) f (some k) o := by
  obtain ⟨h1, h2⟩ := h
  exact ⟨h1, Nat.lt_succ_self _, by rw [bfold_next s k hk, h2, hc, bstep_open, ext_none]⟩
theorem r_head {s : ByteArray} {k f : Nat} {o} (h : BRel s k f none o) (hk : k < s.size) (hc : ¬ s[k] = 125) (hd : ¬ s[k] = 123) : BRel s (k + 1) f none o := by
  obtain ⟨h1, h2⟩ := h
  exact ⟨by omega, by rw [bfold_next s k hk, h2, bstep_head hc hd, ext_snoc s f k h1 hk]⟩
theorem r_drop {s : ByteArray} {k f : Nat} {o} (h : BRel s k f none o) (hk : k < s.size) (hc : s[k] = 125) : BRel s (k + 1) (k + 1) none o := by
  obtain ⟨h1, h2⟩ := h
  exact ⟨Nat.le_refl _, by rw [bfold_next s k hk, h2, hc, bstep_drop, ext_none]⟩
theorem r_close {s : ByteArray} {k f p : Nat} {o} (h : BRel s k f (some p) o) (hk : k < s.size) (hc : s[k] = 125) :
    BRel s (k + 1) (k + 1) none (o ++ [(trimL (s.extract f p).data.toList, trimL (s.extract (p + 1) k).data.toList)]) := by
  obtain ⟨h1, h2, h3⟩ := h
  exact ⟨Nat.le_refl _, by rw [bfold_next s k hk, h3, hc, bstep_close, ext_none]⟩
theorem r_body {s : ByteArray} {k f p : Nat} {o} (h : BRel s k f (some p) o) (hk : k < s.size) (hc : ¬ s[k] = 125) : BRel s (k + 1) f (some p) o := by
  obtain ⟨h1, h2, h3⟩ := h
  exact ⟨h1, by omega, by rw [bfold_next s k hk, h3, bstep_body hc, ext_snoc s (p + 1) k (by omega) hk]⟩
theorem r_all {s : ByteArray} {k f : Nat} {op} {o} (h : BRel s k f op o) (hk : s.size ≤ k) : blocksF s.data.toList = o := by
  have e : bfold s k = (s.data.toList.foldl bstep ⟨[], [], none⟩) := by unfold bfold; rw [List.take_of_length_le (by rw [size_list]; omega)]
  unfold blocksF
  rw [← e]
  cases op with
  | none => rw [h.2]
  | some p => rw [h.2.2]
set_option maxRecDepth 100000 in
set_option maxHeartbeats 8000000 in
theorem rblocks_any (s : ByteArray) (w : World) (hs : s.size ≤ mostB) :
    Calls Tryz.prog 27 #[.string s] w fun e w' => ∃ A n c, e = .returned (.slice A n c) ∧ Reads w' w'.heap.size 2 A n (flatB (blocksF s.data.toList)) ∧ Below w.heap.size w w' := by
  have hs' : s.size ≤ 1000000 := hs
  have ct := fun (q : ByteArray) (hq : q.size ≤ s.size) w => rtrim_any q w (by unfold maxLen; omega)
  have hB0 := below_al (Below.refl w.heap.size w) (.cells #[] 83)
  have hY0 := Bks.nil w w.heap.size (Nat.le_refl _)
  have hI0 : Hid (BRel s 0 0 none []) := ⟨Nat.le_refl _, by rw [ext_none]; rfl⟩
  go_enter Tryz.func27, Tryz.ntmps27
  go_wp2
  go_loopw [3, 4, 5, 6] (fun v fr opn i wr => ∃ (k f : Nat) (op : Option Nat) (out : List (List UInt8 × List UInt8)), k ≤ s.size ∧ i = .int .i64 k ∧ fr = .int .i64 f ∧ opn = opV op ∧ Hid (BRel s k f op out) ∧ out.length ≤ k ∧ Bks wr w.heap.size v out ∧ Below w.heap.size w wr) (fun _ _ _ i _ => s.size - (intOf i).toNat)
  case atStart => exact ⟨0, 0, none, [], Nat.zero_le _, rfl, rfl, rfl, hI0, Nat.le_refl _, hY0, hB0⟩
  case round =>
    obtain ⟨k, f, op, out, hk, rfl, rfl, rfl, HI, hok, hY, hB⟩ := hrel
    clear hB0 hY0 hI0
    have hle := hB.size
    by_cases hkl : k < s.size
    · have b1 : ((s[k].toNat : Int) == 125) = decide (s[k] = 125) := byte_is (d := 125)
      have b2 : ((s[k].toNat : Int) == 123) = decide (s[k] = 123) := byte_is (d := 123)
      cases op with
      | none =>
        unfold opV
        by_cases hc : s[k] = 123
        · have HN := Lib.hid (r_open HI.out hkl hc)
          have hd : ¬ s[k] = 125 := by rw [hc]; decide
          rw [decide_eq_true hc] at b2
          rw [decide_eq_false hd] at b1
          clear hc hd HI ct
          go_wp2
          go_roundw
          case rel => exact ⟨k + 1, f, some k, out, by omega, by go_num, rfl, rfl, HN, by omega, hY, hB⟩
          case measure => simp [intOf]; omega
        · by_cases hd : s[k] = 125
          · have HN := Lib.hid (r_drop HI.out hkl hd)
            rw [decide_eq_false hc] at b2
            rw [decide_eq_true hd] at b1
            clear hc hd HI ct
            go_wp2
            go_roundw
            case rel => exact ⟨k + 1, k + 1, none, out, by omega, by go_num, by go_num, rfl, HN, by omega, hY, hB⟩
            case measure => simp [intOf]; omega
          · have HN := Lib.hid (r_head HI.out hkl hd hc)
            rw [decide_eq_false hc] at b2
            rw [decide_eq_false hd] at b1
            clear hc hd HI ct
            go_wp2
            go_roundw
            case rel => exact ⟨k + 1, f, none, out, by omega, by go_num, rfl, rfl, HN, by omega, hY, hB⟩
            case measure => simp [intOf]; omega
      | some p =>
        unfold opV
        obtain ⟨p1, p2, -⟩ := HI.out
        by_cases hd : s[k] = 125
        · have HN := Lib.hid (r_close HI.out hkl hd)
          have c1 := fun w => ct (s.extract f p) (by rw [ByteArray.size_extract]; omega) w
          have c2 := fun w => ct (s.extract (p + 1) k) (by rw [ByteArray.size_extract]; omega) w
          have hsl1 : ∀ w, (Instr.slice 9 (.string s) (some (.int .i64 f)) (some (.int .i64 p)) none).run Tryz.prog w = .ok (.string (s.extract f p)) w := by
            intro w
            have := run_slice_string (P := Tryz.prog) w 9 s .i64 .i64 f p Tryz.underlying9 (by omega) (by omega) (by omega)
            rwa [Int.toNat_natCast, Int.toNat_natCast] at this
          have hsl2 : ∀ w, (Instr.slice 9 (.string s) (some (.int .i64 ((p : Int) + 1))) (some (.int .i64 k)) none).run Tryz.prog w = .ok (.string (s.extract (p + 1) k)) w := by
            intro w
            have := run_slice_string (P := Tryz.prog) w 9 s .i64 .i64 ((p : Int) + 1) k Tryz.underlying9 (by omega) (by omega) (by omega)
            rwa [show ((p : Int) + 1).toNat = p + 1 by omega, Int.toNat_natCast] at this
          have s1 : IntKind.i64.wrap ((p : Int) + 1) = (p : Int) + 1 := IntWalk.i64_in _ (by omega)
          rw [onB_toB] at c1 c2
          have hc : ¬ s[k] = 123 := by rw [hd]; decide
          rw [decide_eq_false hc] at b2
          rw [decide_eq_true hd] at b1
          generalize trimL (s.extract f p).data.toList = x at *
          generalize trimL (s.extract (p + 1) k).data.toList = y at *
          generalize s.extract f p = q1 at *
          generalize s.extract (p + 1) k = q2 at *
          clear hc hd HI ct
          have hol : out.length < 4000000000 := by omega
          go_wp2
          go_region_law (first
            | (refine step_block wr.drew (by rfl) (.tmp 29) (.tmp 42) (by rfl) w.heap.size _ out x y (by rfl) hY _ (by rfl) hol hle ?_; intro v' w' hY' hg)
            | (go_simp; go_at_call 53; (first | (with_reducible refine (c1 _).mono ?_) | (with_reducible refine (c2 _).mono ?_)); rintro e w1 ⟨rfl, rfl⟩))
          all_goals
            have hb2 := below_al hB.drew (.cells #[.string (toB x), .string (toB y)] 83)
            have hB' : Below w.heap.size w w' := hb2.grown hg hb2.size (fun k hk => (World.ownsRow.lt hY k hk).1)
            clear hg hb2 hY c1 c2 hsl1 hsl2
            go_wp2
            go_roundw
            case rel => exact ⟨k + 1, k + 1, none, out ++ [(x, y)], by omega, by go_num, by go_num, rfl, HN, by simp; omega, hY', hB'⟩
            case measure => simp [intOf]; omega
        · have HN := Lib.hid (r_body HI.out hkl hd)
          rw [decide_eq_false hd] at b1
          clear hd HI ct
          cases b3 : decide (s[k] = 123)
          all_goals
            rw [b3] at b2
            clear b3
            go_wp2
            go_roundw
            case rel => exact ⟨k + 1, f, some p, out, by omega, by go_num, rfl, rfl, HN, by omega, hY, hB⟩
            case measure => simp [intOf]; omega
    · have HA := Lib.hid (r_all HI.out (by omega))
      obtain ⟨A, c, rfl⟩ := own_form' hY
      have hR : Reads wr wr.heap.size 2 A out.length (flatB out) := Reads.of_own hY
      have HR : Hid (Reads wr wr.heap.size 2 A out.length (flatB (blocksF s.data.toList))) := by
        show Reads _ _ _ _ _ _
        rw [HA.out]; exact hR
      clear hR hY HI HA ct
      go_wp2
      go_ret
      exact ⟨A, _, c, rfl, HR.out, hB⟩
end Go.Proofs.YtdfcahdipalmkaaGreatDoor
namespace Go.Proofs.YtdfcahdipalmkaaGreatDoor
open Go.ChangeShapes Go.WideShapes Go.ChangeAt Go.RowKit Go.Shelf
namespace blks
attribute [local go_sem] Oper.semAt_some
attribute [local go_sem] wide_fn
attribute [local simp] wide_fn
theorem sblk_info : (Tryz.prog.info? 76).map (fun i => (i.zero, i.size, i.bytes)) = some (some (.agg #[.string ⟨#[]⟩, .string ⟨#[]⟩]), 2, 32) := by kernel_rfl
theorem cell_two_new (w : World) (x y : Value) (t : TypeId) : ∀ j u, [x, y][j]? = some u → (w.alloc (.cells #[x, y] t)).cell? ((⟨w.heap.size, 0, none⟩ : Addr).add j) = some u := by
  intro j u hj
  rw [add_zero_, (Blk.new w t #[x, y]).cell j]
  match j, hj with
  | 0, hj => exact hj
  | 1, hj => exact hj
/-- A loop variable's block. -/
def Pair (W : World) (B : Nat) (x : Blk2) : Prop := W.heap[B]? = some (.cells #[.string (toB x.1), .string (toB x.2)] 76 (0, 0))
theorem Pair.cells {W : World} {B : Nat} {x : Blk2} (h : Pair W B x) : W.cell? ⟨B, 0, none⟩ = some (.string (toB x.1)) ∧ W.cell? ⟨B, 1, none⟩ = some (.string (toB x.2)) := by
  unfold Pair at h
  constructor <;> simp [World.cell?, h]
theorem pair_own (B : Nat) (x : Blk2) : Own (fun (_ : Unit) W => Pair W B x) := by
  intro s X Y row h hg hrow
  have hlt : B < X.heap.size := (Array.getElem?_eq_some_iff.1 h).1
  refine (hg.block B hlt (fun e => ?_)).trans h
  obtain ⟨o, ho, hc⟩ := hrow B e.symm
  rw [show X.heap[B]? = _ from h] at ho
  cases ho
  cases hc
set_option maxHeartbeats 8000000 in
set_option maxRecDepth 100000 in
theorem seq_in (s : ByteArray) (hs : s.size ≤ mostB) (cIA : IaC s) (Bs : Nat) (w : World) (hL : Lens w) (hBs : Bs < w.heap.size) (hc : w.cell? ⟨Bs, 0, none⟩ = some (.string s)) :
    CallsIn Fence.wide 8 Tryz.prog 94 #[.slice none 0 0, .func (.func 95) #[] #[.pointer (some ⟨Bs, 0, none⟩)]] w fun e w' => ∃ A n c, e = .returned (.slice A n c) ∧ Reads w' w'.heap.size 2 A n (flatB (blocksF s.data.toList)) ∧ Below w.heap.size w w' := by
  obtain ⟨i0, hi0, hz0, hz1, hz2⟩ := info_parts sblk_info
  have hs' : s.size ≤ 1000000 := hs
  refine callsIn_of_wp_marks Tryz.func94 rfl trivial ?_ rfl
  simp only [Tryz.ntmps94, List.size_toArray, List.length_cons, List.length_nil, Nat.reduceAdd, Nat.reduceSub, Array.replicate_succ, Array.replicate_zero, List.push_toArray, List.append_toArray, List.nil_append, List.cons_append]
  gi_wp2
  have bO := Boxed.new w 72 (.slice none 0 0)
  have hB0 : Below w.heap.size w (w.alloc (.cells #[.slice none 0 0] 72)) := below_al (Below.refl _ _) _
  have hsz : (w.alloc (.cells #[.slice none 0 0] 72)).heap.size = w.heap.size + 1 := by simp only [World.size_alloc]
  obtain ⟨W0, hW0⟩ : ∃ W0, w.alloc (.cells #[.slice none 0 0] 72) = W0 := ⟨_, rfl⟩
  rw [hW0] at hB0 bO hsz ⊢
  clear hW0
  have hc0 : W0.cell? ⟨Bs, 0, none⟩ = some (.string s) := (hB0.cell (p := ⟨Bs, 0, none⟩) hBs).trans hc
  have hL0 := hL.of hB0
  have hgl := hL.lt
  refine wpIn_rangeFunc_ownH (F := Fence.wide) rfl (by omega) (gf := 95) (lb := #[.pointer (some ⟨Bs, 0, none⟩)]) rfl trivial (enters_of Tryz.func95 (by kernel_rfl) rfl) (encs := encs)
    (Kp := KeepsBut w.heap.size (w.heap.size + 1)) (S := fun ys => ys = blocksF s.data.toList) (Sp := fun _ => True) (N := s.size + 1) (w0 := W0)
    (fun l J Jx W hW hJ _ hY h0 => iter_in l 7 Bs (w.heap.size + 1) w.heap.size s hs cIA (by omega) J Jx W (by have := hW.size; omega) hJ (by omega) (by omega) (hL0.of hW) hY ((hW.cell (p := ⟨Bs, 0, none⟩) (by show Bs < W0.heap.size; omega)).trans hc0) h0) keepsBut_t (keepsBut_b (by omega)) (Below.refl _ _) (fun _ => rfl)
    (fun pre W => (∃ v, Boxed W w.heap.size 72 v ∧ W.ownsRow (w.heap.size + 1) 76 2 v pre.length (flatB pre) ∧ True) ∧ KeepsBut w.heap.size (w.heap.size + 1) W0 W)
    (fun _ _ _ => False)
    (OwnFrom.and (Own.from (holdsRow_own (w.heap.size + 1) w.heap.size 72 76 2 (fun pre => pre.length) (fun pre => flatB pre) (fun pre v => True)) _) (ownFrom_keepsBut (by omega) (by omega)))
    (fun _ _ _ _ _ hs _ _ => hs)
    ⟨⟨_, bO, World.ownsRow_nil _ _ _ _, trivial⟩, KeepsBut.refl _ _ _⟩
    (fun x a' W => ∃ Bx, w.heap.size + 1 ≤ Bx ∧ Pair W Bx x ∧ a' = { tmps := #[.slice none 0 0, .func (.func 95) #[] #[.pointer (some ⟨Bs, 0, none⟩)], .pointer (some ⟨w.heap.size, 0, none⟩), undef, .slice none 0 0, .pointer (some ⟨Bx, 0, none⟩), .func (.func 95) #[] #[.pointer (some ⟨Bs, 0, none⟩)], .agg #[.string (toB x.1), .string (toB x.2)], undef, undef, undef, undef, undef], defers := [] })
    (fun x a' _ X Y row hs hg hr => by obtain ⟨Bx, h1, h2, h3⟩ := hs; exact ⟨Bx, h1, pair_own Bx x () X Y row h2 hg (fun r e => (hr r e).2), h3⟩)
    ?assign ?body ?done ?stop
  case assign =>
    rintro l pre x W K ⟨⟨v, hv, hrow, -⟩, hK⟩ hKK
    have hsW := hK.size
    dsimp only [encs]
    gi_wp2
    refine hKK _ _ ((KeepsOthers.alloc _ _).from _) ((KeepsBut.refl _ _ W).alloc (by omega) _) ⟨⟨v, hv.alloc _, hrow.alloc _, trivial⟩, hK.alloc (by omega) _⟩ ⟨W.heap.size, by omega, ?_, rfl⟩
    exact World.alloc_heap_new W _
  case body =>
    rintro l pre x a' W hl ⟨r, hr⟩ ⟨⟨v, hv, hrow, -⟩, hK⟩ ⟨Bx, hBx, bX, rfl⟩ hlt
    have hcv := hv.cell
    obtain ⟨cx, cy⟩ := bX.cells
    have hsW := hK.size
    have hfl : flatB (pre ++ [x]) = flatB pre ++ [.string (toB x.1), .string (toB x.2)] := flatB_snoc pre x
    have HF := Lib.hid hfl
    clear hfl
    gi_wp2_with (gi_at_builtin; (refine wpListIn_append_own _ rfl _ _ 72 rfl (w.heap.size + 1) 76 i0 (.agg #[.string ⟨#[]⟩, .string ⟨#[]⟩]) 2 32 Tryz.underlying72 hi0 hz0 hz1 hz2 rfl (by decide) _ _ _ rfl (hrow.alloc _) ⟨W.heap.size, 0, none⟩ 1 1 [.string (toB x.1), .string (toB x.2)] rfl rfl (cell_two_new _ _ _ _) (by simp [Value.oneCell']) (by simp only [maxLen]; omega) (by omega) (by simp; omega) ?_; intro v' w1 hown' hgrow _; obtain ⟨g', cap', rfl⟩ := ownsRow_succ hown'; obtain ⟨hv1, hv2, hr2, hk2, hb2⟩ := boxed_appended hv (by decide) hrow (by omega) hown' hgrow; have hc1 := hv1.cell; have hf1 := hv1.frozen))
    refine ⟨hk2.from _, hb2, ⟨_, hv2, ?_⟩, hK.trans hb2⟩
    rw [HF.out, List.length_append]
    first | exact hr2 | exact ⟨hr2, trivial⟩
  case done =>
    rintro D ys W hD rfl ⟨⟨v, hv, hrow, -⟩, hK⟩ hDef
    have hcv := hv.cell
    gi_wp2
    refine ⟨by simp, .inl ⟨_, _, rfl, run_takeDeferred hDef, ?_⟩⟩
    have hp := ownsRow_putObj hrow (.deferred none) hDef rfl
    obtain ⟨A, c, rfl⟩ := own_form' hp
    exact ⟨_, results_tmp rfl _ _ _, A, _, c, rfl, Reads.of_own hp, hB0.trans ((hK.below (m := w.heap.size) (by omega) (Nat.le_refl _)).trans (belowK_b (w := w) (Nat.le_refl _) W D _ _ (by omega) hDef rfl rfl))⟩
  case stop =>
    rintro D c pre W _ _ h _
    exact h.elim
theorem collect_any (s : ByteArray) (hs : s.size ≤ mostB) (cIA : IaC s) (Bs : Nat) (w : World) (hL : Lens w) (hBs : Bs < w.heap.size) (hc : w.cell? ⟨Bs, 0, none⟩ = some (.string s)) :
    Calls Tryz.prog 48 #[.func (.func 95) #[] #[.pointer (some ⟨Bs, 0, none⟩)]] w fun e w' => ∃ A n c, e = .returned (.slice A n c) ∧ Reads w' w'.heap.size 2 A n (flatB (blocksF s.data.toList)) ∧ Below w.heap.size w w' := by
  have c1 := callsIn_wide.1 (seq_in s hs cIA Bs w hL hBs hc)
  go_enter Tryz.func48, Tryz.ntmps48
  go_wp2_with (go_at_call 94; (with_reducible refine c1.mono ?_); rintro e w' ⟨A, n, c, rfl, hr, hb⟩)
  go_ret
  exact ⟨A, n, c, rfl, hr, hb⟩
theorem blocks_any (s : ByteArray) (cIA : IaC s) (w : World) (hL : Lens w) (hs : s.size ≤ mostB) :
    Calls Tryz.prog 24 #[.string s] w fun e w' => ∃ A n c, e = .returned (.slice A n c) ∧ Reads w' w'.heap.size 2 A n (flatB (blocksF s.data.toList)) ∧ Below w.heap.size w w' := by
  have hL1 : Lens (w.alloc (.cells #[.string s] 9)) := hL.alloc _
  have c1 := collect_any s hs cIA w.heap.size (w.alloc (.cells #[.string s] 9)) hL1 (by simp) (Boxed.new w 9 (.string s)).cell
  have cb : ∀ w, Calls Tryz.prog 49 #[.string s] w fun e w' => e = .returned (.func (.func 95) #[] #[.pointer (some ⟨w.heap.size, 0, none⟩)]) ∧ w' = w.alloc (.cells #[.string s] 9) := by
    intro w
    go_enter Tryz.func49, Tryz.ntmps49
    go_wp2
    go_ret
    exact ⟨rfl, rfl⟩
  go_enter Tryz.func24, Tryz.ntmps24
  go_wp2_with (first
    | (go_at_call 49; (with_reducible refine (cb _).mono ?_); rintro e w' ⟨rfl, rfl⟩)
    | (go_at_call 48; (with_reducible refine c1.mono ?_); rintro e w' ⟨A, n, c, rfl, hr, hb⟩))
  go_ret
  refine ⟨A, n, c, rfl, hr, (below_al (Below.refl _ _) (.cells #[.string s] 9)).trans (hb.mono (by simp))⟩
end blks
end Go.Proofs.YtdfcahdipalmkaaGreatDoor
