/- (*builder).close. Conditions: as the theorem's premises say. -/
import Derived.Test.YteopighhhcikcaaGreatDoorKeepsBut
import Derived.Sort.QuietIn
import Derived.Deep.Draws
import Derived.Test.YteopighhhcikcaaGreatDoorTreeK
/- A region that only reads and draws its order, within a round of a loop over a function: one walk serves every order. Conditions: none of its operations is a defer statement. -/
namespace Go.Proofs.YteopighhhcikcaaGreatDoor
open Go.Shelf
namespace QuietRd
theorem upon_round (F : Fence) (l n : Nat) (P : Program) (o : Oper) (a : Act) (next : Act → World → Prop) (Q : Exit → Act → World → Prop) (r : Result Next) (h : o.uponIn F n P a next Q r) : o.uponIn (F.inRound l) n P a next Q r := by
  unfold Oper.uponIn at h ⊢
  split at h <;> exact h
theorem ops_round (F : Fence) (l n : Nat) (P : Program) (ops : Array Oper) (Q : Exit → Act → World → Prop) (hro : F.round = none) (hd : ∀ (i : Nat) (o : Oper), ops[i]? = some o → ∀ c, o.op ≠ .defer c) :
    ∀ (is : List Nat) (a : Act) (w : World), wpOpsIn F n P ops Q is a w → wpOpsIn (F.inRound l) n P ops Q is a w := by
  intro is
  induction is with
  | nil => intro a w h; exact h
  | cons i rest ih =>
    intro a w h
    unfold wpOpsIn at h ⊢
    cases ho : ops[i]? with
    | none =>
      rw [ho] at h
      exact ih a w h
    | some o =>
      rw [ho] at h
      simp only at h ⊢
      by_cases hw : Region.wanted o (yielded ops a.tmps) = true
      · rw [if_pos hw] at h ⊢
        obtain ⟨h1, h2⟩ := Oper.wpIn_mono (fun a w h => ih a w h) h
        refine ⟨h1, upon_round F l n P o a _ Q _ ?_⟩
        rw [hro] at h2
        rw [Oper.semAt_eq _ _ _ (hd i o ho)] at h2
        rw [Oper.semAt_eq _ _ _ (hd i o ho)]
        exact h2
      · rw [if_neg hw] at h ⊢
        exact ⟨h.1, ih _ _ h.2⟩
/-- Does an operation defer? -/
def defs (o : Oper) : Bool := match o.op with
  | .defer _ => true
  | _ => false
theorem region_quiet {F : Fence} {n : Nat} {P : Program} {id l₀ : Nat} {Q : Exit → Act → World → Prop} {a : Act} {w : World} {l : List Oper} (hro : F.round = none) (hm : P.follows .mixedOrders = true) (hB : Region.lexB .any l.toArray = true) (hd : l.any defs = false)
    (h : wpQuietIn F n P l.toArray (fun w' => ∃ n, w' = w.drewN n) (fun a' => ∀ w', (∃ n, w' = w.drewN n) → Q .normal a' w') l a) : (Code.region id l.toArray true).wpIn (F.inRound l₀) n P Q a w := by
  refine wpIn_region_draw fun t => ?_
  refine ops_round F l₀ n P _ Q hro ?_ _ _ _ ?_
  · intro i o ho c e
    have hm : o ∈ l := List.mem_of_getElem? (by simpa using ho)
    have := (List.any_eq_false.1 hd) o hm
    unfold defs at this
    rw [e] at this
    exact this rfl
  · simp only [Region.schedule, hm, Bool.true_or, if_true]
    refine wpAnyIn_sound _ t _ a _ ?_
    simp only [Region.lexB, Bool.and_eq_true] at hB
    refine wpAnyIn_of_quiet (C := fun w' => ∃ n, w' = w.drewN n) (Q := fun a' => ∀ w', (∃ n, w' = w.drewN n) → Q .normal a' w') hro (fun _ w' hw' h => h w' hw') _ _ _ _ ⟨1, rfl⟩ ?_
    have := wpAnyQIn_lex (F := F) (n := n) (C := fun w' => ∃ n, w' = w.drewN n) (md := .any) hB.1 l 0 (Array.replicate l.toArray.size false) a (by simp) (by simpa using hB.2) h
    simpa using this
end QuietRd
end Go.Proofs.YteopighhhcikcaaGreatDoor
namespace Go.Proofs.YteopighhhcikcaaGreatDoor
open Go.ChangeShapes Go.WideShapes Go.ChangeAt Go.RowKit Go.Shelf
namespace Tre
open Tok
open RowG (Row)
attribute [local go_sem] Oper.semAt_some
attribute [local go_sem] wide_fn
attribute [local simp] wide_fn
/-- Nothing but what is no cells has been written. -/
theorem kt_rec {w w' : World} {row : Option Nat} (hg : w.grownBy w' row) (hr : ∀ r, row = some r → ∃ o : Obj, w.heap[r]? = some o ∧ o.isCells = false) (e : TypeId) : KT w w' e := fun j cur fr hj => by
  refine hg.block j (Array.getElem?_eq_some_iff.1 hj).1 ?_
  intro h
  obtain ⟨o, ho, hc⟩ := hr j h.symm
  rw [hj] at ho
  injection ho with ho
  subst ho
  cases hc
theorem BsC.rec_ {w w' : World} {base g : Nat} {nv : Value} {tv : List Value} {cs : List NC} {s : St} (h : BsC w base g nv tv cs s) {row : Option Nat} (hg : w.grownBy w' row) (hr : ∀ r, row = some r → ∃ o : Obj, w.heap[r]? = some o ∧ o.isCells = false) : BsC w' base g nv tv cs s :=
  h.kt (kt_rec hg hr _) (kt_rec hg hr _) (kt_rec hg hr _) (kt_rec hg hr _) (kt_rec hg hr _)
/-- Is it the one that a closing of the name closes? -/
def hitB (s : St) (name : List UInt8) (k : Nat) : Bool := decide (0 < k) && decide (tagOf s.ns k = name)
theorem close_none {s : St} {name : List UInt8} (h : ∀ k ∈ up s.ns s.place, hitB s name k = false) : closeS s name = s := by
  have : (up s.ns s.place).find? (hitB s name) = none := find_no h
  unfold closeS
  show (match (up s.ns s.place).find? (hitB s name) with | some k => _ | none => _) = _
  rw [this]
theorem close_some {s : St} {name : List UInt8} {pre : List Nat} {k : Nat} (hp : pre ++ [k] <+: up s.ns s.place) (h : ∀ y ∈ pre, hitB s name y = false) (hk : hitB s name k = true) : closeS s name = ⟨s.ns, (par s.ns k).toNat⟩ := by
  have : (up s.ns s.place).find? (hitB s name) = some k := by
    obtain ⟨r, hr⟩ := hp
    rw [← hr, List.append_assoc, List.find?_append, find_no h]
    show (none : Option Nat).or ((k :: r).find? (hitB s name)) = _
    rw [Option.none_or, List.find?_cons_of_pos hk]
  unfold closeS
  show (match (up s.ns s.place).find? (hitB s name) with | some k => _ | none => _) = _
  rw [this]
theorem keeps_dr {L n : Nat} {a w : World} (h : KeepsBut L n a w) (k : Nat) : KeepsBut L n a (w.drewN k) := ⟨h.os, h.tape, h.output, h.size, h.block⟩
theorem oth_below {w w' : World} (hb : Below w.heap.size w w') : KeepsOthers w w' := ⟨hb.size, fun k _ hk _ => (hb.block k (Array.getElem?_eq_some_iff.1 hk).1).trans hk⟩
set_option maxHeartbeats 16000000 in
set_option maxRecDepth 100000 in
theorem close_in (w : World) (base g : Nat) (s : St) (hs : Ok s) (h : BS w base g s) (hbase : base ≤ w.heap.size) (name : List UInt8) :
    CallsIn Fence.wide 8 Tryz.prog 100 #[.pointer (some ⟨g, 0, none⟩), .string (toB name)] w fun e w' => e = .returned (.tuple #[]) ∧ BS w' base g (closeS s name) ∧ Below base w w' := by
  obtain ⟨nv, tv, cs, h⟩ := h
  have K1 := (Blk.new w 135 #[.pointer (some ⟨g, 0, none⟩)]).alloc (.cells #[.string (toB name)] 9)
  have K2 := Blk.new (w.alloc (.cells #[.pointer (some ⟨g, 0, none⟩)] 135)) 9 #[.string (toB name)]
  have hB1 := below_al (below_al (Below.refl w.heap.size w) (.cells #[.pointer (some ⟨g, 0, none⟩)] 135)) (.cells #[.string (toB name)] 9)
  have hz1 : ((w.alloc (.cells #[.pointer (some ⟨g, 0, none⟩)] 135)).alloc (.cells #[.string (toB name)] 9)).heap.size = w.heap.size + 2 := by simp only [World.size_alloc]
  rw [size_al] at K2
  have h1 := h.next hB1
  obtain ⟨b, cp, hnv, -, hpr⟩ := h1.form hs.pos
  subst hnv
  have x0 := bl_0 h1.blk
  have xp := bl_p h1.blk h1.tlen
  refine callsIn_of_wp_marks Tryz.func100 rfl trivial ?_ rfl
  simp only [Tryz.ntmps100, List.size_toArray, List.length_cons, List.length_nil, Nat.reduceAdd, Nat.reduceSub, Array.replicate_succ, Array.replicate_zero, List.push_toArray, List.append_toArray, List.nil_append, List.cons_append]
  gi_wp2_with (fail)
  generalize hW1 : (w.alloc (.cells #[.pointer (some ⟨g, 0, none⟩)] 135)).alloc (.cells #[.string (toB name)] 9) = W1 at *
  have k1 := K1.cell 0
  have k2 := K2.cell 0
  simp only [List.getElem?_toArray, List.getElem?_cons_zero] at k1 k2
  clear hW1
  refine wpIn_wide.2 ?_
  go_still_tail 8, (by kernel_rfl)
  change wpList _ _ _ _ _ W1.drew
  go_wp2_with (go_at_call 96; (with_reducible refine (upFrom_any _ _ cp _ _).mono ?_); rintro e w2 ⟨rfl, rfl⟩)
  have hW1s : W1.heap.size = w.heap.size + 2 := hz1
  have hz2 : (((W1.alloc (.cells #[.slice (some ⟨b, 0, none⟩) s.ns.length cp] 46)).alloc (.cells #[.int .i64 (s.place : Int)] 3)).drew).heap.size = w.heap.size + 4 := by
    show ((W1.alloc _).alloc _).heap.size = _
    rw [size_al, size_al, hz1]
  have KS : Blk (((W1.alloc (.cells #[.slice (some ⟨b, 0, none⟩) s.ns.length cp] 46)).alloc (.cells #[.int .i64 (s.place : Int)] 3)).drew) (w.heap.size + 2) 46 #[.slice (some ⟨b, 0, none⟩) s.ns.length cp] := by
    have := (Blk.new W1 46 #[.slice (some ⟨b, 0, none⟩) s.ns.length cp]).alloc (.cells #[.int .i64 (s.place : Int)] 3)
    rw [hz1] at this
    exact this
  have KP : Blk (((W1.alloc (.cells #[.slice (some ⟨b, 0, none⟩) s.ns.length cp] 46)).alloc (.cells #[.int .i64 (s.place : Int)] 3)).drew) (w.heap.size + 2 + 1) 3 #[.int .i64 (s.place : Int)] := by
    have := Blk.new (W1.alloc (.cells #[.slice (some ⟨b, 0, none⟩) s.ns.length cp] 46)) 3 #[.int .i64 (s.place : Int)]
    rw [size_al, hz1] at this
    exact this
  have hB12 : Below W1.heap.size W1 (((W1.alloc (.cells #[.slice (some ⟨b, 0, none⟩) s.ns.length cp] 46)).alloc (.cells #[.int .i64 (s.place : Int)] 3)).drew) := (below_al (below_al (Below.refl _ _) _) _).drew
  generalize ((W1.alloc (.cells #[.slice (some ⟨b, 0, none⟩) s.ns.length cp] 46)).alloc (.cells #[.int .i64 (s.place : Int)] 3)).drew = W2 at *
  have hB2 := below_next hB1 hB12
  have h2 := h1.next hB12
  have K12 := K1.next hB12
  have K22 := K2.next hB12
  have hpr2 := hpr.below hB12 (Nat.le_refl _)
  refine wpIn_block ?_
  refine wpIn_rangeFunc_ownG (F := Fence.wide) rfl (by omega) (gf := 127) (lb := #[.pointer (some ⟨w.heap.size + 2, 0, none⟩), .pointer (some ⟨w.heap.size + 2 + 1, 0, none⟩)]) rfl trivial (enters_of Tryz.func127 (by kernel_rfl) rfl)
    (iter_stops 7 (w.heap.size + 2) (w.heap.size + 2 + 1) (w.heap.size + 4) (w.heap.size + 4) (some ⟨b, 0, none⟩) s.ns.length cp W1.heap.size s.ns (s.place : Int) (by omega) (by omega) (by omega) (by omega) (by omega) (by omega) W2 (by omega) hpr2 (KS.cell 0) (KP.cell 0)) keepsBut_t (keepsBut_b (by omega)) (Below.refl _ _) (fun _ => rfl)
    (fun pre W => (∀ y ∈ pre, hitB s name y.1 = false) ∧ KeepsBut (w.heap.size + 4) (w.heap.size + 4) W2 W)
    (fun c pre W => c = Code.ret ∧ ∃ pre' x, pre = pre' ++ [x] ∧ (∀ y ∈ pre', hitB s name y.1 = false) ∧ hitB s name x.1 = true ∧ BS W base g ⟨s.ns, (par s.ns x.1).toNat⟩ ∧ Below base w W)
    (fun pre W W' row hs hg hrr => ⟨hs.1, hs.2.grown hg (by rw [← hz2]; exact hs.2.size) (fun k e => by have := (hrr k e).1; omega)⟩)
    (fun c pre W W' row hs hg hrr => by
      obtain ⟨hc, pre', x, e, q1, q2, ⟨nv', tv', cs', q3⟩, q4⟩ := hs
      refine ⟨hc, pre', x, e, q1, q2, ⟨nv', tv', cs', q3.rec_ hg (fun r hr => (hrr r hr).2)⟩, q4.grown hg (by have := q4.size; omega) (fun k e => by have := (hrr k e).1; omega)⟩)
    ⟨fun y hy => by simp at hy, KeepsBut.refl _ _ _⟩
    (fun x => { tmps := #[.pointer (some ⟨g, 0, none⟩), .string (toB name), .pointer (some ⟨w.heap.size, 0, none⟩), .pointer (some ⟨w.heap.size + 1, 0, none⟩), .int .i64 (x.1 : Int), .pointer (some ⟨g, 0, none⟩), .pointer (some ⟨g, 0, none⟩), .pointer (some ⟨g, 0, none⟩), .slice (some ⟨b, 0, none⟩) s.ns.length cp, .pointer (some ⟨g, 0, none⟩), .pointer (some ⟨g, 0, none⟩), .pointer (some ⟨g, 61, none⟩), .int .i64 (s.place : Int),
      .func (.func 127) #[] #[.pointer (some ⟨w.heap.size + 2, 0, none⟩), .pointer (some ⟨w.heap.size + 2 + 1, 0, none⟩)], .int .i64 (x.1 : Int), undef, undef, undef, undef, undef, undef, undef, undef, undef, undef, undef, undef, undef, undef, undef, undef, undef, undef, undef, undef, undef, undef, undef, undef, undef], defers := [] }) ?assign ?body ?done ?stop
  case assign =>
    intro li x W K hK
    dsimp only [encs]
    gi_wp2
    simpa using hK
  case body =>
    rintro li pre ⟨x, hxl⟩ W ⟨hno, hK⟩ hlt
    dsimp only at *
    have hbW : Below W2.heap.size W2 W := ⟨hK.os, hK.tape, hK.output, hK.size, fun k hk => hK.block k (by omega) (by omega)⟩
    have hW := h2.next hbW
    have kW1 := (K12.next hbW).cell 0
    have kW2 := (K22.next hbW).cell 0
    simp only [List.getElem?_toArray, List.getElem?_cons_zero] at kW1 kW2
    have x0W := bl_0 hW.blk
    have f61 := hW.blk.frozen 61
    have x61 := bl_p hW.blk hW.tlen
    obtain ⟨ad, hade, hadb, e0, e1⟩ := (hpr2.below (hbW.mono (by omega)) (Nat.le_refl _)).at_ hxl
    have had : (⟨b, 0, none⟩ : Addr) = ad := by injection hade
    rw [had] at x0W
    have hxi : (x : Int) < (s.ns.length : Int) := by omega
    have hx0i : (0 : Int) ≤ (x : Int) := Int.natCast_nonneg _
    have hq := toB_eq (tagOf s.ns x) name
    have hsnoc : ∀ y ∈ pre ++ [(⟨x, hxl⟩ : Pl s.ns.length)], hitB s name x = false → hitB s name y.1 = false := fun y hy hf => by
      rcases List.mem_append.1 hy with hy | hy
      · exact hno y hy
      · rw [List.mem_singleton] at hy; subst hy; exact hf
    have HSN := Lib.hid hsnoc
    have HNO := Lib.hid hno
    have HIT : Hid (hitB s name x = (decide (0 < x) && decide (tagOf s.ns x = name))) := rfl
    clear hsnoc hno had hade x0 xp k1 k2 h1 K1 K2
    by_cases hx0 : 0 < x
    · have hx1 : (0 : Int) < (x : Int) := by omega
      by_cases htg : tagOf s.ns x = name
      · have HH : Hid (hitB s name x = true) := by show _ = _; rw [HIT.out, decide_eq_true hx0, decide_eq_true htg]; rfl
        rw [decide_eq_true htg] at hq
        obtain ⟨q, hpq⟩ : ∃ q : Nat, par s.ns x = (q : Int) := ⟨(par s.ns x).toNat, by have := (hs.pars x hx0 hxl).1; omega⟩
        have HP : Hid ((par s.ns x).toNat = q) := by show _ = _; rw [hpq, Int.toNat_natCast]
        rw [hpq] at e0
        clear htg hpq
        gi_wp2_with (fail)
        refine QuietRd.region_quiet rfl (by kernel_rfl) (by kernel_rfl) (by kernel_rfl) ?_
        repeat (gi_big_quiet_step (fail))
        refine wpQuietIn_nil ?_
        rintro _ ⟨nq, rfl⟩
        gi_wp2_with (fail)
        gi_region
        all_goals
          gi_wp2
          have hbE : Below W.heap.size W (W.drewN nq).drew := (below_dr (Below.refl _ _) nq).drew
          have hP := bs_place (q := q) (hW.next hbE)
          exact ⟨((oth_below hbE).trans (KeepsOthers.setCell _ _ _)).from _, rfl, pre, ⟨x, hxl⟩, rfl, HNO.out, HH.out, ⟨_, _, _, by rw [HP.out]; exact hP⟩, ((((hB2.mono hbase).trans (hbW.mono (by have := hB2.size; omega))).trans (hbE.mono (by have := hB2.size; have := hbW.size; omega))).setCell hW.hg _)⟩
      · have HH : Hid (hitB s name x = false) := by show _ = _; rw [HIT.out, decide_eq_false htg, Bool.and_false]
        rw [decide_eq_false htg] at hq
        clear htg
        gi_wp2_with (fail)
        refine QuietRd.region_quiet rfl (by kernel_rfl) (by kernel_rfl) (by kernel_rfl) ?_
        repeat (gi_big_quiet_step (fail))
        refine wpQuietIn_nil ?_
        rintro _ ⟨nq, rfl⟩
        gi_wp2
        exact ⟨(oth_below (below_dr (Below.refl _ _) nq)).from _, keeps_dr (KeepsBut.refl _ _ _) nq, fun y hy => HSN.out y hy HH.out, keeps_dr hK nq⟩
    · have HH : Hid (hitB s name x = false) := by show _ = _; rw [HIT.out, decide_eq_false hx0, Bool.false_and]
      have hx1 : decide ((0 : Int) < (x : Int)) = false := decide_eq_false (by omega)
      gi_wp2_with (fail)
      refine QuietRd.region_quiet rfl (by kernel_rfl) (by kernel_rfl) (by kernel_rfl) ?_
      repeat (gi_big_quiet_step (fail))
      refine wpQuietIn_nil ?_
      rintro _ ⟨nq, rfl⟩
      gi_wp2
      exact ⟨(oth_below (below_dr (Below.refl _ _) nq)).from _, keeps_dr (KeepsBut.refl _ _ _) nq, fun y hy => HSN.out y hy HH.out, keeps_dr hK nq⟩
  case done =>
    rintro D ys W hD hys ⟨hno, hK⟩ hDef
    have hbW : Below W2.heap.size W2 W := ⟨hK.os, hK.tape, hK.output, hK.size, fun k hk => hK.block k (by omega) (by omega)⟩
    have hW := h2.next hbW
    have hBW : Below base w W := (hB2.mono hbase).trans (hbW.mono (by have := hB2.size; omega))
    have hcl : closeS s name = s := close_none (fun k hk => by
      rw [← hys] at hk
      obtain ⟨y, hy, rfl⟩ := List.mem_map.1 hk
      exact hno y hy)
    have HC := Lib.hid hcl
    clear hcl x0 xp k1 k2
    gi_wp2_with (fail)
    refine ⟨by simp, .inl ⟨_, _, rfl, run_takeDeferred hDef, ?_⟩⟩
    exact ⟨_, results_none rfl _ _ _, rfl, by rw [HC.out]; exact ⟨_, _, _, hW.rec_ (grownBy_putObj' W D _) (fun r hr => by injection hr with hr; subst hr; exact ⟨_, hDef, rfl⟩)⟩, hBW.trans (belowK_b (w := w) hbase W D _ _ (by omega) hDef rfl rfl)⟩
  case stop =>
    rintro D c pre W hD hpre ⟨rfl, pre', x, rfl, q1, q2, ⟨nv', tv', cs', q3⟩, q4⟩ hDef
    have hcl : closeS s name = ⟨s.ns, (par s.ns x.1).toNat⟩ := close_some (pre := pre'.map (·.1)) (k := x.1) (by rw [List.map_append] at hpre; exact hpre) (fun y hy => by
      obtain ⟨z, hz, rfl⟩ := List.mem_map.1 hy
      exact q1 z hz) q2
    have HC := Lib.hid hcl
    clear hcl x0 xp k1 k2
    gi_wp2_with (fail)
    refine ⟨by simp, .inl ⟨_, _, rfl, run_takeDeferred hDef, ?_⟩⟩
    exact ⟨_, results_none rfl _ _ _, rfl, by rw [HC.out]; exact ⟨_, _, _, q3.rec_ (grownBy_putObj' W D _) (fun r hr => by injection hr with hr; subst hr; exact ⟨_, hDef, rfl⟩)⟩, q4.trans (belowK_b (w := w) hbase W D _ _ (by omega) hDef rfl rfl)⟩
theorem close_any (w : World) (base g : Nat) (s : St) (hs : Ok s) (h : BS w base g s) (hbase : base ≤ w.heap.size) (name : List UInt8) :
    Calls Tryz.prog 100 #[.pointer (some ⟨g, 0, none⟩), .string (toB name)] w fun e w' => e = .returned (.tuple #[]) ∧ BS w' base g (closeS s name) ∧ Below base w w' := callsIn_wide.1 (close_in w base g s hs h hbase name)
end Tre
end Go.Proofs.YteopighhhcikcaaGreatDoor
