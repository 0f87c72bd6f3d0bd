/- A builder's memory: a kid more, a node more, a text's bytes more. Conditions: as the theorems' premises say. -/
import Derived.Test.YteopighhhcikcaaGreatDoorTreeF
import Derived.Test.YteopighhhcikcaaGreatDoorKeepsBut
import Derived.Deep.Draws
import Derived.Sort.QuietIn
import Derived.WalkSmall
import Derived.Deep.QuietTactic
import Derived.BigQuiet
/- What tree's upFrom yields; Depth. Conditions: the nodes lie in memory, at most a million. -/
namespace Go.Proofs.YteopighhhcikcaaGreatDoor
open Go.ChangeShapes Go.WideShapes Go.ChangeAt Go.RowKit Go.Shelf
namespace Tre
open Tok
attribute [local go_sem] Oper.semAt_some
theorem wide_fn (f : FuncId) : Fence.wide.fn f = True := rfl
attribute [local go_sem] wide_fn
attribute [local simp] wide_fn
/-- A place within the first n. -/
abbrev Pl (n : Nat) := { x : Nat // x < n }
abbrev encs (n : Nat) (x : Pl n) : Array Value := #[.int .i64 (x.1 : Int)]
set_option maxHeartbeats 8000000 in
set_option maxRecDepth 100000 in
theorem iter_in (li m Bs Bt n₁ L : Nat) (A : Option Addr) (n c B : Nat) (ns : List Nd) (k : Int) (hm : 1 ≤ m) (hBs : Bs < n₁) (hLs : Bs ≠ L) (hBn : B ≤ n₁) (hBL : B ≤ L) (J Jx : List (Pl n) → World → Prop) (W : World)
    (hr : PR W B A n ns)
    (hY : ∀ pre x W1, J pre W1 → pre.length < n + 1 → YieldAt Fence.wide (m - 1) Tryz.prog li (encs n x) W1 fun e W' =>
      (e = .returned (.bool true) ∧ J (pre ++ [x]) W' ∧ KeepsBut L n₁ W1 W') ∨ (e = .returned (.bool false) ∧ Jx (pre ++ [x]) W'))
    (hc1 : W.cell? ⟨Bs, 0, none⟩ = some (.slice A n c)) (hc2 : W.cell? ⟨Bt, 0, none⟩ = some (.int .i64 k)) (h0 : J [] W) :
    CallsIn Fence.wide m Tryz.prog 127 #[.func (.yield li) #[] #[], .pointer (some ⟨Bs, 0, none⟩), .pointer (some ⟨Bt, 0, none⟩)] W fun e W' => (∃ v, e = .returned v) ∧
      ((∃ ys : List (Pl n), ys.map (·.1) = up ns k ∧ J ys W') ∨ (∃ pre : List (Pl n), pre.map (·.1) <+: up ns k ∧ Jx pre W')) := by
  have hlen := hr.len
  have HU : Hid (up ns k = ([] : List (Pl n)).map (·.1) ++ upF ns n n k) := by show _ = _; unfold up; rw [hlen]; rfl
  refine callsIn_of_wp Tryz.func127 rfl trivial ?_ rfl
  simp only [Tryz.ntmps127, List.size_toArray, List.length_cons, List.length_nil, Nat.reduceAdd, Nat.reduceSub, Array.replicate_succ, Array.replicate_zero, List.push_toArray, List.append_toArray, List.nil_append, List.cons_append]
  gi_wp2
  gi_loopw [5, 4] (fun nv bv wr => ∃ (q : Int) (b : Nat) (ys : List (Pl n)), nv = .int .i64 q ∧ bv = .int .i64 b ∧ b ≤ n ∧ Hid (up ns k = ys.map (·.1) ++ upF ns b b q) ∧ Hid (J ys wr) ∧ KeepsBut L n₁ W wr)
    (fun _ bv _ => (intOf bv).toNat)
  case atStart => exact ⟨k, n, [], rfl, rfl, Nat.le_refl _, HU, Lib.hid h0, KeepsBut.refl _ _ _⟩
  case round =>
    obtain ⟨q, b, ys, rfl, rfl, hbn, HQ, HJ, hKB⟩ := hrel
    clear HU
    have d1 : wr.cell? ⟨Bs, 0, none⟩ = some (.slice A n c) := (hKB.cell hBs hLs).trans hc1
    by_cases hq : 0 ≤ q ∧ q < (b : Int)
    · obtain ⟨a, rfl⟩ : ∃ a : Nat, q = a := ⟨q.toNat, by omega⟩
      have hab : a < b := by omega
      have han : a < n := by omega
      have hr1 : PR wr B A n ns := hr.keep fun p hp => World.cell?_of_block (hKB.block p.block (by omega) (by omega))
      have e := HQ.out
      rw [upF_yes ns b a hab] at e
      have hyl : ys.length < n + 1 := by
        have h1 := congrArg List.length e
        rw [List.length_append, List.length_map] at h1
        have h2 := up_len ns k
        omega
      have HP : Hid ((ys ++ [(⟨a, han⟩ : Pl n)]).map (·.1) <+: up ns k) := by
        show _ <+: _
        rw [e, List.map_append]
        exact ⟨upF ns a a (par ns a), by simp⟩
      have HQ2 : Hid (up ns k = (ys ++ [(⟨a, han⟩ : Pl n)]).map (·.1) ++ upF ns a a (par ns a)) := by
        show _ = _
        rw [e, List.map_append]
        simp
      obtain ⟨fn, tmps, assign, body, hy, hR⟩ := hY ys ⟨a, han⟩ _ HJ.out hyl
      dsimp only [encs] at hy
      have h1 : (0 : Int) ≤ (a : Int) := Int.natCast_nonneg _
      have h2 : (a : Int) < (b : Int) := by omega
      clear e hr1 hq
      gi_wp2
      refine hR.mono ?_
      rintro e W3 (⟨rfl, hJ3, hk3⟩ | ⟨rfl, hJx3⟩)
      · have hKB3 := hKB.trans hk3
        have d3 : W3.cell? ⟨Bs, 0, none⟩ = some (.slice A n c) := (hKB3.cell hBs hLs).trans hc1
        have hr3 : PR W3 B A n ns := hr.keep fun p hp => World.cell?_of_block (hKB3.block p.block (by omega) (by omega))
        obtain ⟨ad, rfl, -, e0, -⟩ := hr3.at_ (k := a) (by omega)
        clear hr hr3
        gi_wp2
        go_roundw
        case rel => exact ⟨_, a, _, rfl, rfl, by omega, HQ2, Lib.hid hJ3, hKB3⟩
        case measure => simp [intOf]; omega
      · gi_wp2
        refine bodyPost_end (results_none rfl _ _ _) rfl ?_
        exact ⟨⟨_, rfl⟩, .inr ⟨_, HP.out, hJx3⟩⟩
    · have HE : Hid (ys.map (·.1) = up ns k) := by
        show _ = _
        rw [HQ.out, upF_no ns b q hq, List.append_nil]
      by_cases hq0 : 0 ≤ q
      · have hqb : ¬ q < (b : Int) := fun h => hq ⟨hq0, h⟩
        gi_wp2
        refine bodyPost_end (results_none rfl _ _ _) rfl ?_
        exact ⟨⟨_, rfl⟩, .inl ⟨_, HE.out, HJ.out⟩⟩
      · gi_wp2
        refine bodyPost_end (results_none rfl _ _ _) rfl ?_
        exact ⟨⟨_, rfl⟩, .inl ⟨_, HE.out, HJ.out⟩⟩
end Tre
end Go.Proofs.YteopighhhcikcaaGreatDoor
/- tree's upFrom as a sequence; Depth. Conditions: the nodes lie in memory, at most a million. -/
namespace Go.Proofs.YteopighhhcikcaaGreatDoor
open Go.ChangeShapes Go.WideShapes Go.ChangeAt Go.RowKit Go.Shelf
namespace Tre
open Tok
attribute [local go_sem] Oper.semAt_some
attribute [local go_sem] wide_fn
attribute [local simp] wide_fn
theorem upFrom_any (A : Option Addr) (n c : Nat) (k : Int) (w : World) : Calls Tryz.prog 96 #[.slice A n c, .int .i64 k] w fun e w' =>
    e = .returned (.func (.func 127) #[] #[.pointer (some ⟨w.heap.size, 0, none⟩), .pointer (some ⟨w.heap.size + 1, 0, none⟩)]) ∧ w' = (w.alloc (.cells #[.slice A n c] 46)).alloc (.cells #[.int .i64 k] 3) := by
  have hz : (w.alloc (.cells #[.slice A n c] 46)).heap.size = w.heap.size + 1 := size_al _ _
  go_enter Tryz.func96, Tryz.ntmps96
  go_wp2
  go_ret
  exact ⟨rfl, rfl⟩
theorem iter_stops (m Bs Bt n₁ L : Nat) (A : Option Addr) (n c B : Nat) (ns : List Nd) (k : Int) (hm : 1 ≤ m) (hBs : Bs < n₁) (hLs : Bs ≠ L) (hBt : Bt < n₁) (hBn : B ≤ n₁) (hBL : B ≤ L) (w : World) (hw : n₁ ≤ w.heap.size)
    (hr : PR w B A n ns) (hc1 : w.cell? ⟨Bs, 0, none⟩ = some (.slice A n c)) (hc2 : w.cell? ⟨Bt, 0, none⟩ = some (.int .i64 k)) :
    SeqStopsK Fence.wide m Tryz.prog 127 #[.pointer (some ⟨Bs, 0, none⟩), .pointer (some ⟨Bt, 0, none⟩)] (encs n) (KeepsBut L n₁) (fun ys => ys.map (·.1) = up ns k) (fun pre => pre.map (·.1) <+: up ns k) (n + 1) w :=
  fun li J Jx W hW _ _ hY h0 => iter_in li m Bs Bt n₁ L A n c B ns k hm hBs hLs hBn hBL J Jx W (hr.below (hW.mono (by omega)) (Nat.le_refl _)) hY ((hW.cell (p := ⟨Bs, 0, none⟩) (by show Bs < w.heap.size; omega)).trans hc1) ((hW.cell (p := ⟨Bt, 0, none⟩) (by show Bt < w.heap.size; omega)).trans hc2) h0
set_option maxHeartbeats 8000000 in
set_option maxRecDepth 100000 in
theorem depth_in (A : Option Addr) (n c : Nat) (ns : List Nd) (k : Int) (hn : n ≤ 1000000) (w : World) (hr : PR w w.heap.size A n ns) :
    CallsIn Fence.wide 8 Tryz.prog 63 #[.slice A n c, .int .i64 k] w fun e w' => e = .returned (.int .i64 (((up ns k).length : Int) - 1)) ∧ Below w.heap.size w w' := by
  have hul := up_len ns k
  have hlen := hr.len
  obtain ⟨N, hN⟩ : ∃ N, N = (up ns k).length := ⟨_, rfl⟩
  rw [← hN] at hul ⊢
  refine callsIn_of_wp_marks Tryz.func63 rfl trivial ?_ rfl
  simp only [Tryz.ntmps63, List.size_toArray, List.length_cons, List.length_nil, Nat.reduceAdd, Nat.reduceSub, Array.replicate_succ, Array.replicate_zero, List.push_toArray, List.append_toArray, List.nil_append, List.cons_append]
  gi_wp2_with (gi_at_call 96; (with_reducible refine (callsIn_wide.2 (upFrom_any A n c k _)).mono ?_); rintro e w' ⟨rfl, rfl⟩)
  have K1 := ((Blk.new w 3 #[.int .i64 (-1)]).alloc (.cells #[.slice A n c] 46)).alloc (.cells #[.int .i64 k] 3)
  have K2 := (Blk.new (w.alloc (.cells #[.int .i64 (-1)] 3)) 46 #[.slice A n c]).alloc (.cells #[.int .i64 k] 3)
  have K3 := Blk.new ((w.alloc (.cells #[.int .i64 (-1)] 3)).alloc (.cells #[.slice A n c] 46)) 3 #[.int .i64 k]
  have hB0 := below_al (below_al (below_al (Below.refl w.heap.size w) (.cells #[.int .i64 (-1)] 3)) (.cells #[.slice A n c] 46)) (.cells #[.int .i64 k] 3)
  have hsz : (((w.alloc (.cells #[.int .i64 (-1)] 3)).alloc (.cells #[.slice A n c] 46)).alloc (.cells #[.int .i64 k] 3)).heap.size = w.heap.size + 3 := by simp only [World.size_alloc]
  rw [size_al] at K2
  rw [size_al, size_al] at K3
  obtain ⟨W0, hW0⟩ : ∃ W0, (((w.alloc (.cells #[.int .i64 (-1)] 3)).alloc (.cells #[.slice A n c] 46)).alloc (.cells #[.int .i64 k] 3)) = W0 := ⟨_, rfl⟩
  rw [hW0] at K1 K2 K3 hB0 hsz
  rw [hW0]
  clear hW0
  have hr0 := hr.below hB0 (Nat.le_refl _)
  refine wpIn_rangeFunc_ownG (F := Fence.wide) rfl (by omega) (gf := 127) (lb := #[.pointer (some ⟨w.heap.size + 1, 0, none⟩), .pointer (some ⟨w.heap.size + 1 + 1, 0, none⟩)]) rfl trivial (enters_of Tryz.func127 (by kernel_rfl) rfl)
    (iter_stops 7 (w.heap.size + 1) (w.heap.size + 1 + 1) (w.heap.size + 3) w.heap.size A n c w.heap.size ns k (by omega) (by omega) (by omega) (by omega) (by omega) (by omega) W0 (by omega) hr0 (K2.cell 0) (K3.cell 0)) keepsBut_t (keepsBut_b (by omega)) (Below.refl _ _) (fun _ => rfl)
    (fun pre W => Blk W w.heap.size 3 #[.int .i64 ((pre.length : Int) - 1)] ∧ KeepsBut w.heap.size (w.heap.size + 3) W0 W)
    (fun _ _ _ => False)
    (fun pre W W' row hs hg hrr => ⟨hs.1.grown hg (fun e => by obtain ⟨_, o, ho, hc⟩ := hrr _ e.symm; have h1 := hs.1; unfold Blk at h1; rw [h1] at ho; cases ho; cases hc), hs.2.grown hg (by rw [← hsz]; exact hs.2.size) (fun k e => by have := (hrr k e).1; omega)⟩)
    (fun _ _ _ _ _ hs _ _ => hs)
    ⟨K1, KeepsBut.refl _ _ _⟩
    (fun x => { tmps := #[.slice A n c, .int .i64 k, undef, undef, .int .i64 0, .pointer (some ⟨w.heap.size, 0, none⟩), .slice A n c, .int .i64 k, .func (.func 127) #[] #[.pointer (some ⟨w.heap.size + 1, 0, none⟩), .pointer (some ⟨w.heap.size + 1 + 1, 0, none⟩)], .int .i64 (x.1 : Int), undef, undef, undef], defers := [] }) ?assign ?body ?done ?stop
  case assign =>
    intro li x W K hK
    dsimp only [encs]
    gi_wp2
    simpa using hK
  case body =>
    rintro li pre x W ⟨J1, hK⟩ hlt
    have cc1 := J1.cell 0
    have ff1 := J1.frozen 0
    have hpl : pre.length ≤ 1000001 := by omega
    have hp0 : (0 : Int) ≤ (pre.length : Int) := Int.natCast_nonneg _
    have HE : Hid ((((pre ++ [x]).length : Nat) : Int) - 1 = ((pre.length : Int) - 1) + 1) := by show _ = _; rw [List.length_append, List.length_singleton]; omega
    generalize hpe : (pre.length : Int) - 1 = q at *
    gi_wp2
    refine ⟨(KeepsOthers.setCell _ _ _).from _, (KeepsBut.refl _ _ _).set _, ?_, hK.set _⟩
    rw [HE.out]
    exact J1.set_ 0 _
  case done =>
    rintro D ys W hD hys ⟨J1, hK⟩ hDef
    have hWs := hK.size
    have e : (ys.length : Int) = (N : Int) := by rw [hN, ← hys, List.length_map]
    rw [e] at J1
    have cc1 := J1.cell 0
    clear e hys hul hlen hN
    gi_wp2_with (fail)
    refine ⟨by simp, .inl ⟨_, _, rfl, run_takeDeferred hDef, ?_⟩⟩
    exact ⟨_, results_tmp rfl _ _ _, rfl, hB0.trans ((hK.below (m := w.heap.size) (by omega) (Nat.le_refl _)).trans (belowK_b (w := w) (Nat.le_refl _) W D _ _ (by omega) hDef rfl rfl))⟩
  case stop =>
    rintro D c pre W _ _ h _
    exact h.elim
theorem depth_any (A : Option Addr) (n c : Nat) (ns : List Nd) (k : Int) (hn : n ≤ 1000000) (w : World) (hr : PR w w.heap.size A n ns) :
    Calls Tryz.prog 63 #[.slice A n c, .int .i64 k] w fun e w' => e = .returned (.int .i64 (((up ns k).length : Int) - 1)) ∧ Below w.heap.size w w' := callsIn_wide.1 (depth_in A n c ns k hn w hr)
end Tre
end Go.Proofs.YteopighhhcikcaaGreatDoor
/- A builder, whole: what its cells hold; endsWithText. Conditions: as the theorems' premises say. -/
namespace Go.Proofs.YteopighhhcikcaaGreatDoor
open Go.ChangeShapes Go.WideShapes Go.ChangeAt Go.RowKit
namespace Tre
open Tok
open RowG (Row)
def txtOf (ns : List Nd) (i : Nat) : List UInt8 := match ns[i]? with
  | some n => n.text
  | none => []
def kidV (c : NC) : Value := .slice c.K c.n c.d
def atV (c : NC) : Value := .slice c.A c.m c.c
/-- A builder's cells. -/
def blC (nv : Value) (tv : List Value) (p : Nat) : Array Value := (nv :: (tv ++ [Value.int .i64 (p : Int)])).toArray
structure BsC (w : World) (base g : Nat) (nv : Value) (tv : List Value) (cs : List NC) (s : St) : Prop where
  blk : Blk w g 92 (blC nv tv s.place)
  hg : base ≤ g
  nodes : Row w base 54 5 ncC nv cs
  clen : cs.length = s.ns.length
  tlen : tv.length = 60
  each : ∀ (i : Nat) (c : NC) (nd : Nd), cs[i]? = some c → s.ns[i]? = some nd → c.p = nd.parent ∧ c.t = toB nd.tag ∧ c.x = ⟨#[]⟩
  ats : ∀ (i : Nat) (c : NC) (nd : Nd), cs[i]? = some c → s.ns[i]? = some nd → Row w base 41 2 atC (atV c) nd.attrs
  kids : ∀ (i : Nat) (c : NC) (nd : Nd), cs[i]? = some c → s.ns[i]? = some nd → Row w base 3 1 kidC (kidV c) nd.kids
  kdj : ∀ (i j : Nat) (c d : NC), cs[i]? = some c → cs[j]? = some d → i ≠ j → Dj (kidV c) (kidV d)
  told : ∀ (i : Nat) (v : Value), tv[i]? = some v → Row w base 5 1 (fun c => [bv c]) v (txtOf s.ns i)
  tdj : ∀ (i j : Nat) (u v : Value), tv[i]? = some u → tv[j]? = some v → i ≠ j → Dj u v
def BS (w : World) (base g : Nat) (s : St) : Prop := ∃ nv tv cs, BsC w base g nv tv cs s
theorem BsC.kt {w w' : World} {base g : Nat} {nv : Value} {tv : List Value} {cs : List NC} {s : St} (h : BsC w base g nv tv cs s) (k1 : KT w w' 92) (k2 : KT w w' 54) (k3 : KT w w' 41) (k4 : KT w w' 3) (k5 : KT w w' 5) : BsC w' base g nv tv cs s :=
  ⟨blk_kt h.blk k1, h.hg, row_kt h.nodes k2, h.clen, h.tlen, h.each, fun i c nd a b => row_kt (h.ats i c nd a b) k3, fun i c nd a b => row_kt (h.kids i c nd a b) k4, h.kdj, fun i v a => row_kt (h.told i v a) k5, h.tdj⟩
theorem BsC.next {w w' : World} {base g : Nat} {nv : Value} {tv : List Value} {cs : List NC} {s : St} (h : BsC w base g nv tv cs s) (hb : Below w.heap.size w w') : BsC w' base g nv tv cs s := h.kt (.below hb _) (.below hb _) (.below hb _) (.below hb _) (.below hb _)
theorem BS.next {w w' : World} {base g : Nat} {s : St} (h : BS w base g s) (hb : Below w.heap.size w w') : BS w' base g s := by
  obtain ⟨nv, tv, cs, h⟩ := h
  exact ⟨nv, tv, cs, h.next hb⟩
theorem BsC.form {w : World} {base g : Nat} {nv : Value} {tv : List Value} {cs : List NC} {s : St} (h : BsC w base g nv tv cs s) (hp : 0 < s.ns.length) : ∃ b c, nv = .slice (some ⟨b, 0, none⟩) s.ns.length c ∧ base ≤ b ∧ PR w w.heap.size (some ⟨b, 0, none⟩) s.ns.length s.ns := by
  rcases h.nodes.2 with ⟨-, h0⟩ | ⟨b, cap, cur, rfl, hb, -⟩
  · have := h.clen; omega
  · have hr := (h.nodes.reads).1
    rw [h.clen] at hr ⊢
    exact ⟨b, cap, rfl, hb, cs, hr, h.clen, fun i c nd hc hn => ⟨(h.each i c nd hc hn).1, (h.each i c nd hc hn).2.1⟩⟩
/-! ### a builder's cells, one by one -/
theorem bl_0 {w : World} {g p : Nat} {nv : Value} {tv : List Value} (h : Blk w g 92 (blC nv tv p)) : w.cell? ⟨g, 0, none⟩ = some nv := by rw [h.cell 0]; rfl
theorem bl_p {w : World} {g p : Nat} {nv : Value} {tv : List Value} (h : Blk w g 92 (blC nv tv p)) (ht : tv.length = 60) : w.cell? ⟨g, 61, none⟩ = some (.int .i64 (p : Int)) := by
  rw [h.cell 61]
  unfold blC
  rw [List.getElem?_toArray, List.getElem?_cons_succ, List.getElem?_append_right (by omega), ht]
  rfl
theorem bl_t {w : World} {g p k : Nat} {nv v : Value} {tv : List Value} (h : Blk w g 92 (blC nv tv p)) (hk : tv[k]? = some v) : w.cell? ⟨g, 1 + k, none⟩ = some v := by
  rw [h.cell (1 + k)]
  unfold blC
  rw [List.getElem?_toArray, show 1 + k = k + 1 by omega, List.getElem?_cons_succ, List.getElem?_append_left (List.getElem?_eq_some_iff.1 hk).1]
  exact hk
theorem bl_set0 {w : World} {g p : Nat} {nv : Value} {tv : List Value} (h : Blk w g 92 (blC nv tv p)) (u : Value) : Blk (w.setCell ⟨g, 0, none⟩ u) g 92 (blC u tv p) := by
  have := h.set_ 0 u
  unfold blC at this ⊢
  simpa using this
theorem bl_setp {w : World} {g p : Nat} {nv : Value} {tv : List Value} (h : Blk w g 92 (blC nv tv p)) (ht : tv.length = 60) (q : Nat) : Blk (w.setCell ⟨g, 61, none⟩ (.int .i64 (q : Int))) g 92 (blC nv tv q) := by
  have h1 := h.set_ 61 (.int .i64 (q : Int))
  have e : (blC nv tv p).setIfInBounds 61 (.int .i64 (q : Int)) = blC nv tv q := by
    unfold blC
    rw [List.setIfInBounds_toArray, List.set_cons_succ, List.set_append_right _ _ (by omega), ht]
    rfl
  rw [e] at h1
  exact h1
theorem bl_sett {w : World} {g p k : Nat} {nv : Value} {tv : List Value} (h : Blk w g 92 (blC nv tv p)) (hk : k < tv.length) (u : Value) : Blk (w.setCell ⟨g, 1 + k, none⟩ u) g 92 (blC nv (tv.set k u) p) := by
  have h1 := h.set_ (1 + k) u
  have e : (blC nv tv p).setIfInBounds (1 + k) u = blC nv (tv.set k u) p := by
    unfold blC
    rw [List.setIfInBounds_toArray, show 1 + k = k + 1 by omega, List.set_cons_succ, List.set_append_left _ _ hk]
  rw [e] at h1
  exact h1
theorem kid_at {w : World} {base : Nat} {c : NC} {ks : List Int} (h : Row w base 3 1 kidC (kidV c) ks) : c.n = ks.length ∧ ∀ (k : Nat) (x : Int), ks[k]? = some x → ∃ ad, c.K = some ad ∧ ad.block < w.heap.size ∧ w.cell? (ad.add k) = some (.int .i64 x) := by
  obtain ⟨hr, hn⟩ := h.reads
  refine ⟨hn, fun k x hk => ?_⟩
  have hkl := (List.getElem?_eq_some_iff.1 hk).1
  obtain ⟨ad, e, hb, hc⟩ := hr.2 (by omega)
  refine ⟨ad, e, hb, ?_⟩
  have := flat_at kidC_len ks k x 0 hk (by decide)
  have := hc _ _ this
  rwa [Nat.mul_one, Nat.add_zero] at this
theorem ends_none {s : St} (h : (kidsOf s.ns s.place).getLast? = none) : endsText s = false := by unfold endsText; rw [h]
theorem ends_some {s : St} {k : Int} (h : (kidsOf s.ns s.place).getLast? = some k) : endsText s = decide (tagOf s.ns k.toNat = []) := by unfold endsText; rw [h]
set_option maxRecDepth 100000 in
set_option maxHeartbeats 8000000 in
theorem ends_any (w : World) (base g : Nat) (s : St) (hs : Ok s) (h : BS w base g s) :
    Calls Tryz.prog 129 #[.pointer (some ⟨g, 0, none⟩)] w fun e w' => e = .returned (.bool (endsText s)) ∧ Below w.heap.size w w' := by
  obtain ⟨nv, tv, cs, h⟩ := h
  obtain ⟨b, cp, rfl, hbb, -⟩ := h.form hs.pos
  have x0 := bl_0 h.blk
  have x61 := bl_p h.blk h.tlen
  have hpl := hs.place
  have hfew := hs.few
  obtain ⟨nd, hnd⟩ := get_lt hpl
  obtain ⟨c, hc⟩ : ∃ c, cs[s.place]? = some c := ⟨_, List.getElem?_eq_getElem (by rw [h.clen]; exact hpl)⟩
  have hrd := (h.nodes.reads).1
  obtain ⟨ad, hade, -, -, -, -, -, e4⟩ := nod_of hrd hc
  obtain ⟨hkn, hka⟩ := kid_at (h.kids _ c nd hc hnd)
  have hkr := hs.kids s.place
  have hen := ends_none (s := s)
  have hes := fun k => ends_some (s := s) (k := k)
  rw [kidsOf_of hnd] at hkr hen hes
  have hkm := row_max (h.kids _ c nd hc hnd)
  simp only [maxLen] at hkm
  rw [hade] at x0
  have hple : (s.place : Int) < (s.ns.length : Int) := by omega
  have hp0 : (0 : Int) ≤ (s.place : Int) := Int.natCast_nonneg _
  obtain ⟨ck, ct, cx, cA, cm, cc, cK, cn, cd⟩ := c
  simp only at hkn hka e4
  cases hl : nd.kids.getLast? with
  | none =>
    have : nd.kids = [] := List.getLast?_eq_none_iff.1 hl
    rw [this] at hkn
    subst hkn
    rw [hen hl]
    clear hen hes hl this
    clear hka hkr hs h hrd hc hnd
    generalize s.ns.length = L at *
    generalize s.place = P at *
    go_enter Tryz.func129, Tryz.ntmps129
    go_wp2_with (fail)
    go_quiet (fail)
    go_wp2_with (fail)
    go_quiet (fail)
    go_wp2
    go_ret
    exact ⟨rfl, below_dr (below_dr (Below.refl _ _) _) _⟩
  | some k =>
    have hmem := List.mem_of_getLast? hl
    obtain ⟨hk0, hkl⟩ := hkr k hmem
    obtain ⟨kk, rfl⟩ : ∃ kk : Nat, k = kk := ⟨k.toNat, by omega⟩
    have hkk : kk < s.ns.length := by omega
    have hne : 0 < nd.kids.length := List.length_pos_of_mem hmem
    obtain ⟨m, hm⟩ : ∃ m, nd.kids.length = m + 1 := ⟨nd.kids.length - 1, by omega⟩
    have hat : nd.kids[m]? = some (kk : Int) := by rw [List.getLast?_eq_getElem?, hm] at hl; exact hl
    obtain ⟨ka, rfl, -, f0⟩ := hka m _ hat
    obtain ⟨nd2, hnd2⟩ := get_lt hkk
    obtain ⟨c2, hc2⟩ : ∃ c, cs[kk]? = some c := ⟨_, List.getElem?_eq_getElem (by rw [h.clen]; exact hkk)⟩
    obtain ⟨ad2, hade2, -, -, e21, -⟩ := nod_of hrd hc2
    have hq := (h.each kk c2 nd2 hc2 hnd2).2.1
    obtain rfl : ad = ad2 := by rw [hade] at hade2; injection hade2
    rw [hes _ hl, Int.toNat_natCast, tagOf_of hnd2]
    clear hen hes
    rw [hq] at e21
    have hkki : (kk : Int) < (s.ns.length : Int) := by omega
    rw [hm] at hkn
    subst hkn
    have htag : ((toB nd2.tag).toList == ([] : List UInt8)) = decide (nd2.tag = []) := by
      rw [ByteArray.toList_eq]
      show (nd2.tag == []) = _
      cases nd2.tag <;> rfl
    have htag2 : (toB nd2.tag).toList.isEmpty = decide (nd2.tag = []) := by
      rw [ByteArray.toList_eq]
      show (nd2.tag).isEmpty = _
      cases nd2.tag <;> rfl
    have hml : m + 1 ≤ 9223372036854775807 := by omega
    generalize toB nd2.tag = tg at *
    clear hka hkr hs h hrd hc hnd hl hmem hat hc2 hnd2 hq hne
    generalize decide (nd2.tag = []) = R at *
    generalize s.ns.length = L at *
    generalize s.place = P at *
    go_enter Tryz.func129, Tryz.ntmps129
    go_wp2_with (fail)
    go_quiet (fail)
    go_wp2_with (fail)
    go_quiet (fail)
    go_wp2
    go_ret
    exact ⟨rfl, below_dr (below_dr (Below.refl _ _) _) _⟩
end Tre
end Go.Proofs.YteopighhhcikcaaGreatDoor
namespace Go.Proofs.YteopighhhcikcaaGreatDoor
open Go.ChangeShapes Go.WideShapes Go.ChangeAt Go.RowKit
namespace Tre
open Tok
open RowG (Row)
theorem ad_off (b i : Nat) : (⟨((⟨b, 0, none⟩ : Addr).add (i * 5)).block, ((⟨b, 0, none⟩ : Addr).add (i * 5)).off + 4, none⟩ : Addr) = ⟨b, i * 5 + 4, none⟩ := by rw [add_zero_]
theorem ad_off2 (b i : Nat) : (⟨((⟨b, 0, none⟩ : Addr).add (i * 5)).block, ((⟨b, 0, none⟩ : Addr).add (i * 5)).off + 2, none⟩ : Addr) = ⟨b, i * 5 + 2, none⟩ := by rw [add_zero_]
theorem dj_of_lt {α : Type} {w : World} {base k : Nat} {e : TypeId} {enc : α → List Value} {u : Value} {l : List α} (h : Row w base e k enc u l) {b : Nat} (hb : u.ownBlock = some b) : b < w.heap.size := (World.ownsRow.lt h b hb).2
theorem getset {α : Type} {l : List α} {i j : Nat} {y c : α} (h : (l.set i y)[j]? = some c) : (i = j ∧ c = y ∧ j < l.length) ∨ (i ≠ j ∧ l[j]? = some c) := by
  rw [List.getElem?_set] at h
  by_cases e : i = j
  · rw [if_pos e] at h
    split at h
    · injection h with h
      exact .inl ⟨e, h.symm, by omega⟩
    · cases h
  · rw [if_neg e] at h
    exact .inr ⟨e, h⟩
/-- A kid more, of the node number P. -/
theorem bs_kid {W W1 w6 : World} {base g b cp P : Nat} {tv : List Value} {cs : List NC} {s : St} {c : NC} {nd : Nd} {x : Int} {K6 : Option Addr} {n6 d6 : Nat} (h : BsC W base g (.slice (some ⟨b, 0, none⟩) s.ns.length cp) tv cs s) (hb1 : Below W.heap.size W W1)
    (hc : cs[P]? = some c) (hn : s.ns[P]? = some nd) (hrow : Row w6 base 3 1 kidC (.slice K6 n6 d6) (nd.kids ++ [x])) (hg : W1.grownBy w6 (kidV c).ownBlock) (ho : (Value.slice K6 n6 d6).ownBlock = (kidV c).ownBlock ∨ (Value.slice K6 n6 d6).ownBlock = some W1.heap.size) :
    BsC (w6.setCell ⟨b, P * 5 + 4, none⟩ (.slice K6 n6 d6)) base g (.slice (some ⟨b, 0, none⟩) s.ns.length cp) tv (cs.set P { c with K := K6, n := n6, d := d6 }) ⟨addKid s.ns P x, s.place⟩ := by
  have h1 := h.next hb1
  have hk1 := h1.kids P c nd hc hn
  have kt : ∀ e, 3 ≠ e → KT W1 w6 e := fun e he => KT.grown hk1 hg he
  have hn6 := row_kt h1.nodes (kt _ (by decide))
  obtain ⟨b', hb', hbb, ⟨cur, hblk⟩, hset⟩ := row_cell (i := P) (j := 4) (x := c) (y := { c with K := K6, n := n6, d := d6 }) ncC_len hn6 hc (by decide) (u := .slice K6 n6 d6) rfl
  obtain rfl : b = b' := by injection hb' with hb'; injection hb'
  have ks : ∀ e, 54 ≠ e → KT w6 (w6.setCell ⟨b, P * 5 + 4, none⟩ (.slice K6 n6 d6)) e := fun e he => KT.set hblk he _ _
  have hPl := (List.getElem?_eq_some_iff.1 hc).1
  have hget : ∀ (i : Nat) (d : NC) (m : Nd), (cs.set P { c with K := K6, n := n6, d := d6 })[i]? = some d → (addKid s.ns P x)[i]? = some m → (i = P ∧ d = { c with K := K6, n := n6, d := d6 } ∧ m = { nd with kids := nd.kids ++ [x] }) ∨ (i ≠ P ∧ cs[i]? = some d ∧ s.ns[i]? = some m) := by
    intro i d m hd hm
    rw [addKid_get] at hm
    rcases getset hd with ⟨e, hde, -⟩ | ⟨e, hd⟩
    · subst e
      rw [if_pos rfl, hn] at hm
      injection hm with hm
      exact .inl ⟨rfl, hde, hm.symm⟩
    · rw [if_neg e] at hm
      exact .inr ⟨fun e' => e e'.symm, hd, hm⟩
  refine ⟨?_, h.hg, hset, by rw [List.length_set, addKid_len]; exact h.clen, h.tlen, ?_, ?_, ?_, ?_, ?_, h.tdj⟩
  · exact blk_kt (blk_kt h1.blk (kt _ (by decide))) (ks _ (by decide))
  · intro i d m hd hm
    rcases hget i d m hd hm with ⟨-, rfl, rfl⟩ | ⟨-, hd, hm⟩
    · exact h.each P c nd hc hn
    · exact h.each i d m hd hm
  · intro i d m hd hm
    rcases hget i d m hd hm with ⟨-, rfl, rfl⟩ | ⟨-, hd, hm⟩
    · exact row_kt (row_kt (h1.ats P c nd hc hn) (kt _ (by decide))) (ks _ (by decide))
    · exact row_kt (row_kt (h1.ats i d m hd hm) (kt _ (by decide))) (ks _ (by decide))
  · intro i d m hd hm
    rcases hget i d m hd hm with ⟨-, rfl, rfl⟩ | ⟨e, hd, hm⟩
    · exact row_kt hrow (ks _ (by decide))
    · have hdj := h.kdj i P d c hd hc e
      exact row_kt (row_other (h1.kids i d m hd hm) hg (fun q hq => hdj q hq)) (ks _ (by decide))
  · intro i j d d' hd hd' hij
    have hside : ∀ (i : Nat) (d : NC), i ≠ P → cs[i]? = some d → Dj (kidV d) (.slice K6 n6 d6) := fun i d e hd => by
      obtain ⟨m, hm⟩ := get_lt (ns := s.ns) (i := i) (by have := (List.getElem?_eq_some_iff.1 hd).1; have := h.clen; omega)
      exact (h.kdj i P d c hd hc e).grown (h1.kids i d m hd hm) ho
    rcases getset hd with ⟨e, rfl, -⟩ | ⟨e, hd⟩
    · rcases getset hd' with ⟨e', -, -⟩ | ⟨e', hd'⟩
      · omega
      · exact (hside j d' (fun q => e' q.symm) hd').symm
    · rcases getset hd' with ⟨e', rfl, -⟩ | ⟨e', hd'⟩
      · exact hside i d (fun q => e q.symm) hd
      · exact h.kdj i j d d' hd hd' hij
  · intro i v hv
    have ht : txtOf (addKid s.ns P x) i = txtOf s.ns i := by
      unfold txtOf
      rw [addKid_get]
      by_cases e : P = i
      · rw [if_pos e]; cases s.ns[i]? <;> rfl
      · rw [if_neg e]
    show Row _ base _ 1 _ v (txtOf (addKid s.ns P x) i)
    rw [ht]
    exact row_kt (row_kt (h1.told i v hv) (kt _ (by decide))) (ks _ (by decide))
/-- A node more. -/
theorem bs_node {W W1 w7 : World} {base g : Nat} {nv nv7 : Value} {tv : List Value} {cs : List NC} {s : St} {c : NC} {nd : Nd} (h : BsC W base g nv tv cs s) (hb1 : Below W.heap.size W W1)
    (hrow : Row w7 base 54 5 ncC nv7 (cs ++ [c])) (hg : W1.grownBy w7 nv.ownBlock) (hc : c.p = nd.parent ∧ c.t = toB nd.tag ∧ c.x = ⟨#[]⟩) (ha : Row W base 41 2 atC (atV c) nd.attrs) (hK : c.K = none) (hKn : c.n = 0) (hKd : c.d = 0) (hkn : nd.kids = []) (htx : nd.text = []) :
    BsC (w7.setCell ⟨g, 0, none⟩ nv7) base g nv7 tv (cs ++ [c]) ⟨s.ns ++ [nd], s.place⟩ := by
  have h1 := h.next hb1
  have kt : ∀ e, 54 ≠ e → KT W1 w7 e := fun e he => KT.grown h1.nodes hg he
  have hblk := blk_kt h1.blk (kt _ (by decide))
  have ks : ∀ e, 92 ≠ e → KT w7 (w7.setCell ⟨g, 0, none⟩ nv7) e := fun e he => KT.set hblk he _ _
  have hget : ∀ (i : Nat) (d : NC) (m : Nd), (cs ++ [c])[i]? = some d → (s.ns ++ [nd])[i]? = some m → (i = cs.length ∧ d = c ∧ m = nd) ∨ (cs[i]? = some d ∧ s.ns[i]? = some m) := by
    intro i d m hd hm
    rw [get_push] at hm
    by_cases hi : i < cs.length
    · rw [List.getElem?_append_left hi] at hd
      rw [if_pos (by rw [← h.clen]; exact hi)] at hm
      exact .inr ⟨hd, hm⟩
    · rw [List.getElem?_append_right (by omega)] at hd
      rw [if_neg (by rw [← h.clen]; exact hi)] at hm
      by_cases e : i = cs.length
      · subst e
        rw [Nat.sub_self] at hd
        rw [if_pos h.clen] at hm
        injection hm with hm
        have hd : c = d := by simpa using hd
        exact .inl ⟨rfl, hd.symm, hm.symm⟩
      · rw [List.getElem?_eq_none (by simp; omega)] at hd; cases hd
  have hkc : kidV c = .slice none 0 0 := by unfold kidV; rw [hK, hKn, hKd]
  refine ⟨bl_set0 hblk nv7, h.hg, row_kt hrow (ks _ (by decide)), by show (cs ++ [c]).length = (s.ns ++ [nd]).length; rw [List.length_append, List.length_append, h.clen]; rfl, h.tlen, ?_, ?_, ?_, ?_, ?_, h.tdj⟩
  · intro i d m hd hm
    rcases hget i d m hd hm with ⟨-, rfl, rfl⟩ | ⟨hd, hm⟩
    · exact hc
    · exact h.each i d m hd hm
  · intro i d m hd hm
    rcases hget i d m hd hm with ⟨-, rfl, rfl⟩ | ⟨hd, hm⟩
    · exact row_kt (row_kt (ha.below hb1) (kt _ (by decide))) (ks _ (by decide))
    · exact row_kt (row_kt (h1.ats i d m hd hm) (kt _ (by decide))) (ks _ (by decide))
  · intro i d m hd hm
    rcases hget i d m hd hm with ⟨-, rfl, rfl⟩ | ⟨hd, hm⟩
    · rw [hkc, hkn]
      exact Row.nil _ _ _ _ _
    · exact row_kt (row_kt (h1.kids i d m hd hm) (kt _ (by decide))) (ks _ (by decide))
  · intro i j d d' hd hd' hij
    have hnil : ∀ u : Value, Dj u (.slice none 0 0) := fun u q hq => by simp [Value.ownBlock]
    have hcase : ∀ (i : Nat) (d : NC), (cs ++ [c])[i]? = some d → (i = cs.length ∧ d = c) ∨ cs[i]? = some d := fun i d hd => by
      by_cases hi : i < cs.length
      · rw [List.getElem?_append_left hi] at hd
        exact .inr hd
      · rw [List.getElem?_append_right (by omega)] at hd
        by_cases e : i = cs.length
        · subst e
          rw [Nat.sub_self] at hd
          have hd : c = d := by simpa using hd
          exact .inl ⟨rfl, hd.symm⟩
        · rw [List.getElem?_eq_none (by simp; omega)] at hd; cases hd
    rcases hcase i d hd with ⟨e, rfl⟩ | hd
    · rw [hkc]; exact (hnil _).symm
    · rcases hcase j d' hd' with ⟨e', rfl⟩ | hd'
      · rw [hkc]; exact hnil _
      · exact h.kdj i j d d' hd hd' hij
  · intro i v hv
    have ht : txtOf (s.ns ++ [nd]) i = txtOf s.ns i := by
      unfold txtOf
      rw [get_push]
      by_cases hi : i < s.ns.length
      · rw [if_pos hi]
      · rw [if_neg hi, List.getElem?_eq_none (by omega)]
        by_cases e : i = s.ns.length
        · rw [if_pos e]; exact htx
        · rw [if_neg e]
    show Row _ base _ 1 _ v (txtOf (s.ns ++ [nd]) i)
    rw [ht]
    exact row_kt (row_kt (h1.told i v hv) (kt _ (by decide))) (ks _ (by decide))
/-- Another place. -/
theorem bs_place {w : World} {base g q : Nat} {nv : Value} {tv : List Value} {cs : List NC} {s : St} (h : BsC w base g nv tv cs s) : BsC (w.setCell ⟨g, 61, none⟩ (.int .i64 (q : Int))) base g nv tv cs ⟨s.ns, q⟩ := by
  have ks : ∀ e, 92 ≠ e → KT w (w.setCell ⟨g, 61, none⟩ (.int .i64 (q : Int))) e := fun e he => KT.set h.blk he _ _
  exact ⟨bl_setp h.blk h.tlen q, h.hg, row_kt h.nodes (ks _ (by decide)), h.clen, h.tlen, h.each, fun i c nd a b => row_kt (h.ats i c nd a b) (ks _ (by decide)), fun i c nd a b => row_kt (h.kids i c nd a b) (ks _ (by decide)), h.kdj, fun i v a => row_kt (h.told i v a) (ks _ (by decide)), h.tdj⟩
/-- Bytes more, of the last node. -/
theorem bs_told {W W1 w7 : World} {base g k : Nat} {nv v v7 : Value} {tv : List Value} {cs : List NC} {s : St} {x : List UInt8} (h : BsC W base g nv tv cs s) (hs : Ok s) (hb1 : Below W.heap.size W W1) (hk : k = s.ns.length - 1) (hv : tv[k]? = some v)
    (hrow : Row w7 base 5 1 (fun c => [bv c]) v7 (txtOf s.ns k ++ x)) (hg : W1.grownBy w7 v.ownBlock) (ho : v7.ownBlock = v.ownBlock ∨ v7.ownBlock = some W1.heap.size) :
    BsC (w7.setCell ⟨g, 1 + k, none⟩ v7) base g nv (tv.set k v7) cs ⟨more s.ns x, s.place⟩ := by
  have h1 := h.next hb1
  have hr1 := h1.told k v hv
  have kt : ∀ e, 5 ≠ e → KT W1 w7 e := fun e he => KT.grown hr1 hg he
  have hblk := blk_kt h1.blk (kt _ (by decide))
  have ks : ∀ e, 92 ≠ e → KT w7 (w7.setCell ⟨g, 1 + k, none⟩ v7) e := fun e he => KT.set hblk he _ _
  have hkl := (List.getElem?_eq_some_iff.1 hv).1
  have hpos := hs.pos
  have hget : ∀ (i : Nat) (d : NC) (m : Nd), cs[i]? = some d → (more s.ns x)[i]? = some m → ∃ m0, s.ns[i]? = some m0 ∧ m.parent = m0.parent ∧ m.tag = m0.tag ∧ m.attrs = m0.attrs ∧ m.kids = m0.kids := by
    intro i d m hd hm
    rw [more_get] at hm
    by_cases e : s.ns.length - 1 = i
    · rw [if_pos e] at hm
      cases hq : s.ns[i]? with
      | none => rw [hq] at hm; cases hm
      | some m0 =>
        rw [hq] at hm
        injection hm with hm
        subst hm
        exact ⟨m0, rfl, rfl, rfl, rfl, rfl⟩
    · rw [if_neg e] at hm
      exact ⟨m, hm, rfl, rfl, rfl, rfl⟩
  refine ⟨bl_sett hblk hkl v7, h.hg, row_kt (row_kt h1.nodes (kt _ (by decide))) (ks _ (by decide)), by show cs.length = (more s.ns x).length; rw [more_len]; exact h.clen, by rw [List.length_set]; exact h.tlen, ?_, ?_, ?_, h.kdj, ?_, ?_⟩
  · intro i d m hd hm
    obtain ⟨m0, hm0, q1, q2, -, -⟩ := hget i d m hd hm
    rw [q1, q2]
    exact h.each i d m0 hd hm0
  · intro i d m hd hm
    obtain ⟨m0, hm0, -, -, q3, -⟩ := hget i d m hd hm
    rw [q3]
    exact row_kt (row_kt (h1.ats i d m0 hd hm0) (kt _ (by decide))) (ks _ (by decide))
  · intro i d m hd hm
    obtain ⟨m0, hm0, -, -, -, q4⟩ := hget i d m hd hm
    rw [q4]
    exact row_kt (row_kt (h1.kids i d m0 hd hm0) (kt _ (by decide))) (ks _ (by decide))
  · intro i u hu
    show Row _ base _ 1 _ u (txtOf (more s.ns x) i)
    rcases getset hu with ⟨e, rfl, -⟩ | ⟨e, hu⟩
    · subst e
      have ht : txtOf (more s.ns x) k = txtOf s.ns k ++ x := by
        unfold txtOf
        rw [more_get, if_pos hk.symm]
        obtain ⟨m, hm⟩ := get_lt (ns := s.ns) (i := k) (by omega)
        rw [hm]
        rfl
      rw [ht]
      exact row_kt hrow (ks _ (by decide))
    · have ht : txtOf (more s.ns x) i = txtOf s.ns i := by
        unfold txtOf
        rw [more_get, if_neg (by omega)]
      rw [ht]
      have hdj := h.tdj i k u v hu hv (fun q => e q.symm)
      exact row_kt (row_other (h1.told i u hu) hg (fun q hq => hdj q hq)) (ks _ (by decide))
  · intro i j u u' hu hu' hij
    have hside : ∀ (i : Nat) (u : Value), i ≠ k → tv[i]? = some u → Dj u v7 := fun i u e hu => (h.tdj i k u v hu hv e).grown (h1.told i u hu) ho
    rcases getset hu with ⟨e, hue, -⟩ | ⟨e, hu2⟩
    · rcases getset hu' with ⟨e', -, -⟩ | ⟨e', hu3⟩
      · omega
      · rw [hue]; exact (hside j u' (fun q => e' q.symm) hu3).symm
    · rcases getset hu' with ⟨e', hue, -⟩ | ⟨e', hu3⟩
      · rw [hue]; exact hside i u (fun q => e q.symm) hu2
      · exact h.tdj i j u u' hu2 hu3 hij
end Tre
end Go.Proofs.YteopighhhcikcaaGreatDoor
