/- Rows.SelectorWeighs: the law's walk. Conditions: none. -/
import Derived.Test.YthacboofbbfmlaaDoorOpenSels
import Derived.Test.YthacboofbbfmlaaDoorAppend
import Derived.Test.YthacboofbbfmlaaDoorKit
import Derived.StillTailTactics
import Derived.Deep.RegionHeld3
/- A region that draws its order, whose last operation waits for all others (as in StillD). Conditions: as the theorems' premises say. -/
namespace Go.Proofs.YthacboofbbfmlaaDoor
section
variable {P : Program} {ops : Array Oper} {Q : Exit → Act → World → Prop} {md : Region.Mode} {S : World → Prop}
/-- What is asked behind all but the last. -/
def beforeLast (P : Program) (ops : Array Oper) (Q : Exit → Act → World → Prop) (o : Oper) : Exit → Act → World → Prop
  | .normal, a, w => wpList P ops Q [o] a w
  | e, a, w => Q e a w
theorem wpOp_beforeLast {i : Nat} {o : Oper} {K : Act → World → Prop} {a : Act} {w : World} (h : wpOp P ops (beforeLast P ops Q o) i K a w) : wpOp P ops Q i K a w := by
  unfold wpOp at *
  split
  · rename_i h0
    simpa [h0] using h
  · rename_i o' h0
    simp only [h0] at h
    split
    · rename_i hw
      simp only [hw, if_true] at h
      refine h.imp (fun hh => ?_) id
      unfold Oper.wp at *
      generalize (execOp a.eval o').run P w = r at *
      cases r with
      | ok n w' => cases n <;> simp only [Oper.upon] at hh ⊢ <;> exact hh
      | halt x w' => cases x <;> simp only [Oper.upon] at hh ⊢ <;> exact hh
    · rename_i hw
      rwa [if_neg hw] at h
theorem ready_back {m i : Nat} {listed : Array Bool} (hs : m < listed.size) (hno : ∀ (j : Nat) (oj : Oper), ops[j]? = some oj → ∀ e ∈ oj.after, e.on ≠ m) (h : i ∈ Region.ready md ops (listed.setIfInBounds m true)) : i ≠ m ∧ i ∈ Region.ready md ops listed := by
  obtain ⟨h0, o, ho, hall⟩ := mem_ready.1 h
  have hne : i ≠ m := by
    rintro rfl
    simp [hs] at h0
  refine ⟨hne, mem_ready.2 ⟨?_, o, ho, fun e he hb => ?_⟩⟩
  · rwa [getD_set_ne true (Ne.symm hne)] at h0
  · have := hall e he hb
    rwa [getD_set_ne false (fun e' => hno i o ho e he e'.symm)] at this
theorem all_listed {m : Nat} {listed : Array Bool} (hs : listed.size = ops.size) (hsz : ops.size = m + 1) (hup : ∀ (j : Nat) (oj : Oper), ops[j]? = some oj → ∀ e ∈ oj.after, e.on < j)
    (h : Region.ready md ops (listed.setIfInBounds m true) = []) : ∀ j, j < m → listed.getD j false = true := by
  intro j
  induction j using Nat.strongRecOn with
  | _ j ih =>
    intro hj
    cases hl : listed.getD j false with
    | true => rfl
    | false =>
      have hjs : j < listed.size := by omega
      have hj2 : ops[j]? = some ops[j] := Array.getElem?_eq_getElem (by omega)
      have : j ∈ Region.ready md ops (listed.setIfInBounds m true) := by
        refine mem_ready.2 ⟨?_, _, hj2, fun e he _ => ?_⟩
        · rw [getD_set_ne true (by omega)]; exact getD_in hjs hl
        · have h1 := hup j _ hj2 e he
          exact getD_set_true (ih e.on h1 (by omega))
      rw [h] at this
      cases this
theorem wpAny_last {m : Nat} {o : Oper} (ho : ops[m]? = some o) (hsz : ops.size = m + 1) (hsink : Region.sinkB md ops m = true) (hchain : Region.chainB md ops m = true)
    (hup : ∀ (j : Nat) (oj : Oper), ops[j]? = some oj → ∀ e ∈ oj.after, e.on < j) :
    ∀ (fuel : Nat) (listed : Array Bool) (a : Act) (w : World), HeadInv md ops m listed → wpAnyH P md ops (beforeLast P ops Q o) S fuel (listed.setIfInBounds m true) a w → wpAny P md ops Q (fuel + 1) listed a w := by
  have hno : ∀ (j : Nat) (oj : Oper), ops[j]? = some oj → ∀ e ∈ oj.after, e.on ≠ m := fun j oj hj e he => by
    have := hup j oj hj e he
    have := (Array.getElem?_eq_some_iff.1 hj).1
    omega
  have hlast : ∀ (fuel : Nat) (listed : Array Bool) (a : Act) (w : World), HeadInv md ops m listed → Region.ready md ops (listed.setIfInBounds m true) = [] → wpList P ops Q [o] a w → wpAny P md ops Q (fuel + 1) listed a w := by
    intro fuel listed a w inv hr hq
    have hall := all_listed inv.size hsz hup hr
    have hm : m ∈ Region.ready md ops listed := mem_ready.2 ⟨inv.tail m (Nat.le_refl _) (by omega), o, ho, fun e he _ => hall _ (hup m o ho e he)⟩
    refine ⟨fun h => (by rw [h] at hm; cases hm), fun i hi => ?_⟩
    by_cases him : i = m
    · subst him
      unfold wpOp
      simp only [ho]
      unfold wpList at hq
      split
      · rename_i hw
        rw [if_pos hw] at hq
        refine hq.imp (Oper.wp_mono (fun a' w' h => ?_)) id
        cases fuel with
        | zero => exact ⟨hr, h⟩
        | succ f => exact ⟨fun _ => h, by rw [hr]; intro i hi; cases hi⟩
      · rename_i hw
        rw [if_neg hw] at hq
        cases fuel with
        | zero => exact ⟨hr, hq⟩
        | succ f => exact ⟨fun _ => hq, by rw [hr]; intro i hi; cases hi⟩
    · have := ready_mono (i := m) hi him
      rw [hr] at this
      cases this
  intro fuel
  induction fuel with
  | zero =>
    intro listed a w inv H
    exact hlast 0 listed a w inv H.1 H.2
  | succ fuel ih =>
    intro listed a w inv H
    by_cases hr : Region.ready md ops (listed.setIfInBounds m true) = []
    · exact hlast _ listed a w inv hr (H.1 hr)
    · obtain ⟨i0, hi0⟩ := List.exists_mem_of_ne_nil _ hr
      have hb0 := ready_back (by rw [inv.size]; omega) hno hi0
      refine ⟨fun h => (by rw [h] at hb0; cases hb0.2), fun i hi => ?_⟩
      by_cases him : i = m
      · subst him
        have hun := (mem_ready.1 hb0.2).1
        have hlt : i0 < i := by
          have := (Array.getElem?_eq_some_iff.1 (mem_ready.1 hb0.2).2.choose_spec.1).1
          have := hb0.1
          omega
        exact absurd hi (tail_waits hsink hchain (by omega) inv _ i0 rfl hlt hun i (Nat.le_refl _))
      · have hi' := ready_mono (i := m) hi him
        have hlt : i < m := by
          have := (Array.getElem?_eq_some_iff.1 (mem_ready.1 hi).2.choose_spec.1).1
          omega
        refine wpOp_mono (fun a' w' h => ?_) (wpOp_beforeLast (H.2 i hi'))
        refine ih (listed.setIfInBounds i true) a' w' (inv.set hi hlt) ?_
        have h2 := h.2
        rw [Array.setIfInBounds_comm _ _ (by omega)]
        exact h2
/-- What the kernel is asked of a region. -/
def lastB (ops : Array Oper) (m : Nat) : Bool :=
  decide (ops.size = m + 1) && (Region.sinkB .any ops m && (Region.chainB .any ops m && (List.range ops.size).all fun j => match ops[j]? with | some oj => oj.after.all fun e => decide (e.on < j) | none => true))
theorem region_last {id m : Nat} {o : Oper} {a : Act} {w : World} (hm : P.follows .mixedOrders = true) (ho : ops[m]? = some o) (hB : lastB ops m = true) (hS : S w.drew)
    (h : S w.drew → wpAnyH P .any ops (beforeLast P ops Q o) S m ((Array.replicate ops.size false).setIfInBounds m true) a w.drew) : (Code.region id ops true).wp P Q a w := by
  unfold lastB at hB
  simp only [Bool.and_eq_true, decide_eq_true_eq] at hB
  obtain ⟨hsz, h1, h2, h3⟩ := hB
  have hup : ∀ (j : Nat) (oj : Oper), ops[j]? = some oj → ∀ e ∈ oj.after, e.on < j := by
    intro j oj hj e he
    have hlt := (Array.getElem?_eq_some_iff.1 hj).1
    have := List.all_eq_true.1 h3 j (List.mem_range.2 hlt)
    simp only [hj] at this
    have := (Array.all_eq_true_iff_forall_mem.1 this) e he
    simpa using this
  refine wp_region_any hm ?_
  rw [hsz]
  have inv0 : HeadInv .any ops m (Array.replicate ops.size false) :=
    ⟨by simp, fun j oj _ hl => (by rw [getD_replicate_false] at hl; cases hl), fun t _ ht => getD_in (by simpa using ht) (getD_replicate_false _ _)⟩
  have := wpAny_last (P := P) (Q := Q) (S := S) ho hsz h1 h2 hup m (Array.replicate ops.size false) a w.drew inv0 (h hS)
  rw [hsz] at this
  exact this
/-- An operation that may come up now, and yields in every world that meets S, is taken first. -/
theorem held_take {i : Nat} {oi : Oper} {v : Value} {fuel : Nat} {listed : Array Bool} {a : Act} {w : World} (hi : ops[i]? = some oi)
    (hB : (Region.noSelect ops && (Region.free md ops listed i && (Region.ready md ops listed).contains i)) = true)
    (hQ : ∀ c a w, Q (.panic c) (a.put oi.dst v) w → Q (.panic c) a w) (hw : Region.wanted oi (yielded ops a.tmps) = true) (hS : S w) (hy : ∀ w, S w → (execOp a.eval oi).run P w = .ok (.value v) w)
    (rest : wpAnyH P md ops Q S fuel (listed.setIfInBounds i true) (a.put oi.dst v) w) : wpAnyH P md ops Q S (fuel + 1) listed a w := by
  simp only [Bool.and_eq_true] at hB
  exact wpAnyH_take hi hB.1 hB.2.1 hB.2.2 hQ (Or.inl ⟨hw, hy⟩) hS rest
end
end Go.Proofs.YthacboofbbfmlaaDoor
/- The walk. Conditions: none. -/
namespace Go.Proofs.YthacboofbbfmlaaDoor
open Go.ChangeShapes Go.WideShapes Go.ChangeAt Go.RowKit Go.Shelf
namespace selectorWeighs
open Tok Sel
open RowG (Row)
/-- A row of one part, just laid. -/
theorem one_sim (w : World) (p : Sim) (iA cA : Option Addr) (ic cc : Nat) (h1 : Reads w w.heap.size 1 iA p.ids.length (p.ids.flatMap txC)) (h2 : Reads w w.heap.size 1 cA p.classes.length (p.classes.flatMap txC)) :
    SLR (w.alloc (.cells #[.string (toB p.tag), .slice iA p.ids.length ic, .slice cA p.classes.length cc, .bool p.link, .bool p.visited] 44)) (w.heap.size + 1) (some ⟨w.heap.size, 0, none⟩) 1 [p] := by
  have hA := below_al (Below.refl w.heap.size w) (.cells #[.string (toB p.tag), .slice iA p.ids.length ic, .slice cA p.classes.length cc, .bool p.link, .bool p.visited] 44)
  have hnc := RowG.new_cells w 44 (scC ⟨toB p.tag, iA, p.ids.length, ic, cA, p.classes.length, cc, p.link, p.visited⟩)
  refine ⟨[⟨toB p.tag, iA, p.ids.length, ic, cA, p.classes.length, cc, p.link, p.visited⟩], ⟨rfl, fun _ => ⟨_, rfl, Nat.lt_succ_self _, fun j u hu => ?_⟩⟩, rfl, fun i c q hc hq => ?_⟩
  · have e : Addr.add ⟨w.heap.size, 0, none⟩ j = ⟨w.heap.size, j, none⟩ := add_at _ _
    rw [e]
    exact hnc j u (by simpa using hu)
  · match i, hc, hq with
    | 0, hc, hq =>
      obtain rfl := Option.some.inj hc
      obtain rfl := Option.some.inj hq
      exact ⟨rfl, ⟨rfl, (h1.below hA).more (Nat.le_succ _)⟩, ⟨rfl, (h2.below hA).more (Nat.le_succ _)⟩, rfl, rfl⟩
theorem step_sims {w : World} {ops : Array Oper} {o : Oper} {a : Act} {K : Act → World → Prop} {Q : Exit → Act → World → Prop} {E : Prop} (hgd : o.guard = none) (s x : Operand)
    (ho : o.op = .call { callee := .builtin .append, args := #[s, x], argTypes := #[22, 22] }) (base : Nat) (v : Value) (l news : List SC) (hs : a.eval s = v) (hown : Row w base 44 5 scC v l)
    (B : Nat) (A : Option Addr) (m c : Nat) (hx : a.eval x = .slice A m c) (hr : Reads w B 5 A m (news.flatMap scC)) (hl : l.length + m ≤ 1000000) (hbase : base ≤ w.heap.size)
    (h : ∀ v' w', Row w' base 44 5 scC v' (l ++ news) → w.grownBy w' v.ownBlock → (v'.ownBlock = v.ownBlock ∨ v'.ownBlock = some w.heap.size) → K (a.put o.dst v') w') :
    if Region.wanted o (yielded ops a.tmps) = true then Oper.wp Tryd.prog o a w K Q else E := by
  have hm : news.length = m := by have := hr.1; rw [flat_len scC_len] at this; omega
  cases hi : Tryd.prog.info? 44 with
  | none => have hinfo := info_sim; rw [hi] at hinfo; cases hinfo
  | some i =>
    have hinfo := info_sim
    rw [hi] at hinfo
    simp only [Option.map_some, Option.some.injEq, Prod.mk.injEq] at hinfo
    have h1 : ∀ u ∈ news.flatMap scC, u.oneCell' = true := by
      intro u hu
      obtain ⟨y, -, hy⟩ := List.mem_flatMap.1 hu
      exact scC_one y u hy
    exact step_append_any w hgd s x 22 ho base 44 i _ 5 72 Tryd.underlying22 hi hinfo.1 hinfo.2.1 hinfo.2.2 rfl (by decide) v l.length (l.flatMap scC) hs hown B A m c (news.flatMap scC) hx hr h1 (by simp only [maxLen]; omega) (by omega) hbase (fun v' w' h2 h3 h4 => h v' w' (by
      unfold Row
      rw [List.length_append, List.flatMap_append, hm]
      exact h2) h3 h4)
/-- A row of texts, one behind another. -/
theorem step_txs {w : World} {ops : Array Oper} {o : Oper} {a : Act} {K : Act → World → Prop} {Q : Exit → Act → World → Prop} {E : Prop} (hgd : o.guard = none) (s x : Operand)
    (ho : o.op = .call { callee := .builtin .append, args := #[s, x], argTypes := #[42, 42] }) (base : Nat) (v : Value) (l news : List (List UInt8)) (hs : a.eval s = v) (hown : Row w base 9 1 txC v l)
    (B : Nat) (A : Option Addr) (m c : Nat) (hx : a.eval x = .slice A m c) (hr : Reads w B 1 A m (news.flatMap txC)) (hl : l.length + m ≤ 1000000) (hbase : base ≤ w.heap.size)
    (h : ∀ v' w', Row w' base 9 1 txC v' (l ++ news) → w.grownBy w' v.ownBlock → (v'.ownBlock = v.ownBlock ∨ v'.ownBlock = some w.heap.size) → K (a.put o.dst v') w') :
    if Region.wanted o (yielded ops a.tmps) = true then Oper.wp Tryd.prog o a w K Q else E := by
  have hm : news.length = m := by have := hr.1; rw [flat_len txC_len] at this; omega
  cases hi : Tryd.prog.info? 9 with
  | none => have hinfo := info_str; rw [hi] at hinfo; cases hinfo
  | some i =>
    have hinfo := info_str
    rw [hi] at hinfo
    simp only [Option.map_some, Option.some.injEq, Prod.mk.injEq] at hinfo
    have h1 : ∀ u ∈ news.flatMap txC, u.oneCell' = true := by
      intro u hu
      obtain ⟨y, -, hy⟩ := List.mem_flatMap.1 hu
      exact txC_one y u hy
    exact step_append_any w hgd s x 42 ho base 9 i _ 1 16 Tryd.underlying42 hi hinfo.1 hinfo.2.1 hinfo.2.2 rfl (by decide) v l.length (l.flatMap txC) hs hown B A m c (news.flatMap txC) hx hr h1 (by simp only [maxLen]; omega) (by omega) hbase (fun v' w' h2 h3 h4 => h v' w' (by
      unfold Row
      rw [List.length_append, List.flatMap_append, hm]
      exact h2) h3 h4)
theorem flat_set {cs : List SC} {q : Nat} {c : SC} (A : Option Addr) (m a : Nat) (h : cs[q]? = some c) : (cs.set q { c with A := A, m := m, a := a }).flatMap scC = (cs.flatMap scC).set (q * 5 + 1) (.slice A m a) := by
  induction cs generalizing q with
  | nil => cases h
  | cons d t ih =>
    cases q with
    | zero =>
      obtain rfl : d = c := Option.some.inj h
      rfl
    | succ q =>
      rw [List.getElem?_cons_succ] at h
      rw [List.set_cons_succ, List.flatMap_cons, List.flatMap_cons, ih h, List.set_append_right _ _ (by rw [scC_len]; omega), scC_len, show (q + 1) * 5 + 1 - 5 = q * 5 + 1 by omega]
/-- The row's own block, as it lies. -/
theorem row_blk {α : Type} {w : World} {base k : Nat} {e : TypeId} {enc : α → List Value} {v : Value} {l : List α} (h : Row w base e k enc v l) (hl : 0 < l.length) :
    ∃ g cap cur, v = .slice (some ⟨g, 0, none⟩) l.length cap ∧ base ≤ g ∧ Blk w g e cur ∧ l.length * k ≤ cur.size ∧ cur.toList.take (l.length * k) = l.flatMap enc := by
  rcases h.2 with ⟨-, h0⟩ | ⟨g, cap, cur, h1, h2, h3, h4, h5, h6, h7⟩
  · omega
  · exact ⟨g, cap, cur, h1, h2, h3, by rw [h6]; exact Nat.mul_le_mul_right k h4, h7⟩
theorem blk_at {w : World} {g n i : Nat} {e : TypeId} {cur : Array Value} {L : List Value} {u : Value} (h : Blk w g e cur) (hc : cur.toList.take n = L) (hu : L[i]? = some u) : w.cell? ⟨g, i, none⟩ = some u := by
  rw [h.cell, ← hu, ← hc, List.getElem?_take]
  have hi : i < n := by
    rcases Nat.lt_or_ge i n with h1 | h1
    · exact h1
    · rw [← hc, List.getElem?_take, if_neg (by omega)] at hu; cases hu
  rw [if_pos hi]
  simp
/-- The parts with one id more, in the row of which one cell was written. -/
theorem slr_set {w : World} {B g n q : Nat} {ps : List Sim} {cs : List SC} {c : SC} {p : Sim} {cur : Array Value} {A : Option Addr} {m a : Nat} {t : List UInt8} (h : Blk w g 44 cur) (hg : g < B) (hn : cs.length = n)
    (hcur : cur.toList.take (n * 5) = (cs.flatMap scC).set (q * 5 + 1) (.slice A m a)) (hcs : ∀ (i : Nat) (c : SC) (p : Sim), cs[i]? = some c → ps[i]? = some p → ScR w B c p) (hl : cs.length = ps.length) (hc : cs[q]? = some c) (hp : ps[q]? = some p)
    (hm : m = p.ids.length + 1) (hr : Reads w B 1 A m ((p.ids ++ [t]).flatMap txC)) : SLR w B (some ⟨g, 0, none⟩) n (ps.set q { p with ids := p.ids ++ [t] }) := by
  refine ⟨cs.set q { c with A := A, m := m, a := a }, ⟨?_, fun _ => ⟨_, rfl, hg, fun j u hu => ?_⟩⟩, by rw [List.length_set, List.length_set, hl], fun i c2 p2 hc2 hp2 => ?_⟩
  · rw [flat_len scC_len, List.length_set, hn]
  · rw [add_zero_]
    rw [flat_set A m a hc] at hu
    exact blk_at h hcur hu
  · by_cases hi : i = q
    · subst hi
      rw [List.getElem?_set_self (List.getElem?_eq_some_iff.1 hc).1] at hc2
      rw [List.getElem?_set_self (List.getElem?_eq_some_iff.1 hp).1] at hp2
      obtain rfl := Option.some.inj hc2
      obtain rfl := Option.some.inj hp2
      obtain ⟨q1, -, q4, q6, q7⟩ := hcs i c p hc hp
      exact ⟨q1, ⟨by rw [List.length_append]; exact hm, hr⟩, q4, q6, q7⟩
    · rw [List.getElem?_set_ne (fun e => hi e.symm)] at hc2 hp2
      exact hcs i c2 p2 hc2 hp2
theorem sum_set {ps : List Sim} {q : Nat} {p : Sim} {t : List UInt8} (hp : ps[q]? = some p) : ((ps.set q { p with ids := p.ids ++ [t] }).map wS).sum = (ps.map wS).sum + 10000 := by
  induction ps generalizing q with
  | nil => cases hp
  | cons d l ih =>
    cases q with
    | zero =>
      obtain rfl : d = p := Option.some.inj hp
      show wS _ + (l.map wS).sum = wS d + (l.map wS).sum + 10000
      have : wS { d with ids := d.ids ++ [t] } = wS d + 10000 := by unfold wS; simp; omega
      omega
    | succ q =>
      rw [List.getElem?_cons_succ] at hp
      have := ih hp
      show wS d + ((l.set q _).map wS).sum = wS d + (l.map wS).sum + 10000
      omega
theorem blk_txc {w : World} {g : Nat} {t : List UInt8} (h : Blk w g 9 #[.string (toB t)]) : ∀ (j : Nat) (u : Value), (txC t)[j]? = some u → w.cell? ⟨g, j, none⟩ = some u := by
  intro j u hu
  rw [h.cell, ← hu]
  simp [txC]
/-- What buildSlice lays for no elements. -/
theorem row_new {α : Type} {w : World} {base g k : Nat} {e : TypeId} {enc : α → List Value} (h : Blk w g e #[]) (hb : base ≤ g) : Row w base e k enc (.slice (some ⟨g, 0, none⟩) 0 0) ([] : List α) :=
  ⟨by simp, Or.inr ⟨g, 0, #[], rfl, hb, h, Nat.le_refl _, Nat.zero_le _, by simp, by simp⟩⟩
set_option maxRecDepth 100000 in
set_option maxHeartbeats 64000000 in
theorem walk (A : Option Addr) (n c : Nat) (K : Option Addr) (m d : Nat) (x : Slr) (at_ : Int) (W : World) (hX : SLR W W.heap.size A n x.parts) (_hY : BLR W W.heap.size K m x.close) (hn : n * 72 ≤ 140737488351232) (hbd : BdS x.parts) :
    Calls Tryd.prog 5 #[.agg #[.slice A n c, .slice K m d], .int .i64 at_] W fun e w' => e = .returned (.bool true) ∧ Below W.heap.size W w' := by
  have hA0 := below_al (Below.refl W.heap.size W) (.cells #[.slice A n c, .slice K m d] 25)
  have K0 := Blk.new W 25 #[.slice A n c, .slice K m d]
  have ca := awake_any (W.alloc (.cells #[.slice A n c, .slice K m d] 25))
  have co := fun W' (hb : Below W.heap.size W W') => own_any A K n c m d x.parts (by omega) W' (hX.below hb hb.size)
  have HBD := Lib.hid hbd
  have HXl := Lib.hid hX.len
  clear hbd
  go_enter Tryd.func5, Tryd.ntmps5
  go_wp2_with (first
    | (go_at_call 7; (with_reducible refine ca.mono ?_); rintro e w1 ⟨rfl, hb1⟩
       have hB1 := below_next hA0 hb1
       have K1 := K0.next hb1
       obtain ⟨z0, z1⟩ := blk2 K1
       have co1 := co w1 hB1)
    | (go_at_call 9; (with_reducible refine co1.mono ?_); rintro e w2 ⟨⟨A2, c2, rfl, hX2⟩, hb2⟩
       have hB2 := below_next hB1 hb2
       have K2 := K1.next hb2
       have cg := large_c A2 K n c2 m d x.parts (by omega) HBD.out w2 hX2)
    | (go_at_call 8; (with_reducible refine cg.mono ?_); rintro e w3 ⟨⟨b, rfl, HL⟩, hb3⟩
       have hB3 := below_next hB2 hb3
       have K3 := K2.next hb3
       obtain ⟨y0, y1⟩ := blk2 K3))
  · go_ret
    exact ⟨rfl, hB3⟩
  obtain rfl : b = false := by assumption
  obtain ⟨hco, hm100⟩ := HL.out rfl
  obtain ⟨hn5, hf, hsx⟩ := cost_few hco
  have hn6 : n ≤ 500 := by rw [← HXl.out]; exact hn5
  have HF := Lib.hid hf
  clear ca co co1 cg hX2 hB1 hB2 K1 K2 hb1 hb2 hb3 z0 z1 hf
  go_loopw [5, 17] (fun sv iv wr => ∃ k : Nat, k ≤ n ∧ iv = .int .i64 k ∧ sv = .int .i64 (((x.parts.take k).map wS).sum : Nat) ∧ Below w3.heap.size w3 wr) (fun _ iv _ => n - (intOf iv).toNat)
  case atStart => exact ⟨0, Nat.zero_le _, rfl, rfl, Below.refl _ _⟩
  case round =>
    obtain ⟨k, hk, rfl, rfl, hB4⟩ := hrel
    have hBr := below_next hB3 hB4
    by_cases hlt : k < n
    · obtain ⟨p, hp⟩ : ∃ p, x.parts[k]? = some p := ⟨_, List.getElem?_eq_getElem (by rw [HXl.out]; exact hlt)⟩
      obtain ⟨ad, iA, ic, cA, cc, rfl, hb, e0, e1, e2, e3, e4, r1, r2⟩ := (hX.below hBr (Nat.le_refl _)).at_ hp
      have hki : (k : Int) < (n : Int) := by omega
      have k0 : (0 : Int) ≤ (k : Int) := Int.natCast_nonneg _
      have hA1 := below_al (Below.refl wr.heap.size wr) (.cells #[.string (toB p.tag), .slice iA p.ids.length ic, .slice cA p.classes.length cc, .bool p.link, .bool p.visited] 44)
      have hA2 := below_al hA1 (.cells #[.string (toB p.tag), .slice iA p.ids.length ic, .slice cA p.classes.length cc, .bool p.link, .bool p.visited] 44)
      obtain ⟨x0, x1, x2, x3, x4⟩ := blk5 (Blk.new wr 44 #[.string (toB p.tag), .slice iA p.ids.length ic, .slice cA p.classes.length cc, .bool p.link, .bool p.visited])
      have hs1 := one_sim (wr.alloc (.cells #[.string (toB p.tag), .slice iA p.ids.length ic, .slice cA p.classes.length cc, .bool p.link, .bool p.visited] 44)) p iA cA ic cc ((r1.below (hA1.mono hBr.size)).more (Nat.le_trans hBr.size hA1.size)) ((r2.below (hA1.mono hBr.size)).more (Nat.le_trans hBr.size hA1.size))
      rw [size_al] at hs1
      have cw := weigh_any (some ⟨wr.heap.size + 1, 0, none⟩) none 1 1 0 0 [p] (by decide) (fun q hq => by simp at hq; subst hq; exact HF.out q (List.mem_of_getElem? hp)) ((wr.alloc (.cells #[.string (toB p.tag), .slice iA p.ids.length ic, .slice cA p.classes.length cc, .bool p.link, .bool p.visited] 44)).alloc (.cells #[.string (toB p.tag), .slice iA p.ids.length ic, .slice cA p.classes.length cc, .bool p.link, .bool p.visited] 44)) (by rw [size_al, size_al]; exact hs1)
      have HW : Hid (((x.parts.take (k + 1)).map wS).sum = ((x.parts.take k).map wS).sum + ([p].map wS).sum) := by
        show _ = _
        rw [List.take_add_one, hp]
        simp
      have hwl := weigh_le HF.out k
      have hwl2 := weigh_le HF.out (k + 1)
      rw [HW.out] at hwl2
      have hX2 : (k + 1) * 20000000000 ≤ 20000000000000000 := by omega
      obtain ⟨Z, hZ⟩ : ∃ Z, Z = ([p].map wS).sum := ⟨_, rfl⟩
      rw [← hZ] at cw HW hwl2
      obtain ⟨X, hX'⟩ : ∃ X, X = ((x.parts.take k).map wS).sum := ⟨_, rfl⟩
      rw [← hX'] at HW hwl2 ⊢
      clear hp hZ hX' hs1 r1 r2 hwl
      have hXZ : X + Z ≤ 20000000000000000 := by omega
      go_wp2_with (go_at_call 14; (with_reducible refine cw.mono ?_); rintro e w5 ⟨rfl, hb5⟩)
      go_roundw
      case rel => exact ⟨k + 1, by omega, by go_num, by rw [HW.out]; first | rfl | (congr 1), below_next hB4 (below_next hA2 hb5)⟩
      case measure => simp [intOf]; omega
    · obtain rfl : k = n := by omega
      have hfull : x.parts.take k = x.parts := List.take_of_length_le (by rw [HXl.out]; exact Nat.le_refl _)
      rw [hfull]
      have K4 := K3.next hB4
      obtain ⟨q0, q1⟩ := blk2 K4
      have cwx := weigh_any A K k c m d x.parts (by omega) HF.out wr (hX.below hBr hBr.size)
      have hwl := weigh_le HF.out k
      rw [hfull] at hwl
      obtain ⟨Z, hZ⟩ : ∃ Z, Z = (x.parts.map wS).sum := ⟨_, rfl⟩
      rw [← hZ] at cwx hwl ⊢
      have HZ := Lib.hid hZ
      clear hZ hfull
      by_cases ha : at_ < 0
      · go_wp2_with (go_at_call 14; (with_reducible refine cwx.mono ?_); rintro e w5 ⟨rfl, hb5⟩; obtain ⟨q2, q3⟩ := blk2 (K4.next hb5))
        go_ret
        exact ⟨rfl, below_next hBr hb5⟩
      have hai : decide (at_ < 0) = false := decide_eq_false ha
      by_cases hb : (k : Int) ≤ at_
      · go_wp2_with (go_at_call 14; (with_reducible refine cwx.mono ?_); rintro e w5 ⟨rfl, hb5⟩; obtain ⟨q2, q3⟩ := blk2 (K4.next hb5))
        go_ret
        exact ⟨rfl, below_next hBr hb5⟩
      have hbi : decide ((k : Int) ≤ at_) = false := decide_eq_false hb
      obtain ⟨q, hq⟩ : ∃ q : Nat, at_ = (q : Int) := ⟨at_.toNat, by omega⟩
      subst hq
      have hqk : q < k := by omega
      go_upto_region 15 with (go_at_call 14; (with_reducible refine cwx.mono ?_); rintro e w5 ⟨rfl, hb5⟩; obtain ⟨q2, q3⟩ := blk2 (K4.next hb5))
      have K5 := K4.next hb5
      have hB5 : Below W.heap.size W w5 := below_next hBr hb5
      obtain ⟨cs, hr, hcl, hcs⟩ := hX
      have hcl2 : cs.length = k := hcl.trans HXl.out
      have hr5 : Reads w5 W.heap.size 5 A k (cs.flatMap scC) := hr.below hB5
      have hsz : W.heap.size < w5.heap.size := by have := K5.lt; omega
      have hle : W.heap.size ≤ w5.heap.size := by omega
      clear cwx hb5 K4 q0 q1 hr
      have hN3 := (Blk.new (w5.alloc (.cells #[.slice none 0 0, .slice none 0 0] 25)) 44 #[]).drew
      rw [size_al] at hN3
      have KB1 : Blk ((w5.alloc (.cells #[] 44)).drew) W.heap.size 25 #[.slice A k c, .slice K m d] := (K5.alloc _).drew
      have KR1 : Row ((w5.alloc (.cells #[] 44)).drew) w5.heap.size 44 5 scC (.slice (some ⟨w5.heap.size, 0, none⟩) 0 0) [] := row_new (Blk.new w5 _ _).drew (by omega)
      have BL1 : Below w5.heap.size w5 ((w5.alloc (.cells #[] 44)).drew) := (below_al (Below.refl w5.heap.size w5) (.cells #[] 44)).drew
      obtain ⟨kb10, kb11⟩ := blk2 KB1
      have KB2 : Blk (((w5.alloc (.cells #[] 44)).alloc (.cells #[.slice none 0 0, .slice none 0 0] 25)).drew) W.heap.size 25 #[.slice A k c, .slice K m d] := ((K5.alloc _).alloc _).drew
      have KR2 : Row (((w5.alloc (.cells #[] 44)).alloc (.cells #[.slice none 0 0, .slice none 0 0] 25)).drew) w5.heap.size 44 5 scC (.slice (some ⟨w5.heap.size, 0, none⟩) 0 0) [] := row_new ((Blk.new w5 _ _).alloc _).drew (by omega)
      have BL2 : Below w5.heap.size w5 (((w5.alloc (.cells #[] 44)).alloc (.cells #[.slice none 0 0, .slice none 0 0] 25)).drew) := (below_al (below_al (Below.refl w5.heap.size w5) (.cells #[] 44)) (.cells #[.slice none 0 0, .slice none 0 0] 25)).drew
      obtain ⟨kb20, kb21⟩ := blk2 KB2
      have KY2 := (Blk.new (w5.alloc (.cells #[] 44)) 25 #[.slice none 0 0, .slice none 0 0]).drew
      rw [size_al] at KY2
      have KB3 : Blk (((w5.alloc (.cells #[.slice none 0 0, .slice none 0 0] 25)).alloc (.cells #[] 44)).drew) W.heap.size 25 #[.slice A k c, .slice K m d] := ((K5.alloc _).alloc _).drew
      have KR3 : Row (((w5.alloc (.cells #[.slice none 0 0, .slice none 0 0] 25)).alloc (.cells #[] 44)).drew) w5.heap.size 44 5 scC (.slice (some ⟨w5.heap.size + 1, 0, none⟩) 0 0) [] := row_new hN3 (by omega)
      have BL3 : Below w5.heap.size w5 (((w5.alloc (.cells #[.slice none 0 0, .slice none 0 0] 25)).alloc (.cells #[] 44)).drew) := (below_al (below_al (Below.refl w5.heap.size w5) (.cells #[.slice none 0 0, .slice none 0 0] 25)) (.cells #[] 44)).drew
      obtain ⟨kb30, kb31⟩ := blk2 KB3
      have KY3 := ((Blk.new w5 25 #[.slice none 0 0, .slice none 0 0]).alloc (.cells #[] 44)).drew
      go_cut [8] (fun s8 wx => ∃ (yb : Nat) (v6 : Value), s8 = .pointer (some ⟨yb, 0, none⟩) ∧ Below w5.heap.size w5 wx ∧ w5.heap.size ≤ yb ∧ Blk wx yb 25 #[v6, .slice K m d] ∧ Row wx w5.heap.size 44 5 scC v6 cs)
      case first =>
        go_region_held3 (fun W' => W'.cell? ⟨W.heap.size, 0, none⟩ = some (.slice A k c) ∧ W'.cell? ⟨W.heap.size, 1, none⟩ = some (.slice K m d))
          (first | (with_reducible assumption) | exact blk2 (t := 25) (by repeat (first | (with_reducible exact K5) | (with_reducible assumption) | (with_reducible apply Blk.drew) | (with_reducible refine Blk.alloc ?_ _) | (with_reducible refine Blk.far ?_ (by simp; omega) _))))
          (first
          | (refine step_sims (w := ((w5.alloc (.cells #[] 44)).drew)) (by rfl) (.tmp 41) (.tmp 43) (by rfl) w5.heap.size _ [] cs (by rfl) KR1 W.heap.size A k c (by rfl) (hr5.below (BL1.mono hle)) (by simp; omega) BL1.size ?_
             intro v6 w6 hrow6 hg6 ho6
             have kt6 := KT.grown (e := 25) KR1 hg6 (by decide)
             have K6 := blk_kt KB1 kt6
             obtain ⟨k60, k61⟩ := blk2 K6
             have B6 := RowG.below_row BL1 KR1 hg6
             obtain ⟨A6, c6, hv6⟩ := hrow6.form
             obtain ⟨N6, hN6⟩ : ∃ N6, N6 = (([] : List SC) ++ cs).length := ⟨_, rfl⟩
             rw [← hN6] at hv6
             have HN6 := Lib.hid hN6
             clear hN6
             subst hv6
             have K7 := K6.alloc (.cells #[.slice none 0 0, .slice none 0 0] 25)
             obtain ⟨k70, k71⟩ := blk2 K7
             obtain ⟨k80, k81⟩ := blk2 K7.drew)
          | (refine step_sims (w := (((w5.alloc (.cells #[] 44)).alloc (.cells #[.slice none 0 0, .slice none 0 0] 25)).drew)) (by rfl) (.tmp 41) (.tmp 43) (by rfl) w5.heap.size _ [] cs (by rfl) KR2 W.heap.size A k c (by rfl) (hr5.below (BL2.mono hle)) (by simp; omega) BL2.size ?_
             intro v6 w6 hrow6 hg6 ho6
             have kt6 := KT.grown (e := 25) KR2 hg6 (by decide)
             have K6 := blk_kt KB2 kt6
             obtain ⟨k60, k61⟩ := blk2 K6
             have B6 := RowG.below_row BL2 KR2 hg6
             obtain ⟨A6, c6, hv6⟩ := hrow6.form
             obtain ⟨N6, hN6⟩ : ∃ N6, N6 = (([] : List SC) ++ cs).length := ⟨_, rfl⟩
             rw [← hN6] at hv6
             have HN6 := Lib.hid hN6
             clear hN6
             subst hv6
             have KY6 := blk_kt KY2 kt6
             obtain ⟨fy0, fy1⟩ := fz2 KY6
             obtain ⟨cy0, cy1⟩ := blk2 KY6)
          | (refine step_sims (w := (((w5.alloc (.cells #[.slice none 0 0, .slice none 0 0] 25)).alloc (.cells #[] 44)).drew)) (by rfl) (.tmp 41) (.tmp 43) (by rfl) w5.heap.size _ [] cs (by rfl) KR3 W.heap.size A k c (by rfl) (hr5.below (BL3.mono hle)) (by simp; omega) BL3.size ?_
             intro v6 w6 hrow6 hg6 ho6
             have kt6 := KT.grown (e := 25) KR3 hg6 (by decide)
             have K6 := blk_kt KB3 kt6
             obtain ⟨k60, k61⟩ := blk2 K6
             have B6 := RowG.below_row BL3 KR3 hg6
             obtain ⟨A6, c6, hv6⟩ := hrow6.form
             obtain ⟨N6, hN6⟩ : ∃ N6, N6 = (([] : List SC) ++ cs).length := ⟨_, rfl⟩
             rw [← hN6] at hv6
             have HN6 := Lib.hid hN6
             clear hN6
             subst hv6
             have KY6 := blk_kt KY3 kt6
             obtain ⟨fy0, fy1⟩ := fz2 KY6
             obtain ⟨cy0, cy1⟩ := blk2 KY6))
        all_goals go_wp2
        all_goals go_meet
        all_goals first
          | exact ⟨w6.heap.size, _, rfl, below_al B6 _, B6.size, Blk.new _ _ _, hrow6.alloc _⟩
          | exact ⟨_, _, rfl, below_set2 B6 (by omega) _ _, by omega, blk_set2 KY6 _ _, row_kt hrow6 (kt_set2 KY6 (by decide) _ _)⟩
      case rest =>
        obtain ⟨yb, v6, rfl, hB6, hyb, KY, hrow6⟩ := hcut
        obtain ⟨g, cap, cur, rfl, hgb, KG, hcz, hct⟩ := row_blk hrow6 (by omega)
        rw [hcl2] at hcz hct KY hrow6
        obtain ⟨c1, hc1⟩ : ∃ c1, cs[q]? = some c1 := ⟨_, List.getElem?_eq_getElem (by omega)⟩
        obtain ⟨p1, hp1⟩ : ∃ p1, x.parts[q]? = some p1 := ⟨_, List.getElem?_eq_getElem (by have := HXl.out; omega)⟩
        obtain ⟨-, ⟨hm1, hr1⟩, -⟩ := hcs q c1 p1 hc1 hp1
        have HCS := Lib.hid hcs
        have HCT := Lib.hid hct
        have HP1 := Lib.hid hp1
        have HC1 := Lib.hid hc1
        have hm5 : p1.ids.length ≤ 500 := by
          have h1 := costS_mem.2 p1 (List.mem_of_getElem? hp1)
          unfold cost1 at h1
          have := (costL_mem (l := p1.ids)).1
          omega
        have hBW : Below W.heap.size W wc := hB5.trans (hB6.mono hle)
        have hPc : ((cs.flatMap scC))[q * 5 + 1]? = some (.slice c1.A p1.ids.length c1.a) := by
          have := flat_at scC_len cs q c1 1 hc1 (by decide)
          rw [← hm1]
          exact this
        have HPC := Lib.hid hPc
        rw [hm1] at hr1
        have hrW : Reads wc W.heap.size 1 c1.A p1.ids.length (p1.ids.flatMap txC) := hr1.below hBW
        have eP0 : wc.cell? ⟨g, q * 5 + 1, none⟩ = some (.slice c1.A p1.ids.length c1.a) := blk_at KG hct hPc
        obtain ⟨ad, had⟩ : ∃ ad : Addr, ad = ⟨g, 0, none⟩ := ⟨_, rfl⟩
        have eP : (⟨(ad.add (q * 5)).block, (ad.add (q * 5)).off + 1, none⟩ : Addr) = ⟨g, q * 5 + 1, none⟩ := by rw [had, add_zero_]
        have HP := Lib.hid eP
        have HAD := Lib.hid had
        rw [← eP] at eP0
        rw [← had] at KY
        have hgW : W.heap.size < g := by omega
        have hgne : yb ≠ g := KY.ne_ KG (by decide)
        have hq0 : (0 : Int) ≤ (q : Int) := Int.natCast_nonneg _
        have hqi : (q : Int) < (k : Int) := by omega
        obtain ⟨cy0, cy1⟩ := blk2 KY
        have keepL : ∀ w' : World, Blk w' yb 25 #[.slice (some ad) k cap, .slice K m d] → Blk w' g 44 cur → w'.cell? ⟨yb, 0, none⟩ = some (.slice (some ad) k cap) ∧ w'.cell? ⟨(ad.add (q * 5)).block, (ad.add (q * 5)).off + 1, none⟩ = some (.slice c1.A p1.ids.length c1.a) := fun w' h1 h2 => ⟨h1.cell 0, by rw [HP.out]; exact blk_at h2 HCT.out HPC.out⟩
        have froz : ∀ w' : World, Blk w' g 44 cur → w'.frozen? ⟨(ad.add (q * 5)).block, (ad.add (q * 5)).off + 1, none⟩ = false := fun w' h2 => by rw [HP.out]; exact h2.frozen _
        have hgs := KG.lt
        have hys := KY.lt
        have hgw5 : w5.heap.size ≤ wc.heap.size := hB6.size
        have KYd := KY.drew
        have KGd := KG.drew
        have hBWd := hBW.drew
        have hszd : w5.heap.size ≤ wc.drew.heap.size := hgw5
        have hrWd : Reads wc.drew W.heap.size 1 c1.A p1.ids.length (p1.ids.flatMap txC) := hrW.below (Below.refl _ _).drew
        clear eP had hr1 hcs hrow6 hm1 hp1 hc1 hct hPc
        go_wp2
        refine region_last (m := 15) (S := fun w' => w'.cell? ⟨yb, 0, none⟩ = some (.slice (some ad) k cap) ∧ w'.cell? ⟨(ad.add (q * 5)).block, (ad.add (q * 5)).off + 1, none⟩ = some (.slice c1.A p1.ids.length c1.a)) (by kernel_rfl) rfl (by kernel_rfl) ?_ (fun hHeld => ?_)
        · exact keepL _ KYd KGd
        clear KY KG hBW hrW eP0 hB6 hyb hgb hgs hys hgw5 cy0 cy1
        generalize wc.drew = wd at *
        refine held_take (i := 0) (v := ?_) rfl (by kernel_rfl) (fun _ _ _ h => h) rfl (by assumption) ?_ ?_
        rotate_left
        · intro w9 hSw; (try dsimp only at hSw); (try go_split_ands); go_simp; (try with_reducible rfl)
        (try simp only [Act.put]); (try simp only [List.setIfInBounds_toArray]); (try simp only [List.set_cons_succ]); (try simp only [List.set_cons_zero])
        refine held_take (i := 1) (v := ?_) rfl (by kernel_rfl) (fun _ _ _ h => h) rfl (by assumption) ?_ ?_
        rotate_left
        · intro w9 hSw; (try dsimp only at hSw); (try go_split_ands); go_simp; (try with_reducible rfl)
        (try simp only [Act.put]); (try simp only [List.setIfInBounds_toArray]); (try simp only [List.set_cons_succ]); (try simp only [List.set_cons_zero])
        refine held_take (i := 2) (v := ?_) rfl (by kernel_rfl) (fun _ _ _ h => h) rfl (by assumption) ?_ ?_
        rotate_left
        · intro w9 hSw; (try dsimp only at hSw); (try go_split_ands); go_simp; (try with_reducible rfl)
        (try simp only [Act.put]); (try simp only [List.setIfInBounds_toArray]); (try simp only [List.set_cons_succ]); (try simp only [List.set_cons_zero])
        refine held_take (i := 4) (v := ?_) rfl (by kernel_rfl) (fun _ _ _ h => h) rfl (by assumption) ?_ ?_
        rotate_left
        · intro w9 hSw; (try dsimp only at hSw); (try go_split_ands); go_simp; (try with_reducible rfl)
        (try simp only [Act.put]); (try simp only [List.setIfInBounds_toArray]); (try simp only [List.set_cons_succ]); (try simp only [List.set_cons_zero])
        refine held_take (i := 5) (v := ?_) rfl (by kernel_rfl) (fun _ _ _ h => h) rfl (by assumption) ?_ ?_
        rotate_left
        · intro w9 hSw; (try dsimp only at hSw); (try go_split_ands); go_simp; (try with_reducible rfl)
        (try simp only [Act.put]); (try simp only [List.setIfInBounds_toArray]); (try simp only [List.set_cons_succ]); (try simp only [List.set_cons_zero])
        refine held_take (i := 6) (v := ?_) rfl (by kernel_rfl) (fun _ _ _ h => h) rfl (by assumption) ?_ ?_
        rotate_left
        · intro w9 hSw; (try dsimp only at hSw); (try go_split_ands); go_simp; (try with_reducible rfl)
        (try simp only [Act.put]); (try simp only [List.setIfInBounds_toArray]); (try simp only [List.set_cons_succ]); (try simp only [List.set_cons_zero])
        refine held_take (i := 7) (v := ?_) rfl (by kernel_rfl) (fun _ _ _ h => h) rfl (by assumption) ?_ ?_
        rotate_left
        · intro w9 hSw; (try dsimp only at hSw); (try go_split_ands); go_simp; (try with_reducible rfl)
        (try simp only [Act.put]); (try simp only [List.setIfInBounds_toArray]); (try simp only [List.set_cons_succ]); (try simp only [List.set_cons_zero])
        refine held_take (i := 8) (v := ?_) rfl (by kernel_rfl) (fun _ _ _ h => h) rfl (by assumption) ?_ ?_
        rotate_left
        · intro w9 hSw; (try dsimp only at hSw); (try go_split_ands); go_simp; (try with_reducible rfl)
        (try simp only [Act.put]); (try simp only [List.setIfInBounds_toArray]); (try simp only [List.set_cons_succ]); (try simp only [List.set_cons_zero])
        refine held_take (i := 9) (v := ?_) rfl (by kernel_rfl) (fun _ _ _ h => h) rfl (by assumption) ?_ ?_
        rotate_left
        · intro w9 hSw; (try dsimp only at hSw); (try go_split_ands); go_simp; (try with_reducible rfl)
        (try simp only [Act.put]); (try simp only [List.setIfInBounds_toArray]); (try simp only [List.set_cons_succ]); (try simp only [List.set_cons_zero])
        refine wpAnyH_ready (rs := [3, 11]) (by kernel_rfl) (by simp) ?_
        refine AllReadyH.cons rfl (fun K hK => ?_) (AllReadyH.cons rfl (fun K hK => ?_) AllReadyH.nil)
        · go_simp
          have KY1 := KYd.alloc (.cells #[] 9)
          have KG1 := KGd.alloc (.cells #[] 9)
          refine hK.out _ _ (keepL _ KY1 KG1) (fun hHeld => ?_)
          clear hK K
          (try simp only [Act.put]); (try simp only [List.setIfInBounds_toArray]); (try simp only [List.set_cons_succ]); (try simp only [List.set_cons_zero])
          have BL1 := below_al (Below.refl wd.heap.size wd) (.cells #[] 9)
          have KR1 : Row (wd.alloc (.cells #[] 9)) wd.heap.size 9 1 txC (.slice (some ⟨wd.heap.size, 0, none⟩) 0 0) [] := row_new (Blk.new wd _ _) (Nat.le_refl _)
          refine wpAnyH_ready (rs := [10, 11]) (by kernel_rfl) (by simp) ?_
          refine AllReadyH.cons rfl (fun K hK => ?_) (AllReadyH.cons rfl (fun K hK => ?_) AllReadyH.nil)
          · skip
            refine step_txs (w := wd.alloc (.cells #[] 9)) (by rfl) (.tmp 51) (.tmp 57) (by rfl) wd.heap.size _ [] p1.ids (by rfl) KR1 W.heap.size c1.A p1.ids.length c1.a (by rfl) (hrWd.below (BL1.mono (by omega))) (by simp; omega) BL1.size ?_
            intro v7 w7 hrow7 hg7 ho7
            have KY7 := blk_kt KY1 (KT.grown (e := 25) KR1 hg7 (by decide))
            have KG7 := blk_kt KG1 (KT.grown (e := 44) KR1 hg7 (by decide))
            have B7 := RowG.below_row BL1 KR1 hg7
            obtain ⟨A7, c7, hv7⟩ := hrow7.form
            obtain ⟨N7, hN7⟩ : ∃ N7, N7 = (([] : List (List UInt8)) ++ p1.ids).length := ⟨_, rfl⟩
            rw [← hN7] at hv7
            have HN7 := Lib.hid hN7
            clear hN7
            subst hv7
            refine hK.out _ _ (keepL _ KY7 KG7) (fun hHeld => ?_)
            clear hK K
            (try simp only [Act.put]); (try simp only [List.setIfInBounds_toArray]); (try simp only [List.set_cons_succ]); (try simp only [List.set_cons_zero])
            refine wpAnyH_ready (rs := [11]) (by kernel_rfl) (by simp) ?_
            refine AllReadyH.cons rfl (fun K hK => ?_) AllReadyH.nil
            go_simp
            have KY7m := KY7.alloc (.cells #[.string ⟨#[109, 111, 114, 101]⟩] 9)
            have KG7m := KG7.alloc (.cells #[.string ⟨#[109, 111, 114, 101]⟩] 9)
            refine hK.out _ _ (keepL _ KY7m KG7m) (fun hHeld => ?_)
            clear hK K
            (try simp only [Act.put]); (try simp only [List.setIfInBounds_toArray]); (try simp only [List.set_cons_succ]); (try simp only [List.set_cons_zero])
            refine wpAnyH_ready (rs := [12]) (by kernel_rfl) (by simp) ?_
            refine AllReadyH.cons rfl (fun K hK => ?_) AllReadyH.nil
            refine RowG.step_more (w := w7.alloc (.cells #[.string ⟨#[109, 111, 114, 101]⟩] 9)) (by rfl) (.tmp 58) (.tmp 59) 42 (by rfl) 9 txC 1 16 _ info_str Tryd.underlying42 rfl (by decide) txC_len txC_one wd.heap.size _ p1.ids [109, 111, 114, 101] (by rfl) (w7.heap.size) _ (by rfl) (hrow7.alloc (.cells #[.string ⟨#[109, 111, 114, 101]⟩] 9)) (blk_txc (Blk.new w7 9 #[.string ⟨#[109, 111, 114, 101]⟩])) (by simp only [maxLen]; omega) (by omega) (below_al B7 (.cells #[.string ⟨#[109, 111, 114, 101]⟩] 9)).size ?_
            intro v8 w8 hrow8 hg8 ho8
            have KY8 := blk_kt (KY7m) (KT.grown (e := 25) (hrow7.alloc (.cells #[.string ⟨#[109, 111, 114, 101]⟩] 9)) hg8 (by decide))
            have KG8 := blk_kt (KG7m) (KT.grown (e := 44) (hrow7.alloc (.cells #[.string ⟨#[109, 111, 114, 101]⟩] 9)) hg8 (by decide))
            have B8 := RowG.below_row (below_al B7 (.cells #[.string ⟨#[109, 111, 114, 101]⟩] 9)) (hrow7.alloc (.cells #[.string ⟨#[109, 111, 114, 101]⟩] 9)) hg8
            obtain ⟨A8, c8, hv8⟩ := hrow8.form
            obtain ⟨N8, hN8⟩ : ∃ N8, N8 = (p1.ids ++ [[109, 111, 114, 101]]).length := ⟨_, rfl⟩
            rw [← hN8] at hv8
            have HN8 := Lib.hid hN8
            clear hN8
            subst hv8
            refine hK.out _ _ (keepL _ KY8 KG8) (fun hHeld => ?_)
            clear hK K
            (try simp only [Act.put]); (try simp only [List.setIfInBounds_toArray]); (try simp only [List.set_cons_succ]); (try simp only [List.set_cons_zero])
            refine held_take (i := 13) (v := ?_) rfl (by kernel_rfl) (fun _ _ _ h => h) rfl (by assumption) ?_ ?_
            rotate_left
            · intro w9 hSw; (try dsimp only at hSw); (try go_split_ands); go_simp; (try with_reducible rfl)
            (try simp only [Act.put]); (try simp only [List.setIfInBounds_toArray]); (try simp only [List.set_cons_succ]); (try simp only [List.set_cons_zero])
            refine held_take (i := 14) (v := ?_) rfl (by kernel_rfl) (fun _ _ _ h => h) rfl (by assumption) ?_ ?_
            rotate_left
            · intro w9 hSw; (try dsimp only at hSw); (try go_split_ands); go_simp; (try with_reducible rfl)
            (try simp only [Act.put]); (try simp only [List.setIfInBounds_toArray]); (try simp only [List.set_cons_succ]); (try simp only [List.set_cons_zero])
            refine wpAnyH_done (by kernel_rfl) ?_ _
            simp only [beforeLast]
            obtain ⟨s80, s81⟩ := keepL w8 KY8 KG8
            have f8 := froz w8 KG8
            clear hHeld
            have hB8W : Below W.heap.size W w8 := hBWd.trans (B8.mono (by omega))
            obtain ⟨W9, hW9⟩ : ∃ W9, W9 = w8.setCell ⟨(ad.add (q * 5)).block, (ad.add (q * 5)).off + 1, none⟩ (.slice A8 N8 c8) := ⟨_, rfl⟩
            have hW8 := hW9
            rw [HP.out] at hW9
            have KG9 : Blk W9 g 44 (cur.setIfInBounds (q * 5 + 1) (.slice A8 N8 c8)) := by rw [hW9]; exact KG8.set_ (q * 5 + 1) (.slice A8 N8 c8)
            have KY9 : Blk W9 yb 25 #[.slice (some ad) k cap, .slice K m d] := by rw [hW9]; exact KY8.far (p := ⟨g, q * 5 + 1, none⟩) hgne (.slice A8 N8 c8)
            have hrow9 := row_kt hrow8 (KT.set (e := 9) KG8 (by decide) (q * 5 + 1) (.slice A8 N8 c8))
            rw [← hW9] at hrow9
            have hB9 : Below W.heap.size W W9 := by rw [hW9]; exact hB8W.setCell (p := ⟨g, q * 5 + 1, none⟩) (by show W.heap.size ≤ g; omega) (.slice A8 N8 c8)
            obtain ⟨y90, y91⟩ := blk2 KY9
            have hg9 := KG9.lt
            have hrd := (RowG.Row.reads hrow9)
            have hsl : SLR W9 W9.heap.size (some ⟨g, 0, none⟩) k (x.parts.set q { p1 with ids := p1.ids ++ [[109, 111, 114, 101]] }) := slr_set KG9 hg9 hcl2 (by
                rw [Array.toList_setIfInBounds, List.take_set, HCT.out]) (fun i c2 p2 h1 h2 => (HCS.out i c2 p2 h1 h2).below hB9 hB9.size) hcl HC1.out HP1.out (by rw [HN8.out, List.length_append]; rfl) (by rw [hrd.2]; exact hrd.1)
            have hfe : Few (x.parts.set q { p1 with ids := p1.ids ++ [[109, 111, 114, 101]] }) := by
              intro p hp
              rcases List.mem_or_eq_of_mem_set hp with h | rfl
              · exact HF.out p h
              · refine ⟨?_, (HF.out p1 (List.mem_of_getElem? HP1.out)).2⟩
                show (p1.ids ++ [[109, 111, 114, 101]]).length ≤ 1000000
                rw [List.length_append]
                show p1.ids.length + 1 ≤ 1000000
                omega
            have cw := weigh_any (some ⟨g, 0, none⟩) K k cap m d _ (by omega) hfe W9 hsl
            rw [sum_set HP1.out, ← HZ.out, show ((Z + 10000 : Nat) : Int) = (Z : Int) + 10000 by omega, ← HAD.out] at cw
            have hZb : Z ≤ 10000000000000 := by omega
            clear hsl hfe hrd hrow9 KG9 KY9 hg9 hW9 keepL froz KY8 KG8 hrow8
            rw [hW8] at y90 y91 cw hB9
            go_wp2_with (go_at_call 14; (with_reducible refine cw.mono ?_); rintro e w10 ⟨rfl, hb10⟩)
            go_ret
            exact ⟨rfl, below_next hB9 hb10⟩
          · go_simp
            have KY2 := KY1.alloc (.cells #[.string ⟨#[109, 111, 114, 101]⟩] 9)
            have KG2 := KG1.alloc (.cells #[.string ⟨#[109, 111, 114, 101]⟩] 9)
            refine hK.out _ _ (keepL _ KY2 KG2) (fun hHeld => ?_)
            clear hK K
            (try simp only [Act.put]); (try simp only [List.setIfInBounds_toArray]); (try simp only [List.set_cons_succ]); (try simp only [List.set_cons_zero])
            have BL2 := below_al BL1 (.cells #[.string ⟨#[109, 111, 114, 101]⟩] 9)
            have KR2 := KR1.alloc (.cells #[.string ⟨#[109, 111, 114, 101]⟩] 9)
            have KM2 := Blk.new (wd.alloc (.cells #[] 9)) 9 #[.string ⟨#[109, 111, 114, 101]⟩]
            rw [size_al] at KM2
            refine wpAnyH_ready (rs := [10]) (by kernel_rfl) (by simp) ?_
            refine AllReadyH.cons rfl (fun K hK => ?_) AllReadyH.nil
            refine step_txs (w := (wd.alloc (.cells #[] 9)).alloc (.cells #[.string ⟨#[109, 111, 114, 101]⟩] 9)) (by rfl) (.tmp 51) (.tmp 57) (by rfl) wd.heap.size _ [] p1.ids (by rfl) KR2 W.heap.size c1.A p1.ids.length c1.a (by rfl) (hrWd.below (BL2.mono (by omega))) (by simp; omega) BL2.size ?_
            intro v7 w7 hrow7 hg7 ho7
            have KY7 := blk_kt KY2 (KT.grown (e := 25) KR2 hg7 (by decide))
            have KG7 := blk_kt KG2 (KT.grown (e := 44) KR2 hg7 (by decide))
            have B7 := RowG.below_row BL2 KR2 hg7
            obtain ⟨A7, c7, hv7⟩ := hrow7.form
            obtain ⟨N7, hN7⟩ : ∃ N7, N7 = (([] : List (List UInt8)) ++ p1.ids).length := ⟨_, rfl⟩
            rw [← hN7] at hv7
            have HN7 := Lib.hid hN7
            clear hN7
            subst hv7
            have KM7 := KM2.grown hg7 (by simp [Value.ownBlock])
            refine hK.out _ _ (keepL _ KY7 KG7) (fun hHeld => ?_)
            clear hK K
            (try simp only [Act.put]); (try simp only [List.setIfInBounds_toArray]); (try simp only [List.set_cons_succ]); (try simp only [List.set_cons_zero])
            refine wpAnyH_ready (rs := [12]) (by kernel_rfl) (by simp) ?_
            refine AllReadyH.cons rfl (fun K hK => ?_) AllReadyH.nil
            refine RowG.step_more (w := w7) (by rfl) (.tmp 58) (.tmp 59) 42 (by rfl) 9 txC 1 16 _ info_str Tryd.underlying42 rfl (by decide) txC_len txC_one wd.heap.size _ p1.ids [109, 111, 114, 101] (by rfl) (wd.heap.size + 1) _ (by rfl) hrow7 (blk_txc KM7) (by simp only [maxLen]; omega) (by omega) (B7).size ?_
            intro v8 w8 hrow8 hg8 ho8
            have KY8 := blk_kt (KY7) (KT.grown (e := 25) hrow7 hg8 (by decide))
            have KG8 := blk_kt (KG7) (KT.grown (e := 44) hrow7 hg8 (by decide))
            have B8 := RowG.below_row (B7) hrow7 hg8
            obtain ⟨A8, c8, hv8⟩ := hrow8.form
            obtain ⟨N8, hN8⟩ : ∃ N8, N8 = (p1.ids ++ [[109, 111, 114, 101]]).length := ⟨_, rfl⟩
            rw [← hN8] at hv8
            have HN8 := Lib.hid hN8
            clear hN8
            subst hv8
            refine hK.out _ _ (keepL _ KY8 KG8) (fun hHeld => ?_)
            clear hK K
            (try simp only [Act.put]); (try simp only [List.setIfInBounds_toArray]); (try simp only [List.set_cons_succ]); (try simp only [List.set_cons_zero])
            refine held_take (i := 13) (v := ?_) rfl (by kernel_rfl) (fun _ _ _ h => h) rfl (by assumption) ?_ ?_
            rotate_left
            · intro w9 hSw; (try dsimp only at hSw); (try go_split_ands); go_simp; (try with_reducible rfl)
            (try simp only [Act.put]); (try simp only [List.setIfInBounds_toArray]); (try simp only [List.set_cons_succ]); (try simp only [List.set_cons_zero])
            refine held_take (i := 14) (v := ?_) rfl (by kernel_rfl) (fun _ _ _ h => h) rfl (by assumption) ?_ ?_
            rotate_left
            · intro w9 hSw; (try dsimp only at hSw); (try go_split_ands); go_simp; (try with_reducible rfl)
            (try simp only [Act.put]); (try simp only [List.setIfInBounds_toArray]); (try simp only [List.set_cons_succ]); (try simp only [List.set_cons_zero])
            refine wpAnyH_done (by kernel_rfl) ?_ _
            simp only [beforeLast]
            obtain ⟨s80, s81⟩ := keepL w8 KY8 KG8
            have f8 := froz w8 KG8
            clear hHeld
            have hB8W : Below W.heap.size W w8 := hBWd.trans (B8.mono (by omega))
            obtain ⟨W9, hW9⟩ : ∃ W9, W9 = w8.setCell ⟨(ad.add (q * 5)).block, (ad.add (q * 5)).off + 1, none⟩ (.slice A8 N8 c8) := ⟨_, rfl⟩
            have hW8 := hW9
            rw [HP.out] at hW9
            have KG9 : Blk W9 g 44 (cur.setIfInBounds (q * 5 + 1) (.slice A8 N8 c8)) := by rw [hW9]; exact KG8.set_ (q * 5 + 1) (.slice A8 N8 c8)
            have KY9 : Blk W9 yb 25 #[.slice (some ad) k cap, .slice K m d] := by rw [hW9]; exact KY8.far (p := ⟨g, q * 5 + 1, none⟩) hgne (.slice A8 N8 c8)
            have hrow9 := row_kt hrow8 (KT.set (e := 9) KG8 (by decide) (q * 5 + 1) (.slice A8 N8 c8))
            rw [← hW9] at hrow9
            have hB9 : Below W.heap.size W W9 := by rw [hW9]; exact hB8W.setCell (p := ⟨g, q * 5 + 1, none⟩) (by show W.heap.size ≤ g; omega) (.slice A8 N8 c8)
            obtain ⟨y90, y91⟩ := blk2 KY9
            have hg9 := KG9.lt
            have hrd := (RowG.Row.reads hrow9)
            have hsl : SLR W9 W9.heap.size (some ⟨g, 0, none⟩) k (x.parts.set q { p1 with ids := p1.ids ++ [[109, 111, 114, 101]] }) := slr_set KG9 hg9 hcl2 (by
                rw [Array.toList_setIfInBounds, List.take_set, HCT.out]) (fun i c2 p2 h1 h2 => (HCS.out i c2 p2 h1 h2).below hB9 hB9.size) hcl HC1.out HP1.out (by rw [HN8.out, List.length_append]; rfl) (by rw [hrd.2]; exact hrd.1)
            have hfe : Few (x.parts.set q { p1 with ids := p1.ids ++ [[109, 111, 114, 101]] }) := by
              intro p hp
              rcases List.mem_or_eq_of_mem_set hp with h | rfl
              · exact HF.out p h
              · refine ⟨?_, (HF.out p1 (List.mem_of_getElem? HP1.out)).2⟩
                show (p1.ids ++ [[109, 111, 114, 101]]).length ≤ 1000000
                rw [List.length_append]
                show p1.ids.length + 1 ≤ 1000000
                omega
            have cw := weigh_any (some ⟨g, 0, none⟩) K k cap m d _ (by omega) hfe W9 hsl
            rw [sum_set HP1.out, ← HZ.out, show ((Z + 10000 : Nat) : Int) = (Z : Int) + 10000 by omega, ← HAD.out] at cw
            have hZb : Z ≤ 10000000000000 := by omega
            clear hsl hfe hrd hrow9 KG9 KY9 hg9 hW9 keepL froz KY8 KG8 hrow8
            rw [hW8] at y90 y91 cw hB9
            go_wp2_with (go_at_call 14; (with_reducible refine cw.mono ?_); rintro e w10 ⟨rfl, hb10⟩)
            go_ret
            exact ⟨rfl, below_next hB9 hb10⟩
        · go_simp
          have KY1 := KYd.alloc (.cells #[.string ⟨#[109, 111, 114, 101]⟩] 9)
          have KG1 := KGd.alloc (.cells #[.string ⟨#[109, 111, 114, 101]⟩] 9)
          refine hK.out _ _ (keepL _ KY1 KG1) (fun hHeld => ?_)
          clear hK K
          (try simp only [Act.put]); (try simp only [List.setIfInBounds_toArray]); (try simp only [List.set_cons_succ]); (try simp only [List.set_cons_zero])
          have BL1 := below_al (Below.refl wd.heap.size wd) (.cells #[.string ⟨#[109, 111, 114, 101]⟩] 9)
          refine wpAnyH_ready (rs := [3]) (by kernel_rfl) (by simp) ?_
          refine AllReadyH.cons rfl (fun K hK => ?_) AllReadyH.nil
          go_simp
          have KY2 := KY1.alloc (.cells #[] 9)
          have KG2 := KG1.alloc (.cells #[] 9)
          refine hK.out _ _ (keepL _ KY2 KG2) (fun hHeld => ?_)
          clear hK K
          (try simp only [Act.put]); (try simp only [List.setIfInBounds_toArray]); (try simp only [List.set_cons_succ]); (try simp only [List.set_cons_zero])
          have BL2 := below_al BL1 (.cells #[] 9)
          have hN2 := Blk.new (wd.alloc (.cells #[.string ⟨#[109, 111, 114, 101]⟩] 9)) 9 #[]
          rw [size_al] at hN2
          have KR2 : Row ((wd.alloc (.cells #[.string ⟨#[109, 111, 114, 101]⟩] 9)).alloc (.cells #[] 9)) wd.heap.size 9 1 txC (.slice (some ⟨wd.heap.size + 1, 0, none⟩) 0 0) [] := row_new hN2 (Nat.le_succ _)
          have KM2 := (Blk.new wd 9 #[.string ⟨#[109, 111, 114, 101]⟩]).alloc (.cells #[] 9)
          refine wpAnyH_ready (rs := [10]) (by kernel_rfl) (by simp) ?_
          refine AllReadyH.cons rfl (fun K hK => ?_) AllReadyH.nil
          refine step_txs (w := (wd.alloc (.cells #[.string ⟨#[109, 111, 114, 101]⟩] 9)).alloc (.cells #[] 9)) (by rfl) (.tmp 51) (.tmp 57) (by rfl) wd.heap.size _ [] p1.ids (by rfl) KR2 W.heap.size c1.A p1.ids.length c1.a (by rfl) (hrWd.below (BL2.mono (by omega))) (by simp; omega) BL2.size ?_
          intro v7 w7 hrow7 hg7 ho7
          have KY7 := blk_kt KY2 (KT.grown (e := 25) KR2 hg7 (by decide))
          have KG7 := blk_kt KG2 (KT.grown (e := 44) KR2 hg7 (by decide))
          have B7 := RowG.below_row BL2 KR2 hg7
          obtain ⟨A7, c7, hv7⟩ := hrow7.form
          obtain ⟨N7, hN7⟩ : ∃ N7, N7 = (([] : List (List UInt8)) ++ p1.ids).length := ⟨_, rfl⟩
          rw [← hN7] at hv7
          have HN7 := Lib.hid hN7
          clear hN7
          subst hv7
          have KM7 := KM2.grown hg7 (by simp [Value.ownBlock])
          refine hK.out _ _ (keepL _ KY7 KG7) (fun hHeld => ?_)
          clear hK K
          (try simp only [Act.put]); (try simp only [List.setIfInBounds_toArray]); (try simp only [List.set_cons_succ]); (try simp only [List.set_cons_zero])
          refine wpAnyH_ready (rs := [12]) (by kernel_rfl) (by simp) ?_
          refine AllReadyH.cons rfl (fun K hK => ?_) AllReadyH.nil
          refine RowG.step_more (w := w7) (by rfl) (.tmp 58) (.tmp 59) 42 (by rfl) 9 txC 1 16 _ info_str Tryd.underlying42 rfl (by decide) txC_len txC_one wd.heap.size _ p1.ids [109, 111, 114, 101] (by rfl) (wd.heap.size) _ (by rfl) hrow7 (blk_txc KM7) (by simp only [maxLen]; omega) (by omega) (B7).size ?_
          intro v8 w8 hrow8 hg8 ho8
          have KY8 := blk_kt (KY7) (KT.grown (e := 25) hrow7 hg8 (by decide))
          have KG8 := blk_kt (KG7) (KT.grown (e := 44) hrow7 hg8 (by decide))
          have B8 := RowG.below_row (B7) hrow7 hg8
          obtain ⟨A8, c8, hv8⟩ := hrow8.form
          obtain ⟨N8, hN8⟩ : ∃ N8, N8 = (p1.ids ++ [[109, 111, 114, 101]]).length := ⟨_, rfl⟩
          rw [← hN8] at hv8
          have HN8 := Lib.hid hN8
          clear hN8
          subst hv8
          refine hK.out _ _ (keepL _ KY8 KG8) (fun hHeld => ?_)
          clear hK K
          (try simp only [Act.put]); (try simp only [List.setIfInBounds_toArray]); (try simp only [List.set_cons_succ]); (try simp only [List.set_cons_zero])
          refine held_take (i := 13) (v := ?_) rfl (by kernel_rfl) (fun _ _ _ h => h) rfl (by assumption) ?_ ?_
          rotate_left
          · intro w9 hSw; (try dsimp only at hSw); (try go_split_ands); go_simp; (try with_reducible rfl)
          (try simp only [Act.put]); (try simp only [List.setIfInBounds_toArray]); (try simp only [List.set_cons_succ]); (try simp only [List.set_cons_zero])
          refine held_take (i := 14) (v := ?_) rfl (by kernel_rfl) (fun _ _ _ h => h) rfl (by assumption) ?_ ?_
          rotate_left
          · intro w9 hSw; (try dsimp only at hSw); (try go_split_ands); go_simp; (try with_reducible rfl)
          (try simp only [Act.put]); (try simp only [List.setIfInBounds_toArray]); (try simp only [List.set_cons_succ]); (try simp only [List.set_cons_zero])
          refine wpAnyH_done (by kernel_rfl) ?_ _
          simp only [beforeLast]
          obtain ⟨s80, s81⟩ := keepL w8 KY8 KG8
          have f8 := froz w8 KG8
          clear hHeld
          have hB8W : Below W.heap.size W w8 := hBWd.trans (B8.mono (by omega))
          obtain ⟨W9, hW9⟩ : ∃ W9, W9 = w8.setCell ⟨(ad.add (q * 5)).block, (ad.add (q * 5)).off + 1, none⟩ (.slice A8 N8 c8) := ⟨_, rfl⟩
          have hW8 := hW9
          rw [HP.out] at hW9
          have KG9 : Blk W9 g 44 (cur.setIfInBounds (q * 5 + 1) (.slice A8 N8 c8)) := by rw [hW9]; exact KG8.set_ (q * 5 + 1) (.slice A8 N8 c8)
          have KY9 : Blk W9 yb 25 #[.slice (some ad) k cap, .slice K m d] := by rw [hW9]; exact KY8.far (p := ⟨g, q * 5 + 1, none⟩) hgne (.slice A8 N8 c8)
          have hrow9 := row_kt hrow8 (KT.set (e := 9) KG8 (by decide) (q * 5 + 1) (.slice A8 N8 c8))
          rw [← hW9] at hrow9
          have hB9 : Below W.heap.size W W9 := by rw [hW9]; exact hB8W.setCell (p := ⟨g, q * 5 + 1, none⟩) (by show W.heap.size ≤ g; omega) (.slice A8 N8 c8)
          obtain ⟨y90, y91⟩ := blk2 KY9
          have hg9 := KG9.lt
          have hrd := (RowG.Row.reads hrow9)
          have hsl : SLR W9 W9.heap.size (some ⟨g, 0, none⟩) k (x.parts.set q { p1 with ids := p1.ids ++ [[109, 111, 114, 101]] }) := slr_set KG9 hg9 hcl2 (by
              rw [Array.toList_setIfInBounds, List.take_set, HCT.out]) (fun i c2 p2 h1 h2 => (HCS.out i c2 p2 h1 h2).below hB9 hB9.size) hcl HC1.out HP1.out (by rw [HN8.out, List.length_append]; rfl) (by rw [hrd.2]; exact hrd.1)
          have hfe : Few (x.parts.set q { p1 with ids := p1.ids ++ [[109, 111, 114, 101]] }) := by
            intro p hp
            rcases List.mem_or_eq_of_mem_set hp with h | rfl
            · exact HF.out p h
            · refine ⟨?_, (HF.out p1 (List.mem_of_getElem? HP1.out)).2⟩
              show (p1.ids ++ [[109, 111, 114, 101]]).length ≤ 1000000
              rw [List.length_append]
              show p1.ids.length + 1 ≤ 1000000
              omega
          have cw := weigh_any (some ⟨g, 0, none⟩) K k cap m d _ (by omega) hfe W9 hsl
          rw [sum_set HP1.out, ← HZ.out, show ((Z + 10000 : Nat) : Int) = (Z : Int) + 10000 by omega, ← HAD.out] at cw
          have hZb : Z ≤ 10000000000000 := by omega
          clear hsl hfe hrd hrow9 KG9 KY9 hg9 hW9 keepL froz KY8 KG8 hrow8
          rw [hW8] at y90 y91 cw hB9
          go_wp2_with (go_at_call 14; (with_reducible refine cw.mono ?_); rintro e w10 ⟨rfl, hb10⟩)
          go_ret
          exact ⟨rfl, below_next hB9 hb10⟩
end selectorWeighs
end Go.Proofs.YthacboofbbfmlaaDoor
