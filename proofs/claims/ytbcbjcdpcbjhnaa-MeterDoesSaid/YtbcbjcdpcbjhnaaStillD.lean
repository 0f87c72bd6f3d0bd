/- A region that draws its order, whose last operation waits for all others: all others in whatever order, S held behind each of them; then the last one, by itself. Conditions: as the theorems' premises say. -/
import Derived.Test.YtbcbjcdpcbjhnaaKit
import Derived.StillTailTactics
import Derived.Deep.RegionHeld3
namespace Go.Proofs.Ytbcbjcdpcbjhnaa
section
variable {P : Program} {ops : Array Oper} {Q : Exit → Act → World → Prop} {md : Region.Mode} {S : World → Prop}
/-- What is asked behind all but the last. -/
def beforeLast (P : Program) (ops : Array Oper) (Q : Exit → Act → World → Prop) (o : Oper) : Exit → Act → World → Prop
  | .normal, a, w => wpList P ops Q [o] a w
  | e, a, w => Q e a w
theorem wpOp_beforeLast {i : Nat} {o : Oper} {K : Act → World → Prop} {a : Act} {w : World} (h : wpOp P ops (beforeLast P ops Q o) i K a w) : wpOp P ops Q i K a w := by
  unfold wpOp at *
  split
  · rename_i h0
    simpa [h0] using h
  · rename_i o' h0
    simp only [h0] at h
    split
    · rename_i hw
      simp only [hw, if_true] at h
      refine h.imp (fun hh => ?_) id
      unfold Oper.wp at *
      generalize (execOp a.eval o').run P w = r at *
      cases r with
      | ok n w' => cases n <;> simp only [Oper.upon] at hh ⊢ <;> exact hh
      | halt x w' => cases x <;> simp only [Oper.upon] at hh ⊢ <;> exact hh
    · rename_i hw
      rwa [if_neg hw] at h
theorem ready_back {m i : Nat} {listed : Array Bool} (hs : m < listed.size) (hno : ∀ (j : Nat) (oj : Oper), ops[j]? = some oj → ∀ e ∈ oj.after, e.on ≠ m) (h : i ∈ Region.ready md ops (listed.setIfInBounds m true)) : i ≠ m ∧ i ∈ Region.ready md ops listed := by
  obtain ⟨h0, o, ho, hall⟩ := mem_ready.1 h
  have hne : i ≠ m := by
    rintro rfl
    simp [hs] at h0
  refine ⟨hne, mem_ready.2 ⟨?_, o, ho, fun e he hb => ?_⟩⟩
  · rwa [getD_set_ne true (Ne.symm hne)] at h0
  · have := hall e he hb
    rwa [getD_set_ne false (fun e' => hno i o ho e he e'.symm)] at this
theorem all_listed {m : Nat} {listed : Array Bool} (hs : listed.size = ops.size) (hsz : ops.size = m + 1) (hup : ∀ (j : Nat) (oj : Oper), ops[j]? = some oj → ∀ e ∈ oj.after, e.on < j)
    (h : Region.ready md ops (listed.setIfInBounds m true) = []) : ∀ j, j < m → listed.getD j false = true := by
  intro j
  induction j using Nat.strongRecOn with
  | _ j ih =>
    intro hj
    cases hl : listed.getD j false with
    | true => rfl
    | false =>
      have hjs : j < listed.size := by omega
      have hj2 : ops[j]? = some ops[j] := Array.getElem?_eq_getElem (by omega)
      have : j ∈ Region.ready md ops (listed.setIfInBounds m true) := by
        refine mem_ready.2 ⟨?_, _, hj2, fun e he _ => ?_⟩
        · rw [getD_set_ne true (by omega)]; exact getD_in hjs hl
        · have h1 := hup j _ hj2 e he
          exact getD_set_true (ih e.on h1 (by omega))
      rw [h] at this
      cases this
theorem wpAny_last {m : Nat} {o : Oper} (ho : ops[m]? = some o) (hsz : ops.size = m + 1) (hsink : Region.sinkB md ops m = true) (hchain : Region.chainB md ops m = true)
    (hup : ∀ (j : Nat) (oj : Oper), ops[j]? = some oj → ∀ e ∈ oj.after, e.on < j) :
    ∀ (fuel : Nat) (listed : Array Bool) (a : Act) (w : World), HeadInv md ops m listed → wpAnyH P md ops (beforeLast P ops Q o) S fuel (listed.setIfInBounds m true) a w → wpAny P md ops Q (fuel + 1) listed a w := by
  have hno : ∀ (j : Nat) (oj : Oper), ops[j]? = some oj → ∀ e ∈ oj.after, e.on ≠ m := fun j oj hj e he => by
    have := hup j oj hj e he
    have := (Array.getElem?_eq_some_iff.1 hj).1
    omega
  have hlast : ∀ (fuel : Nat) (listed : Array Bool) (a : Act) (w : World), HeadInv md ops m listed → Region.ready md ops (listed.setIfInBounds m true) = [] → wpList P ops Q [o] a w → wpAny P md ops Q (fuel + 1) listed a w := by
    intro fuel listed a w inv hr hq
    have hall := all_listed inv.size hsz hup hr
    have hm : m ∈ Region.ready md ops listed := mem_ready.2 ⟨inv.tail m (Nat.le_refl _) (by omega), o, ho, fun e he _ => hall _ (hup m o ho e he)⟩
    refine ⟨fun h => (by rw [h] at hm; cases hm), fun i hi => ?_⟩
    by_cases him : i = m
    · subst him
      unfold wpOp
      simp only [ho]
      unfold wpList at hq
      split
      · rename_i hw
        rw [if_pos hw] at hq
        refine hq.imp (Oper.wp_mono (fun a' w' h => ?_)) id
        cases fuel with
        | zero => exact ⟨hr, h⟩
        | succ f => exact ⟨fun _ => h, by rw [hr]; intro i hi; cases hi⟩
      · rename_i hw
        rw [if_neg hw] at hq
        cases fuel with
        | zero => exact ⟨hr, hq⟩
        | succ f => exact ⟨fun _ => hq, by rw [hr]; intro i hi; cases hi⟩
    · have := ready_mono (i := m) hi him
      rw [hr] at this
      cases this
  intro fuel
  induction fuel with
  | zero =>
    intro listed a w inv H
    exact hlast 0 listed a w inv H.1 H.2
  | succ fuel ih =>
    intro listed a w inv H
    by_cases hr : Region.ready md ops (listed.setIfInBounds m true) = []
    · exact hlast _ listed a w inv hr (H.1 hr)
    · obtain ⟨i0, hi0⟩ := List.exists_mem_of_ne_nil _ hr
      have hb0 := ready_back (by rw [inv.size]; omega) hno hi0
      refine ⟨fun h => (by rw [h] at hb0; cases hb0.2), fun i hi => ?_⟩
      by_cases him : i = m
      · subst him
        have hun := (mem_ready.1 hb0.2).1
        have hlt : i0 < i := by
          have := (Array.getElem?_eq_some_iff.1 (mem_ready.1 hb0.2).2.choose_spec.1).1
          have := hb0.1
          omega
        exact absurd hi (tail_waits hsink hchain (by omega) inv _ i0 rfl hlt hun i (Nat.le_refl _))
      · have hi' := ready_mono (i := m) hi him
        have hlt : i < m := by
          have := (Array.getElem?_eq_some_iff.1 (mem_ready.1 hi).2.choose_spec.1).1
          omega
        refine wpOp_mono (fun a' w' h => ?_) (wpOp_beforeLast (H.2 i hi'))
        refine ih (listed.setIfInBounds i true) a' w' (inv.set hi hlt) ?_
        have h2 := h.2
        rw [Array.setIfInBounds_comm _ _ (by omega)]
        exact h2
/-- What the kernel is asked of a region. -/
def lastB (ops : Array Oper) (m : Nat) : Bool :=
  decide (ops.size = m + 1) && (Region.sinkB .any ops m && (Region.chainB .any ops m && (List.range ops.size).all fun j => match ops[j]? with | some oj => oj.after.all fun e => decide (e.on < j) | none => true))
theorem region_last {id m : Nat} {o : Oper} {a : Act} {w : World} (hm : P.follows .mixedOrders = true) (ho : ops[m]? = some o) (hB : lastB ops m = true) (hS : S w.drew)
    (h : S w.drew → wpAnyH P .any ops (beforeLast P ops Q o) S m ((Array.replicate ops.size false).setIfInBounds m true) a w.drew) : (Code.region id ops true).wp P Q a w := by
  unfold lastB at hB
  simp only [Bool.and_eq_true, decide_eq_true_eq] at hB
  obtain ⟨hsz, h1, h2, h3⟩ := hB
  have hup : ∀ (j : Nat) (oj : Oper), ops[j]? = some oj → ∀ e ∈ oj.after, e.on < j := by
    intro j oj hj e he
    have hlt := (Array.getElem?_eq_some_iff.1 hj).1
    have := List.all_eq_true.1 h3 j (List.mem_range.2 hlt)
    simp only [hj] at this
    have := (Array.all_eq_true_iff_forall_mem.1 this) e he
    simpa using this
  refine wp_region_any hm ?_
  rw [hsz]
  have inv0 : HeadInv .any ops m (Array.replicate ops.size false) :=
    ⟨by simp, fun j oj _ hl => (by rw [getD_replicate_false] at hl; cases hl), fun t _ ht => getD_in (by simpa using ht) (getD_replicate_false _ _)⟩
  have := wpAny_last (P := P) (Q := Q) (S := S) ho hsz h1 h2 hup m (Array.replicate ops.size false) a w.drew inv0 (h hS)
  rw [hsz] at this
  exact this
/-- An operation that may come up now, and yields in every world that meets S, is taken first. -/
theorem held_take {i : Nat} {oi : Oper} {v : Value} {fuel : Nat} {listed : Array Bool} {a : Act} {w : World} (hi : ops[i]? = some oi)
    (hB : (Region.noSelect ops && (Region.free md ops listed i && (Region.ready md ops listed).contains i)) = true)
    (hQ : ∀ c a w, Q (.panic c) (a.put oi.dst v) w → Q (.panic c) a w) (hw : Region.wanted oi (yielded ops a.tmps) = true) (hS : S w) (hy : ∀ w, S w → (execOp a.eval oi).run P w = .ok (.value v) w)
    (rest : wpAnyH P md ops Q S fuel (listed.setIfInBounds i true) (a.put oi.dst v) w) : wpAnyH P md ops Q S (fuel + 1) listed a w := by
  simp only [Bool.and_eq_true] at hB
  exact wpAnyH_take hi hB.1 hB.2.1 hB.2.2 hQ (Or.inl ⟨hw, hy⟩) hS rest
end
end Go.Proofs.Ytbcbjcdpcbjhnaa
