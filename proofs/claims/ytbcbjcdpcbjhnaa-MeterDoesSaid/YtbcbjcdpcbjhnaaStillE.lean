/- A region that draws its order, in two: all up to one operation that all behind it wait for, in whatever order, S held; then the rest. Conditions: as the theorems' premises say. -/
import Derived.Test.YtbcbjcdpcbjhnaaStillD
namespace Go.Proofs.Ytbcbjcdpcbjhnaa
section
variable {P : Program} {ops : Array Oper} {Q : Exit → Act → World → Prop} {md : Region.Mode} {S : World → Prop}
/-! A region in two: first all up to number m, then, at the frame and in the world that these leave, the rest. -/
def beforeRest (P : Program) (md : Region.Mode) (ops : Array Oper) (Q : Exit → Act → World → Prop) (fuel : Nat) (done : Array Bool) : Exit → Act → World → Prop
  | .normal, a, w => wpAny P md ops Q fuel done a w
  | e, a, w => Q e a w
theorem wpOp_beforeRest {i fuel : Nat} {done : Array Bool} {K : Act → World → Prop} {a : Act} {w : World} (h : wpOp P ops (beforeRest P md ops Q fuel done) i K a w) : wpOp P ops Q i K a w := by
  unfold wpOp at *
  split
  · rename_i h0
    simpa [h0] using h
  · rename_i o' h0
    simp only [h0] at h
    split
    · rename_i hw
      simp only [hw, if_true] at h
      refine h.imp (fun hh => ?_) id
      unfold Oper.wp at *
      generalize (execOp a.eval o').run P w = r at *
      cases r with
      | ok n w' => cases n <;> simp only [Oper.upon] at hh ⊢ <;> exact hh
      | halt x w' => cases x <;> simp only [Oper.upon] at hh ⊢ <;> exact hh
    · rename_i hw
      rwa [if_neg hw] at h
theorem wpAny_more : ∀ (fuel : Nat) (listed : Array Bool) (a : Act) (w : World), wpAny P md ops Q fuel listed a w → wpAny P md ops Q (fuel + 1) listed a w
  | 0, _, _, _, h => ⟨fun _ => h.2, by rw [h.1]; intro i hi; cases hi⟩
  | fuel + 1, _, _, _, h => ⟨h.1, fun i hi => wpOp_mono (fun a' w' h' => wpAny_more fuel _ a' w' h') (h.2 i hi)⟩
theorem wpAny_add (k : Nat) {fuel : Nat} {listed : Array Bool} {a : Act} {w : World} (h : wpAny P md ops Q fuel listed a w) : wpAny P md ops Q (k + fuel) listed a w := by
  induction k with
  | zero => rwa [Nat.zero_add]
  | succ k ih => rw [show k + 1 + fuel = k + fuel + 1 by omega]; exact wpAny_more _ _ _ _ ih
/-- All behind number m count as done. -/
def markB (m : Nat) (listed : Array Bool) : Array Bool := listed.mapIdx fun i b => if m < i then true else b
theorem markB_at {m j : Nat} {listed : Array Bool} (d : Bool) (hj : j < listed.size) : (markB m listed).getD j d = if m < j then true else listed.getD j d := by
  unfold markB
  simp [hj]
theorem markB_size (m : Nat) (listed : Array Bool) : (markB m listed).size = listed.size := by unfold markB; simp
theorem markB_set {m i : Nat} {listed : Array Bool} : markB m (listed.setIfInBounds i true) = (markB m listed).setIfInBounds i true := by
  apply Array.ext_getElem?
  intro j
  unfold markB
  rw [Array.getElem?_mapIdx, Array.getElem?_setIfInBounds, Array.getElem?_setIfInBounds, Array.getElem?_mapIdx, Array.size_mapIdx]
  by_cases e : i = j
  · subst e
    rw [if_pos rfl, if_pos rfl]
    split <;> simp
  · rw [if_neg e, if_neg e]
structure SplitInv (md : Region.Mode) (ops : Array Oper) (m : Nat) (listed : Array Bool) : Prop where
  size : listed.size = ops.size
  closed : ∀ j oj, ops[j]? = some oj → listed.getD j false = true → ∀ e ∈ oj.after, Region.binds md e = true → listed.getD e.on false = true
  rest : ∀ t, m < t → t < ops.size → listed.getD t true = false
theorem split_all {m : Nat} {listed : Array Bool} (hsink : Region.sinkB md ops m = true) (inv : SplitInv md ops m listed) (hm : listed.getD m false = true) : ∀ d i, m - i = d → i ≤ m → listed.getD i false = true := by
  intro d
  induction d using Nat.strongRecOn with
  | _ d ih =>
    intro i hd hi
    by_cases e : i = m
    · rw [e]; exact hm
    · have h1 := List.all_eq_true.1 hsink i (List.mem_range.2 (by omega))
      obtain ⟨j, hj, hj2⟩ := List.any_eq_true.1 h1
      simp only [Bool.and_eq_true, decide_eq_true_eq] at hj2
      obtain ⟨oj, hoj, e', he, hb, hon⟩ := Region.waitsFor_spec hj2.2
      have hjle : j ≤ m := by have := List.mem_range.1 hj; omega
      have hjl := ih (m - j) (by omega) j rfl hjle
      have := inv.closed j oj hoj hjl e' he hb
      rwa [hon] at this
theorem wpAny_split {m fuel2 : Nat} (hm : m < ops.size) (hsink : Region.sinkB md ops m = true) (hup : ∀ (j : Nat) (oj : Oper), ops[j]? = some oj → ∀ e ∈ oj.after, e.on < j)
    (hbar : ∀ (j : Nat) (oj : Oper), ops[j]? = some oj → m < j → ∃ e ∈ oj.after, Region.binds md e = true ∧ m ≤ e.on) (done : Array Bool) (hdone : done = (Array.range ops.size).map fun i => decide (i ≤ m)) :
    ∀ (fuel : Nat) (listed : Array Bool) (a : Act) (w : World), SplitInv md ops m listed → wpAnyH P md ops (beforeRest P md ops Q fuel2 done) S fuel (markB m listed) a w → wpAny P md ops Q (fuel + fuel2) listed a w := by
  have notyet : ∀ (listed : Array Bool), SplitInv md ops m listed → ∀ j, m < j → j ∈ Region.ready md ops listed → ∀ i, i ≤ m → listed.getD i false = true := by
    intro listed inv j hj hr i hi
    obtain ⟨_, oj, hoj, hall⟩ := mem_ready.1 hr
    obtain ⟨e, he, hb, hon⟩ := hbar j oj hoj hj
    have h1 := hall e he hb
    by_cases e' : e.on = m
    · rw [e'] at h1
      exact split_all hsink inv h1 _ i rfl hi
    · have hlt := hup j oj hoj e he
      have hjs := (Array.getElem?_eq_some_iff.1 hoj).1
      have := inv.rest e.on (by omega) (by omega)
      have h2 := getD_both this
      rw [h2] at h1
      cases h1
  have over : ∀ (listed : Array Bool), SplitInv md ops m listed → Region.ready md ops (markB m listed) = [] → listed = done := by
    intro listed inv hr
    have hall : ∀ j, j ≤ m → listed.getD j false = true := by
      intro j
      induction j using Nat.strongRecOn with
      | _ j ih =>
        intro hj
        cases hl : listed.getD j false with
        | true => rfl
        | false =>
          have hjs : j < listed.size := by rw [inv.size]; omega
          have hj2 : ops[j]? = some ops[j] := Array.getElem?_eq_getElem (by omega)
          have : j ∈ Region.ready md ops (markB m listed) := by
            refine mem_ready.2 ⟨?_, _, hj2, fun e he _ => ?_⟩
            · rw [markB_at true hjs, if_neg (by omega)]; exact getD_in hjs hl
            · have h1 := hup j _ hj2 e he
              rw [markB_at false (by omega)]
              split
              · rfl
              · exact ih e.on h1 (by omega)
          rw [hr] at this
          cases this
    rw [hdone]
    apply Array.ext
    · simp [inv.size]
    · intro j h1 h2
      simp only [Array.getElem_map, Array.getElem_range]
      have hj : j < ops.size := by rw [← inv.size]; exact h1
      by_cases hjm : j ≤ m
      · have := hall j hjm
        simp [h1] at this
        rw [this, decide_eq_true hjm]
      · have := inv.rest j (by omega) hj
        simp [h1] at this
        rw [this, decide_eq_false hjm]
  intro fuel
  induction fuel with
  | zero =>
    intro listed a w inv H
    have e := over listed inv H.1
    rw [Nat.zero_add, e]
    exact H.2
  | succ fuel ih =>
    intro listed a w inv H
    by_cases hr : Region.ready md ops (markB m listed) = []
    · rw [over listed inv hr]
      exact wpAny_add (fuel + 1) (H.1 hr)
    · obtain ⟨i0, hi0⟩ := List.exists_mem_of_ne_nil _ hr
      have h0 := mem_ready.1 hi0
      have hi0s : i0 < listed.size := by
        obtain ⟨_, o, ho, _⟩ := h0
        have := (Array.getElem?_eq_some_iff.1 ho).1
        rw [inv.size]; exact this
      have hi0m : i0 ≤ m := by
        have := h0.1
        rw [markB_at true hi0s] at this
        split at this
        · cases this
        · omega
      have hun : listed.getD i0 true = false := by
        have := h0.1
        rwa [markB_at true hi0s, if_neg (by omega)] at this
      rw [show fuel + 1 + fuel2 = fuel + fuel2 + 1 by omega]
      have small : ∀ i, i ∈ Region.ready md ops listed → i ≤ m := by
        intro i hi
        by_cases him : i ≤ m
        · exact him
        · have := notyet listed inv i (by omega) hi i0 hi0m
          rw [getD_both hun] at this
          cases this
      have back : i0 ∈ Region.ready md ops listed := by
        obtain ⟨_, o, ho, hall⟩ := h0
        refine mem_ready.2 ⟨hun, o, ho, fun e he hb => ?_⟩
        have h1 := hall e he hb
        have h2 := hup i0 o ho e he
        rwa [markB_at false (by omega), if_neg (by omega)] at h1
      refine ⟨fun h => (by rw [h] at back; cases back), fun i hi => ?_⟩
      have him := small i hi
      have hi' : i ∈ Region.ready md ops (markB m listed) := by
        obtain ⟨hun', o, ho, hall⟩ := mem_ready.1 hi
        have his : i < listed.size := by rw [inv.size]; omega
        refine mem_ready.2 ⟨by rw [markB_at true his, if_neg (by omega)]; exact hun', o, ho, fun e he hb => ?_⟩
        have h2 := hup i o ho e he
        rw [markB_at false (by omega), if_neg (by omega)]
        exact hall e he hb
      refine wpOp_mono (fun a' w' h => ?_) (wpOp_beforeRest (H.2 i hi'))
      refine ih (listed.setIfInBounds i true) a' w' ?_ ?_
      · obtain ⟨_, oi, hoi, hall⟩ := mem_ready.1 hi
        refine ⟨by simp [inv.size], fun j oj hoj hl e he hb => ?_, fun t ht ht' => by rw [getD_set_ne true (by omega)]; exact inv.rest t ht ht'⟩
        by_cases hij : i = j
        · subst hij
          have : oj = oi := Option.some.inj (hoj.symm.trans hoi)
          subst this
          exact getD_set_true (hall e he hb)
        · rw [getD_set_ne false hij] at hl
          exact getD_set_true (inv.closed j oj hoj hl e he hb)
      · rw [markB_set]
        exact h.2
/-- What the kernel is asked. -/
def splitB (ops : Array Oper) (m : Nat) : Bool :=
  decide (m < ops.size) && (Region.sinkB .any ops m && (List.range ops.size).all fun j => match ops[j]? with | some oj => (oj.after.all fun e => decide (e.on < j)) && (decide (j ≤ m) || oj.after.any fun e => Region.binds .any e && decide (m ≤ e.on)) | none => true)
theorem region_split {id m N2 : Nat} {S1 : World → Prop} {a : Act} {w : World} {done : Array Bool} (hm : P.follows .mixedOrders = true) (hB : splitB ops m = true) (hN : ops.size - (m + 1) = N2) (hd : (Array.range ops.size).map (fun i => decide (i ≤ m)) = done) (hS : S1 w.drew)
    (h : S1 w.drew → wpAnyH P .any ops (beforeRest P .any ops Q N2 done) S1 (m + 1) (markB m (Array.replicate ops.size false)) a w.drew) : (Code.region id ops true).wp P Q a w := by
  subst hN
  subst hd
  unfold splitB at hB
  simp only [Bool.and_eq_true, decide_eq_true_eq] at hB
  obtain ⟨hsz, h1, h3⟩ := hB
  have hup : ∀ (j : Nat) (oj : Oper), ops[j]? = some oj → (∀ e ∈ oj.after, e.on < j) ∧ (m < j → ∃ e ∈ oj.after, Region.binds .any e = true ∧ m ≤ e.on) := by
    intro j oj hj
    have hlt := (Array.getElem?_eq_some_iff.1 hj).1
    have := List.all_eq_true.1 h3 j (List.mem_range.2 hlt)
    simp only [hj, Bool.and_eq_true, Bool.or_eq_true, decide_eq_true_eq] at this
    refine ⟨fun e he => ?_, fun hjm => ?_⟩
    · have := (Array.all_eq_true_iff_forall_mem.1 this.1) e he
      simpa using this
    · rcases this.2 with h | h
      · omega
      · obtain ⟨e, he, hb⟩ := Array.any_eq_true'.1 h
        simp only [Bool.and_eq_true, decide_eq_true_eq] at hb
        exact ⟨e, he, hb.1, hb.2⟩
  refine wp_region_any hm ?_
  have inv0 : SplitInv .any ops m (Array.replicate ops.size false) :=
    ⟨by simp, fun j oj _ hl => (by rw [getD_replicate_false] at hl; cases hl), fun t _ ht => getD_in (by simpa using ht) (getD_replicate_false _ _)⟩
  have := wpAny_split (P := P) (Q := Q) (S := S1) (fuel2 := ops.size - (m + 1)) hsz h1 (fun j oj hj => (hup j oj hj).1) (fun j oj hj => (hup j oj hj).2) _ rfl (m + 1) _ a w.drew inv0 (h hS)
  rwa [show m + 1 + (ops.size - (m + 1)) = ops.size by omega] at this
end
end Go.Proofs.Ytbcbjcdpcbjhnaa
