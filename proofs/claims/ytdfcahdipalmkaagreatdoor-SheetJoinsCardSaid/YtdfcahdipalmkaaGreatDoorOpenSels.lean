/- Selectors that came in, opened. Conditions: none. -/
import Derived.Test.YtdfcahdipalmkaaGreatDoorOpenSel
import Derived.Test.YtdfcahdipalmkaaGreatDoorSelO
namespace Go.Proofs.YtdfcahdipalmkaaGreatDoor
open Go.RowKit Go.WideShapes Go.ChangeShapes Go.ChangeAt Go.Joins Go.Deep
namespace OpenSel
open Sel
section
variable {H : Type} {enc : TypeId × Value → H} {P : Program} {W : World}
theorem flat_div2 {α : Type} {f : α → List Value} (h : ∀ x, (f x).length = 2) : ∀ (l : List α) (k : Nat) (u : Value), (l.flatMap f)[k]? = some u → ∃ x, l[k / 2]? = some x ∧ (f x)[k % 2]? = some u
  | [], k, u, hk => by simp at hk
  | a :: l, k, u, hk => by
    rw [List.flatMap_cons] at hk
    by_cases hlt : k < 2
    · rw [List.getElem?_append_left (by rw [h]; exact hlt)] at hk
      exact ⟨a, by rw [show k / 2 = 0 by omega]; rfl, by rw [show k % 2 = k by omega]; exact hk⟩
    · rw [List.getElem?_append_right (by rw [h]; omega), h] at hk
      obtain ⟨x, h1, h2⟩ := flat_div2 h l (k - 2) u hk
      exact ⟨x, by rw [show k / 2 = (k - 2) / 2 + 1 by omega, List.getElem?_cons_succ]; exact h1, by rw [show k % 2 = (k - 2) % 2 by omega]; exact h2⟩
theorem open_sels {r : Reach} {b0 base : Nat} {tt t e eb ei ec : TypeId} {f0 f1 f2 f3 f4 k0 k1 : Field} {v : Value} {d : DataW H} {p : List MemPlace}
    (hTT : P.underlying tt = some (.slice t)) (hT : P.underlying t = some (.struct #[k0, k1])) (hone2 : oneCellFields P #[k0, k1] = true) (hCT : P.cellsOf t = 2) (hbt : P.bytesOf t = 48)
    (ht : P.underlying k0.type = some (.slice e)) (hs : P.underlying e = some (.struct #[f0, f1, f2, f3, f4])) (hone : oneCellFields P #[f0, f1, f2, f3, f4] = true) (hC : P.cellsOf e = 5) (hby : P.bytesOf e = 72)
    (h0 : P.underlying f0.type = some .string) (h1 : P.underlying f1.type = some (.slice ei)) (h2 : P.underlying f2.type = some (.slice ec)) (h3 : P.underlying f3.type = some .bool) (h4 : P.underlying f4.type = some .bool)
    (hei : P.underlying ei = some .string) (hCi : P.cellsOf ei = 1) (hbi : P.bytesOf ei = 16) (hec : P.underlying ec = some .string) (hCc : P.cellsOf ec = 1) (hbc : P.bytesOf ec = 16)
    (hb : P.underlying k1.type = some (.slice eb)) (heb : P.underlying eb = some .bool) (hCb : P.cellsOf eb = 1)
    (hv : Value.okWide P W r b0 tt v) (hd : DataW.Trod enc P W base (fun _ => true) true tt v d p)
    {ts : List TypeId} {ds : List (DataW H)} {j : Nat} (hsz : (DataW.weightsEach P ts ds).all (· ≤ reachBytes) = true) (htj : ts[j]? = some tt) (hdj : ds[j]? = some d) :
    ∃ (A : Option Addr) (n c : Nat) (l : List Slr), v = .slice A n c ∧ n ≤ 140737488351232 ∧ XsR W W.heap.size A n l ∧ ∀ x ∈ l, x.parts.length * 72 ≤ 140737488351232 ∧ BdS x.parts := by
  obtain ⟨A, n, c, rfl⟩ := okWide_slice hTT hv
  obtain ⟨fuel, hf⟩ := hd
  rcases open_slice_fields2 hTT hT hone2 hCT hf with ⟨hcs, _⟩ | ⟨a, len, cap, m, D, Pl, hcs, _, hl, hm, hmm, hx, hi⟩
  · simp [Value.cells] at hcs
    obtain ⟨rfl, rfl, rfl⟩ := hcs
    exact ⟨_, _, _, [], rfl, by omega, ⟨[], Reads.none_, rfl, fun i c t h => by simp at h⟩, fun x hx => by cases hx⟩
  · simp [Value.cells] at hcs
    obtain ⟨rfl, rfl, rfl⟩ := hcs
    simp only [if_true] at hmm
    simp only [Prod.mk.injEq] at hx
    obtain ⟨rfl, _⟩ := hx
    have hw8 := sized_slice hsz htj hdj hTT
    rw [hbt] at hw8
    simp only [List.length_map, List.length_range, reachBytes] at hw8
    have hnm : n ≤ m := by rw [hmm]; omega
    have key : ∀ i, i < n → ∃ q : XC × Slr, (W.cell? (a.add (i * 2)) = some (.slice q.1.A q.1.n q.1.c) ∧ W.cell? (a.add (i * 2 + 1)) = some (.slice q.1.K q.1.m q.1.d)) ∧ SlR W W.heap.size q.1 q.2 ∧ q.2.parts.length * 72 ≤ 140737488351232 ∧ BdS q.2.parts := by
      intro i hin
      obtain ⟨ys, k, hD, _, _, hfs⟩ := hi i (by omega)
      obtain ⟨u0, y0, c0, z0, g0'⟩ := hfs 0 k0 rfl
      obtain ⟨u1, y1, c1, z1, g1'⟩ := hfs 1 k1 rfl
      obtain ⟨A1, n1, cp1, l1, rfl, hR1, hbd1⟩ := in_sims ht hs hone hC hby h0 h1 h2 h3 h4 hei hCi hbi hec hCc hbc g0'
      obtain ⟨A2, n2, cp2, l2, rfl, hl2, hR2, hm2⟩ := in_bools hb heb hCb g1'
      have hmem : DataW.agg (ys.map (·.1)) ∈ (List.range n).map D := List.mem_map.2 ⟨i, List.mem_range.2 hin, hD⟩
      have hbd1' := hbd1 (fun z hz => by
        have q1 : z ∈ DataW.weightsEach P ((#[k0, k1] : Array Field).toList.map (·.type)) (ys.map (·.1)) := DataW.weights_mem_each (j := 0) rfl (by rw [List.getElem?_map, z0]; rfl) _ hz
        have q2 : z ∈ (DataW.agg (ys.map (·.1))).weights P t := by unfold DataW.weights; rw [hT]; exact q1
        have q3 := mem_all q2 _ hmem
        have q4 : z ∈ (DataW.slice ((List.range n).map D) ((List.range (m - n)).map fun j => D (n + j))).weights P tt := by unfold DataW.weights; rw [hTT]; exact List.mem_cons_of_mem _ (List.mem_append.2 (.inl q3))
        have h5 := List.all_eq_true.1 hsz _ (DataW.weights_mem_each htj hdj _ q4)
        have h6 := of_decide_eq_true h5
        simpa only [reachBytes] using h6)
      refine ⟨(⟨A1, n1, cp1, A2, n2, cp2⟩, ⟨l1, l2⟩), ⟨c0, c1⟩, ⟨hR1, hR2⟩, ?_, hbd1'.2⟩
      have := hR1.len
      show l1.length * 72 ≤ _
      rw [this]
      exact hbd1'.1
    let F : Nat → XC × Slr := fun i => if h : i < n then (key i h).choose else (⟨none, 0, 0, none, 0, 0⟩, ⟨[], []⟩)
    have hF : ∀ i, i < n → (W.cell? (a.add (i * 2)) = some (.slice (F i).1.A (F i).1.n (F i).1.c) ∧ W.cell? (a.add (i * 2 + 1)) = some (.slice (F i).1.K (F i).1.m (F i).1.d)) ∧ SlR W W.heap.size (F i).1 (F i).2 ∧ (F i).2.parts.length * 72 ≤ 140737488351232 ∧ BdS (F i).2.parts := by
      intro i him
      have : F i = (key i him).choose := by show (if h : i < n then (key i h).choose else _) = _; rw [dif_pos him]
      rw [this]
      exact (key i him).choose_spec
    have hget : ∀ {β : Type} (f : XC × Slr → β) (i : Nat), i < n → ((List.range n).map (fun i => f (F i)))[i]? = some (f (F i)) := by
      intro β f i hin
      rw [List.getElem?_map, List.getElem?_range hin]
      rfl
    have hlt : ∀ {β : Type} (f : XC × Slr → β) (i : Nat) (x : β), ((List.range n).map (fun i => f (F i)))[i]? = some x → i < n := by
      intro β f i x h
      have := (List.getElem?_eq_some_iff.1 h).1
      simpa using this
    have hRD : Reads W W.heap.size 2 (some a) n (((List.range n).map (fun i => (F i).1)).flatMap xcC) := by
      refine ⟨by rw [flat_len xcC_len]; simp, fun hn => ⟨a, rfl, ?_, ?_⟩⟩
      · have := lt_of_cell (hF 0 (by omega)).1.1
        rwa [block_of_add] at this
      · intro k u hu
        obtain ⟨q, hq, hu2⟩ := flat_div2 xcC_len _ k u hu
        have hkn : k / 2 < n := hlt (·.1) _ _ hq
        rw [hget (·.1) _ hkn] at hq
        injection hq with hq
        subst hq
        obtain ⟨k0, k1⟩ := (hF (k / 2) hkn).1
        have hm4 : k % 2 < 2 := Nat.mod_lt _ (by omega)
        have hk : k = k / 2 * 2 + k % 2 := by omega
        generalize k / 2 = i at *
        generalize k % 2 = s at *
        subst hk
        match s, hm4, hu2 with
        | 0, _, hu2 => rw [Nat.add_zero, k0]; simpa [xcC] using hu2
        | 1, _, hu2 => rw [k1]; simpa [xcC] using hu2
    refine ⟨_, _, _, (List.range n).map (fun i => (F i).2), rfl, by omega, ⟨(List.range n).map (fun i => (F i).1), hRD, by simp, ?_⟩, fun y hy => ?_⟩
    · intro i c t hc ht
      have hin := hlt (·.1) _ _ hc
      rw [hget (·.1) _ hin] at hc
      rw [hget (·.2) _ hin] at ht
      injection hc with hc
      injection ht with ht
      subst hc
      subst ht
      exact (hF i hin).2.1
    · obtain ⟨i, hi1, rfl⟩ := List.mem_map.1 hy
      exact (hF i (List.mem_range.1 hi1)).2.2
end
end OpenSel
namespace Sel
theorem print_le (x : Slr) : (printP x).length ≤ 2480 := by
  by_cases h : maySlr x = true
  · obtain ⟨y1, y2, y3, y4⟩ := maySlr_of h
    have h1 := text_len y4 y3 x.parts.length (Nat.le_refl _)
    rw [List.take_of_length_le (Nat.le_refl _)] at h1
    unfold printP
    rw [if_pos h]
    omega
  · unfold printP
    rw [if_neg h]
    simp
theorem large_c (A K : Option Addr) (n c m d : Nat) (ps : List Sim) (hn : n ≤ 140737488351232) (hbd : BdS ps) (w : World) (h : SLR w w.heap.size A n ps) :
    Calls Tryz.prog 23 #[.agg #[.slice A n c, .slice K m d]] w fun e w' => (∃ b, e = .returned (.bool b) ∧ Hid (b = false → costS ps ≤ 500 ∧ m ≤ 100)) ∧ Below w.heap.size w w' :=
  (large_any A K n c m d ps hn hbd w h).mono (by
    rintro e w' ⟨h1 | ⟨h1, h2⟩, hb⟩
    · exact ⟨⟨true, h1, fun h => by cases h⟩, hb⟩
    · exact ⟨⟨false, h1, fun _ => h2⟩, hb⟩)
end Sel
end Go.Proofs.YtdfcahdipalmkaaGreatDoor
