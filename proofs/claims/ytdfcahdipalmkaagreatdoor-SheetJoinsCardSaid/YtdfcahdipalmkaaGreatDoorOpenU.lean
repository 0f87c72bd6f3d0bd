/- Rules that came in, opened. Conditions: none. -/
import Derived.Test.YtdfcahdipalmkaaGreatDoorShtP
import Derived.Test.YtdfcahdipalmkaaGreatDoorOpenSels
namespace Go.Proofs.YtdfcahdipalmkaaGreatDoor
open Go.RowKit Go.WideShapes Go.ChangeShapes Go.ChangeAt Go.Joins Go.Deep
namespace OpenSel
open Sel
open Sht
section
variable {H : Type} {enc : TypeId × Value → H} {P : Program} {W : World}
theorem in_sels {base fuel : Nat} {tt t e eb ei ec : TypeId} {f0 f1 f2 f3 f4 k0 k1 : Field} {c : Value} {x : DataW H × List MemPlace}
    (hTT : P.underlying tt = some (.slice t)) (hT : P.underlying t = some (.struct #[k0, k1])) (hone2 : oneCellFields P #[k0, k1] = true) (hCT : P.cellsOf t = 2) (hbt : P.bytesOf t = 48)
    (ht : P.underlying k0.type = some (.slice e)) (hs : P.underlying e = some (.struct #[f0, f1, f2, f3, f4])) (hone : oneCellFields P #[f0, f1, f2, f3, f4] = true) (hC : P.cellsOf e = 5) (hby : P.bytesOf e = 72)
    (h0 : P.underlying f0.type = some .string) (h1 : P.underlying f1.type = some (.slice ei)) (h2 : P.underlying f2.type = some (.slice ec)) (h3 : P.underlying f3.type = some .bool) (h4 : P.underlying f4.type = some .bool)
    (hei : P.underlying ei = some .string) (hCi : P.cellsOf ei = 1) (hbi : P.bytesOf ei = 16) (hec : P.underlying ec = some .string) (hCc : P.cellsOf ec = 1) (hbc : P.bytesOf ec = 16)
    (hb : P.underlying k1.type = some (.slice eb)) (heb : P.underlying eb = some .bool) (hCb : P.cellsOf eb = 1)
    (hd : DataW.trod enc P W base (fun _ => true) true fuel tt [c] = some x) :
    ∃ (A : Option Addr) (n cp : Nat) (l : List Slr), c = .slice A n cp ∧ XsR W W.heap.size A n l ∧ ((∀ z ∈ x.1.weights P tt, z ≤ 140737488351232) → n * 48 ≤ 140737488351232 ∧ ∀ y ∈ l, (y.parts.length * 72 ≤ 140737488351232 ∧ BdS y.parts) ∧ y.close.length ≤ 9223372036854775807) := by
  rcases open_slice_fields2 hTT hT hone2 hCT hd with ⟨hcs, _⟩ | ⟨a, n, cap, m, D, Pl, hcs, _, hl, hm, hmm, hx, hi⟩
  · injection hcs with hcs _
    exact ⟨_, _, _, [], hcs, ⟨[], Reads.none_, rfl, fun i c t h => by simp at h⟩, fun _ => ⟨by omega, fun q hq => by cases hq⟩⟩
  · injection hcs with hcs _
    simp only [if_true] at hmm
    subst hmm
    have key : ∀ i, i < n → ∃ q : XC × Slr, (W.cell? (a.add (i * 2)) = some (.slice q.1.A q.1.n q.1.c) ∧ W.cell? (a.add (i * 2 + 1)) = some (.slice q.1.K q.1.m q.1.d)) ∧ SlR W W.heap.size q.1 q.2 ∧ ((∀ z ∈ x.1.weights P tt, z ≤ 140737488351232) → (q.2.parts.length * 72 ≤ 140737488351232 ∧ BdS q.2.parts) ∧ q.2.close.length ≤ 9223372036854775807) := by
      intro i hin
      obtain ⟨ys, k, hD, _, _, hfs⟩ := hi i (by omega)
      obtain ⟨u0, y0, c0, z0, g0'⟩ := hfs 0 k0 rfl
      obtain ⟨u1, y1, c1, z1, g1'⟩ := hfs 1 k1 rfl
      obtain ⟨A1, n1, cp1, l1, rfl, hR1, hbd1⟩ := in_sims ht hs hone hC hby h0 h1 h2 h3 h4 hei hCi hbi hec hCc hbc g0'
      obtain ⟨A2, n2, cp2, l2, rfl, hl2, hR2, hm2⟩ := in_bools hb heb hCb g1'
      have hmem : DataW.agg (ys.map (·.1)) ∈ (List.range n).map D := List.mem_map.2 ⟨i, List.mem_range.2 hin, hD⟩
      refine ⟨(⟨A1, n1, cp1, A2, n2, cp2⟩, ⟨l1, l2⟩), ⟨c0, c1⟩, ⟨hR1, hR2⟩, fun hzz => ?_⟩
      have hbd1' := hbd1 (fun z hz => by
        have q1 : z ∈ DataW.weightsEach P ((#[k0, k1] : Array Field).toList.map (·.type)) (ys.map (·.1)) := DataW.weights_mem_each (j := 0) rfl (by rw [List.getElem?_map, z0]; rfl) _ hz
        have q2 : z ∈ (DataW.agg (ys.map (·.1))).weights P t := by unfold DataW.weights; rw [hT]; exact q1
        have q3 := mem_all q2 _ hmem
        refine hzz z ?_
        rw [hx]
        show z ∈ (DataW.slice _ _).weights P tt
        unfold DataW.weights
        rw [hTT]
        exact List.mem_cons_of_mem _ (List.mem_append.2 (.inl q3)))
      refine ⟨⟨?_, hbd1'.2⟩, by show l2.length ≤ _; rw [hl2]; simpa only [maxLen] using hm2⟩
      have := hR1.len
      show l1.length * 72 ≤ _
      rw [this]
      exact hbd1'.1
    let F : Nat → XC × Slr := fun i => if h : i < n then (key i h).choose else (⟨none, 0, 0, none, 0, 0⟩, ⟨[], []⟩)
    have hF : ∀ i, i < n → (W.cell? (a.add (i * 2)) = some (.slice (F i).1.A (F i).1.n (F i).1.c) ∧ W.cell? (a.add (i * 2 + 1)) = some (.slice (F i).1.K (F i).1.m (F i).1.d)) ∧ SlR W W.heap.size (F i).1 (F i).2 ∧ ((∀ z ∈ x.1.weights P tt, z ≤ 140737488351232) → ((F i).2.parts.length * 72 ≤ 140737488351232 ∧ BdS (F i).2.parts) ∧ (F i).2.close.length ≤ 9223372036854775807) := by
      intro i him
      have : F i = (key i him).choose := by show (if h : i < n then (key i h).choose else _) = _; rw [dif_pos him]
      rw [this]
      exact (key i him).choose_spec
    have hget : ∀ {β : Type} (f : XC × Slr → β) (i : Nat), i < n → ((List.range n).map (fun i => f (F i)))[i]? = some (f (F i)) := by
      intro β f i hin
      rw [List.getElem?_map, List.getElem?_range hin]
      rfl
    have hlt : ∀ {β : Type} (f : XC × Slr → β) (i : Nat) (x : β), ((List.range n).map (fun i => f (F i)))[i]? = some x → i < n := by
      intro β f i x h
      have := (List.getElem?_eq_some_iff.1 h).1
      simpa using this
    have hRD : Reads W W.heap.size 2 (some a) n (((List.range n).map (fun i => (F i).1)).flatMap xcC) := by
      refine ⟨by rw [flat_len xcC_len]; simp, fun hn => ⟨a, rfl, ?_, ?_⟩⟩
      · have := lt_of_cell (hF 0 (by omega)).1.1
        rwa [block_of_add] at this
      · intro k u hu
        obtain ⟨q, hq, hu2⟩ := flat_div2 xcC_len _ k u hu
        have hkn : k / 2 < n := hlt (·.1) _ _ hq
        rw [hget (·.1) _ hkn] at hq
        injection hq with hq
        subst hq
        obtain ⟨k0, k1⟩ := (hF (k / 2) hkn).1
        have hm4 : k % 2 < 2 := Nat.mod_lt _ (by omega)
        have hk : k = k / 2 * 2 + k % 2 := by omega
        generalize k / 2 = i at *
        generalize k % 2 = s at *
        subst hk
        match s, hm4, hu2 with
        | 0, _, hu2 => rw [Nat.add_zero, k0]; simpa [xcC] using hu2
        | 1, _, hu2 => rw [k1]; simpa [xcC] using hu2
    refine ⟨_, _, _, (List.range n).map (fun i => (F i).2), hcs, ⟨(List.range n).map (fun i => (F i).1), hRD, by simp, ?_⟩, fun hz => ⟨?_, fun y hy => ?_⟩⟩
    · intro i c t hc ht
      have hin := hlt (·.1) _ _ hc
      rw [hget (·.1) _ hin] at hc
      rw [hget (·.2) _ hin] at ht
      injection hc with hc
      injection ht with ht
      subst hc
      subst ht
      exact (hF i hin).2.1
    · have h1 := hz _ (by
        rw [hx]
        show _ ∈ (DataW.slice _ _).weights P tt
        unfold DataW.weights
        rw [hTT]
        exact List.mem_cons_self)
      rw [hbt] at h1
      simp only [List.length_map, List.length_range] at h1
      omega
    · obtain ⟨i, hi1, rfl⟩ := List.mem_map.1 hy
      exact (hF i (List.mem_range.1 hi1)).2.2 hz
theorem flat_div4 {α : Type} {f : α → List Value} (h : ∀ x, (f x).length = 4) : ∀ (l : List α) (k : Nat) (u : Value), (l.flatMap f)[k]? = some u → ∃ x, l[k / 4]? = some x ∧ (f x)[k % 4]? = some u
  | [], k, u, hk => by simp at hk
  | y :: l, k, u, hk => by
    rw [List.flatMap_cons] at hk
    by_cases hlt : k < 4
    · rw [List.getElem?_append_left (by rw [h]; exact hlt)] at hk
      exact ⟨y, by rw [show k / 4 = 0 by omega]; rfl, by rw [show k % 4 = k by omega]; exact hk⟩
    · rw [List.getElem?_append_right (by rw [h]; omega), h] at hk
      obtain ⟨x, h1, h2⟩ := flat_div4 h l (k - 4) u hk
      exact ⟨x, by rw [show k / 4 = (k - 4) / 4 + 1 by omega, List.getElem?_cons_succ]; exact h1, by rw [show k % 4 = (k - 4) % 4 by omega]; exact h2⟩
theorem in_dcls {base fuel : Nat} {t e : TypeId} {f0 f1 f2 g0 g1 : Field} {c : Value} {x : DataW H × List MemPlace} (ht : P.underlying t = some (.slice e)) (hs : P.underlying e = some (.struct #[f0, f1, f2])) (hC : P.cellsOf e = 4) (hby : P.bytesOf e = 32)
    (ho0 : f0.offset = 0) (hk0 : P.cellsOf f0.type = 1) (ho1 : f1.offset = 1) (hk1 : P.cellsOf f1.type = 2) (ho2 : f2.offset = 3) (hk2 : P.cellsOf f2.type = 1)
    (h0 : P.underlying f0.type = some (.int .i64)) (h1 : P.underlying f1.type = some (.struct #[g0, g1])) (hp0 : g0.offset = 0) (hq0 : P.cellsOf g0.type = 1) (hp1 : g1.offset = 1) (hq1 : P.cellsOf g1.type = 1)
    (hg0 : P.underlying g0.type = some (.int .i64)) (hg1 : P.underlying g1.type = some (.int .i64)) (h2 : P.underlying f2.type = some .bool)
    (hd : DataW.trod enc P W base (fun _ => true) true fuel t [c] = some x) :
    ∃ (A : Option Addr) (n cp : Nat) (l : List Dcl), c = .slice A n cp ∧ DcR W W.heap.size A n l ∧ ((∀ z ∈ x.1.weights P t, z ≤ 140737488351232) → n * 32 ≤ 140737488351232) := by
  rcases open_slice ht hd with ⟨hcs, _⟩ | ⟨a, n, cap, m, k, D, Pl, hcs, _, hl, hm, hmm, hx, hi⟩
  · injection hcs with hcs _
    exact ⟨_, _, _, [], hcs, ⟨rfl, Reads.none_⟩, fun _ => by omega⟩
  · injection hcs with hcs _
    simp only [if_true] at hmm
    subst hmm
    have key : ∀ i, i < n → ∃ q : Dcl, W.cell? (a.add (i * 4)) = some (.int .i64 q.p) ∧ W.cell? (a.add (i * 4 + 1)) = some (.int .i64 q.k) ∧ W.cell? (a.add (i * 4 + 2)) = some (.int .i64 q.n) ∧ W.cell? (a.add (i * 4 + 3)) = some (.bool q.s) := by
      intro i hin
      obtain ⟨cs', hc, ht'⟩ := hi i (by omega)
      rw [hC] at hc
      obtain ⟨ys, n', hn', hy, hlen, hyl, hf⟩ := DataW.trod_struct hs ht'
      obtain ⟨_, hcl, hat⟩ := World.cells?_some hc
      obtain ⟨c0, c1, c2, c3, rfl⟩ : ∃ c0 c1 c2 c3, cs' = [c0, c1, c2, c3] := by
        match cs', hcl with
        | [c0, c1, c2, c3], _ => exact ⟨c0, c1, c2, c3, rfl⟩
      have hys : ∀ j, j < 3 → ∃ y, ys[j]? = some y := fun j hj => ⟨_, List.getElem?_eq_getElem (by rw [hyl]; exact hj)⟩
      obtain ⟨y0, e0⟩ := hys 0 (by omega)
      obtain ⟨y1, e1⟩ := hys 1 (by omega)
      obtain ⟨y2, e2⟩ := hys 2 (by omega)
      have r0 := hf 0 f0 rfl
      have r1 := hf 1 f1 rfl
      have r2 := hf 2 f2 rfl
      rw [ho0, hk0, e0] at r0
      rw [ho1, hk1, e1] at r1
      rw [ho2, hk2, e2] at r2
      have r0' : DataW.trod enc P W base (fun _ => true) true n' f0.type [c0] = some y0 := r0
      have r1' : DataW.trod enc P W base (fun _ => true) true n' f1.type [c1, c2] = some y1 := r1
      have r2' : DataW.trod enc P W base (fun _ => true) true n' f2.type [c3] = some y2 := r2
      obtain ⟨zs, n2, _, _, _, hzl, hg⟩ := DataW.trod_struct h1 r1'
      obtain ⟨z0, s0⟩ : ∃ z, zs[0]? = some z := ⟨_, List.getElem?_eq_getElem (by rw [hzl]; exact Nat.succ_pos 1)⟩
      obtain ⟨z1, s1⟩ : ∃ z, zs[1]? = some z := ⟨_, List.getElem?_eq_getElem (by rw [hzl]; exact Nat.lt_succ_self 1)⟩
      have t0 := hg 0 g0 rfl
      have t1 := hg 1 g1 rfl
      rw [hp0, hq0, s0] at t0
      rw [hp1, hq1, s1] at t1
      have t0' : DataW.trod enc P W base (fun _ => true) true n2 g0.type [c1] = some z0 := t0
      have t1' : DataW.trod enc P W base (fun _ => true) true n2 g1.type [c2] = some z1 := t1
      obtain ⟨p, q0, _⟩ := DataW.trod_int h0 r0'
      obtain ⟨kk, q1, _⟩ := DataW.trod_int hg0 t0'
      obtain ⟨nn, q2, _⟩ := DataW.trod_int hg1 t1'
      obtain ⟨s, q3, _⟩ := DataW.trod_bool h2 r2'
      injection q0 with q0; injection q1 with q1; injection q2 with q2; injection q3 with q3
      subst q0; subst q1; subst q2; subst q3
      refine ⟨⟨p, kk, nn, s⟩, ?_, ?_, ?_, ?_⟩
      · have := hat 0 (by decide)
        rwa [Go.Deep.add_add] at this
      · have := hat 1 (by decide)
        rwa [Go.Deep.add_add] at this
      · have := hat 2 (by decide)
        rwa [Go.Deep.add_add] at this
      · have := hat 3 (by decide)
        rwa [Go.Deep.add_add] at this
    let F : Nat → Dcl := fun i => if h : i < n then (key i h).choose else ⟨0, 0, 0, false⟩
    have hF : ∀ i, i < n → W.cell? (a.add (i * 4)) = some (.int .i64 (F i).p) ∧ W.cell? (a.add (i * 4 + 1)) = some (.int .i64 (F i).k) ∧ W.cell? (a.add (i * 4 + 2)) = some (.int .i64 (F i).n) ∧ W.cell? (a.add (i * 4 + 3)) = some (.bool (F i).s) := by
      intro i him
      have : F i = (key i him).choose := by show (if h : i < n then (key i h).choose else _) = _; rw [dif_pos him]
      rw [this]
      exact (key i him).choose_spec
    refine ⟨_, _, _, (List.range n).map F, hcs, ⟨by simp, by rw [flat_len dcC_len]; simp, fun hn => ⟨a, rfl, ?_, ?_⟩⟩, fun hz => ?_⟩
    · have := lt_of_cell (hF 0 (by omega)).1
      rwa [block_of_add] at this
    · intro k u hu
      obtain ⟨q, hq, hu2⟩ := flat_div4 dcC_len _ k u hu
      have hkn : k / 4 < n := by
        have := (List.getElem?_eq_some_iff.1 hq).1
        simpa using this
      rw [List.getElem?_map, List.getElem?_range hkn] at hq
      injection hq with hq
      subst hq
      obtain ⟨k0, k1, k2, k3⟩ := hF (k / 4) hkn
      have hm4 : k % 4 < 4 := Nat.mod_lt _ (by omega)
      have hk : k = k / 4 * 4 + k % 4 := by omega
      generalize k / 4 = i at *
      generalize k % 4 = s at *
      subst hk
      match s, hm4, hu2 with
      | 0, _, hu2 => rw [Nat.add_zero, k0]; simpa [dcC] using hu2
      | 1, _, hu2 => rw [k1]; simpa [dcC] using hu2
      | 2, _, hu2 => rw [k2]; simpa [dcC] using hu2
      | 3, _, hu2 => rw [k3]; simpa [dcC] using hu2
    · have h1 := hz _ (by
        rw [hx]
        show _ ∈ (DataW.slice _ _).weights P t
        unfold DataW.weights
        rw [ht]
        exact List.mem_cons_self)
      rw [hby] at h1
      simp only [List.length_map, List.length_range] at h1
      omega
theorem open_rules {r : Reach} {b0 base : Nat} {t0 t1 t e eb ei ec td : TypeId} {f0 f1 f2 f3 f4 k0 k1 l0 l1 d0 d1 d2 g0 g1 : Field} {v : Value} {d : DataW H} {p : List MemPlace}
    (hR0 : P.underlying t0 = some (.slice t1)) (hR1 : P.underlying t1 = some (.struct #[l0, l1])) (honeR : oneCellFields P #[l0, l1] = true) (hCR : P.cellsOf t1 = 2) (hbR : P.bytesOf t1 = 48)
    (hTT : P.underlying l0.type = some (.slice t)) (hT : P.underlying t = some (.struct #[k0, k1])) (hone2 : oneCellFields P #[k0, k1] = true) (hCT : P.cellsOf t = 2) (hbt : P.bytesOf t = 48)
    (ht : P.underlying k0.type = some (.slice e)) (hs : P.underlying e = some (.struct #[f0, f1, f2, f3, f4])) (hone : oneCellFields P #[f0, f1, f2, f3, f4] = true) (hC : P.cellsOf e = 5) (hby : P.bytesOf e = 72)
    (h0 : P.underlying f0.type = some .string) (h1 : P.underlying f1.type = some (.slice ei)) (h2 : P.underlying f2.type = some (.slice ec)) (h3 : P.underlying f3.type = some .bool) (h4 : P.underlying f4.type = some .bool)
    (hei : P.underlying ei = some .string) (hCi : P.cellsOf ei = 1) (hbi : P.bytesOf ei = 16) (hec : P.underlying ec = some .string) (hCc : P.cellsOf ec = 1) (hbc : P.bytesOf ec = 16)
    (hb : P.underlying k1.type = some (.slice eb)) (heb : P.underlying eb = some .bool) (hCb : P.cellsOf eb = 1)
    (hD0 : P.underlying l1.type = some (.slice td)) (hDs : P.underlying td = some (.struct #[d0, d1, d2])) (hDC : P.cellsOf td = 4) (hDby : P.bytesOf td = 32)
    (ho0 : d0.offset = 0) (hk0 : P.cellsOf d0.type = 1) (ho1 : d1.offset = 1) (hk1 : P.cellsOf d1.type = 2) (ho2 : d2.offset = 3) (hk2 : P.cellsOf d2.type = 1)
    (hd0 : P.underlying d0.type = some (.int .i64)) (hd1 : P.underlying d1.type = some (.struct #[g0, g1])) (hp0 : g0.offset = 0) (hq0 : P.cellsOf g0.type = 1) (hp1 : g1.offset = 1) (hq1 : P.cellsOf g1.type = 1)
    (hg0 : P.underlying g0.type = some (.int .i64)) (hg1 : P.underlying g1.type = some (.int .i64)) (hd2 : P.underlying d2.type = some .bool)
    (hv : Value.okWide P W r b0 t0 v) (hd : DataW.Trod enc P W base (fun _ => true) true t0 v d p)
    {ts : List TypeId} {ds : List (DataW H)} {j : Nat} (hsz : (DataW.weightsEach P ts ds).all (· ≤ reachBytes) = true) (htj : ts[j]? = some t0) (hdj : ds[j]? = some d) :
    ∃ (A : Option Addr) (n c : Nat) (l : List Rul), v = .slice A n c ∧ n ≤ 4000000000000 ∧ RsR W W.heap.size A n l ∧ (∀ x ∈ l, RulX x) ∧ ∀ x ∈ l, ∀ y ∈ x.sels, y.close.length ≤ 9223372036854775807 := by
  obtain ⟨A, n, c, rfl⟩ := okWide_slice hR0 hv
  obtain ⟨fuel, hf⟩ := hd
  rcases open_slice_fields2 hR0 hR1 honeR hCR hf with ⟨hcs, _⟩ | ⟨a, len, cap, m, D, Pl, hcs, _, hl, hm, hmm, hx, hi⟩
  · simp [Value.cells] at hcs
    obtain ⟨rfl, rfl, rfl⟩ := hcs
    exact ⟨_, _, _, [], rfl, by omega, ⟨[], Reads.none_, rfl, fun i c t h => by simp at h⟩, (fun x hx => by cases hx), (fun x hx => by cases hx)⟩
  · simp [Value.cells] at hcs
    obtain ⟨rfl, rfl, rfl⟩ := hcs
    simp only [if_true] at hmm
    simp only [Prod.mk.injEq] at hx
    obtain ⟨rfl, _⟩ := hx
    have hw8 := sized_slice hsz htj hdj hR0
    rw [hbR] at hw8
    simp only [List.length_map, List.length_range, reachBytes] at hw8
    have hnm : n ≤ m := by rw [hmm]; omega
    have key : ∀ i, i < n → ∃ q : RC × Rul, (W.cell? (a.add (i * 2)) = some (.slice q.1.A q.1.n q.1.c) ∧ W.cell? (a.add (i * 2 + 1)) = some (.slice q.1.K q.1.m q.1.d)) ∧ RuR W W.heap.size q.1 q.2 ∧ RulX q.2 ∧ ∀ y ∈ q.2.sels, y.close.length ≤ 9223372036854775807 := by
      intro i hin
      obtain ⟨ys, k, hD, _, _, hfs⟩ := hi i (by omega)
      obtain ⟨u0, y0, c0, z0, g0'⟩ := hfs 0 l0 rfl
      obtain ⟨u1, y1, c1, z1, g1'⟩ := hfs 1 l1 rfl
      obtain ⟨A1, n1, cp1, xs1, rfl, hX1, hbd1⟩ := in_sels hTT hT hone2 hCT hbt ht hs hone hC hby h0 h1 h2 h3 h4 hei hCi hbi hec hCc hbc hb heb hCb g0'
      obtain ⟨A2, n2, cp2, xs2, rfl, hX2, hbd2⟩ := in_dcls hD0 hDs hDC hDby ho0 hk0 ho1 hk1 ho2 hk2 hd0 hd1 hp0 hq0 hp1 hq1 hg0 hg1 hd2 g1'
      have hmem : DataW.agg (ys.map (·.1)) ∈ (List.range n).map D := List.mem_map.2 ⟨i, List.mem_range.2 hin, hD⟩
      have go : ∀ {j2 z : Nat} {f : Field} {y : DataW H}, ((#[l0, l1] : Array Field).toList.map (·.type))[j2]? = some f.type → (ys.map (·.1))[j2]? = some y → z ∈ y.weights P f.type → z ≤ 140737488351232 := by
        intro j2 z f y hf hy hz
        have q1 : z ∈ DataW.weightsEach P ((#[l0, l1] : Array Field).toList.map (·.type)) (ys.map (·.1)) := DataW.weights_mem_each hf hy _ hz
        have q2 : z ∈ (DataW.agg (ys.map (·.1))).weights P t1 := by unfold DataW.weights; rw [hR1]; exact q1
        have q3 := mem_all q2 _ hmem
        have q4 : z ∈ (DataW.slice ((List.range n).map D) ((List.range (m - n)).map fun j => D (n + j))).weights P t0 := by unfold DataW.weights; rw [hR0]; exact List.mem_cons_of_mem _ (List.mem_append.2 (.inl q3))
        have h5 := List.all_eq_true.1 hsz _ (DataW.weights_mem_each htj hdj _ q4)
        have h6 := of_decide_eq_true h5
        simpa only [reachBytes] using h6
      have hb1 := hbd1 (fun z hz => go (j2 := 0) (f := l0) rfl (by rw [List.getElem?_map, z0]; rfl) hz)
      have hb2 := hbd2 (fun z hz => go (j2 := 1) (f := l1) rfl (by rw [List.getElem?_map, z1]; rfl) hz)
      have e1 := hX1.len
      have e2 := hX2.1
      refine ⟨(⟨A1, n1, cp1, A2, n2, cp2⟩, ⟨xs1, xs2⟩), ⟨c0, c1⟩, ⟨hX1, hX2⟩, ⟨⟨?_, ?_, ?_⟩, ?_⟩, fun y hy => (hb1.2 y hy).2⟩
      · show xs1.length ≤ _
        omega
      · show xs2.length ≤ _
        omega
      · intro y hy
        have := (hb1.2 y hy).1.1
        omega
      · intro y hy
        exact (hb1.2 y hy).1.2
    let F : Nat → RC × Rul := fun i => if h : i < n then (key i h).choose else (⟨none, 0, 0, none, 0, 0⟩, ⟨[], []⟩)
    have hF : ∀ i, i < n → (W.cell? (a.add (i * 2)) = some (.slice (F i).1.A (F i).1.n (F i).1.c) ∧ W.cell? (a.add (i * 2 + 1)) = some (.slice (F i).1.K (F i).1.m (F i).1.d)) ∧ RuR W W.heap.size (F i).1 (F i).2 ∧ RulX (F i).2 ∧ ∀ y ∈ (F i).2.sels, y.close.length ≤ 9223372036854775807 := by
      intro i him
      have : F i = (key i him).choose := by show (if h : i < n then (key i h).choose else _) = _; rw [dif_pos him]
      rw [this]
      exact (key i him).choose_spec
    have hget : ∀ {β : Type} (f : RC × Rul → β) (i : Nat), i < n → ((List.range n).map (fun i => f (F i)))[i]? = some (f (F i)) := by
      intro β f i hin
      rw [List.getElem?_map, List.getElem?_range hin]
      rfl
    have hlt : ∀ {β : Type} (f : RC × Rul → β) (i : Nat) (x : β), ((List.range n).map (fun i => f (F i)))[i]? = some x → i < n := by
      intro β f i x h
      have := (List.getElem?_eq_some_iff.1 h).1
      simpa using this
    have hRD : Reads W W.heap.size 2 (some a) n (((List.range n).map (fun i => (F i).1)).flatMap rcC) := by
      refine ⟨by rw [flat_len rcC_len]; simp, fun hn => ⟨a, rfl, ?_, ?_⟩⟩
      · have := lt_of_cell (hF 0 (by omega)).1.1
        rwa [block_of_add] at this
      · intro k u hu
        obtain ⟨q, hq, hu2⟩ := flat_div2 rcC_len _ k u hu
        have hkn : k / 2 < n := hlt (·.1) _ _ hq
        rw [hget (·.1) _ hkn] at hq
        injection hq with hq
        subst hq
        obtain ⟨k0, k1⟩ := (hF (k / 2) hkn).1
        have hm4 : k % 2 < 2 := Nat.mod_lt _ (by omega)
        have hk : k = k / 2 * 2 + k % 2 := by omega
        generalize k / 2 = i at *
        generalize k % 2 = s at *
        subst hk
        match s, hm4, hu2 with
        | 0, _, hu2 => rw [Nat.add_zero, k0]; simpa [rcC] using hu2
        | 1, _, hu2 => rw [k1]; simpa [rcC] using hu2
    refine ⟨_, _, _, (List.range n).map (fun i => (F i).2), rfl, by omega, ⟨(List.range n).map (fun i => (F i).1), hRD, by simp, ?_⟩, fun y hy => ?_, fun y hy => ?_⟩
    · intro i c t hc ht
      have hin := hlt (·.1) _ _ hc
      rw [hget (·.1) _ hin] at hc
      rw [hget (·.2) _ hin] at ht
      injection hc with hc
      injection ht with ht
      subst hc
      subst ht
      exact (hF i hin).2.1
    · obtain ⟨i, hi1, rfl⟩ := List.mem_map.1 hy
      exact (hF i (List.mem_range.1 hi1)).2.2.1
    · obtain ⟨i, hi1, rfl⟩ := List.mem_map.1 hy
      exact (hF i (List.mem_range.1 hi1)).2.2.2
end
end OpenSel
end Go.Proofs.YtdfcahdipalmkaaGreatDoor
