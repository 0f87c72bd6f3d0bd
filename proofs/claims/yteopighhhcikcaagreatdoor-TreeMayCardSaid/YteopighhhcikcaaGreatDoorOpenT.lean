/- A slice of tokens that came in, opened. Conditions: none. -/
import Derived.Test.YteopighhhcikcaaGreatDoorOpen
import Derived.Test.YteopighhhcikcaaGreatDoorTokE
import Derived.Lib.SmallJoins
import Derived.Deep.Slices
import Derived.Deep.Fields
import Derived.SliceStrings
import Derived.Test.YteopighhhcikcaaGreatDoorTreeF
/- A slice of attributes that came in, opened. Conditions: none. -/
namespace Go.Proofs.YteopighhhcikcaaGreatDoor
open Go.RowKit Go.WideShapes Go.ChangeShapes Go.ChangeAt Go.Joins Go.Deep
section
variable {H : Type} {enc : TypeId × Value → H} {P : Program} {w : World} {base : Nat} {spare : Nat → Bool} {held : Bool}
theorem open_slice_fields2 {t e : TypeId} {fs : Array Field} {fuel : Nat} {cs : List Value} {x : DataW H × List MemPlace} (ht : P.underlying t = some (.slice e)) (he : P.underlying e = some (.struct fs))
    (hone : oneCellFields P fs = true) (hC : P.cellsOf e = fs.size) (h : DataW.trod enc P w base spare held fuel t cs = some x) :
    (cs = [.slice none 0 0] ∧ x = (.nil, [])) ∨
    ∃ (a : Addr) (len cap m : Nat) (D : Nat → DataW H) (Pl : Nat → List MemPlace), cs = [.slice (some a) len cap] ∧ base ≤ a.block ∧ len ≤ cap ∧ cap ≤ maxLen ∧ m = (if spare a.block then cap else len) ∧
      x = (.slice ((List.range len).map D) ((List.range (m - len)).map fun j => D (len + j)), MemPlace.row a (m * fs.size) ++ (List.range m).flatMap Pl) ∧
      ∀ i, i < m → ∃ (ys : List (DataW H × List MemPlace)) (n : Nat), D i = .agg (ys.map (·.1)) ∧ Pl i = ys.flatMap (·.2) ∧ ys.length = fs.size ∧
        ∀ (j : Nat) (f : Field), fs[j]? = some f → ∃ (v : Value) (y : DataW H × List MemPlace), w.cell? (a.add (i * fs.size + j)) = some v ∧ ys[j]? = some y ∧ DataW.trod enc P w base spare held n f.type [v] = some y := by
  rcases open_slice ht h with h0 | ⟨a, len, cap, m, n, D, Pl, hcs, hb, hl, hm, hmm, hx, hi⟩
  · exact .inl h0
  · refine .inr ⟨a, len, cap, m, D, Pl, hcs, hb, hl, hm, hmm, by rw [hC] at hx; exact hx, fun i him => ?_⟩
    obtain ⟨cs', hc, ht'⟩ := hi i him
    rw [hC] at hc
    obtain ⟨ys, n', hn', hy, hlen, hyl, hf⟩ := DataW.trod_struct he ht'
    obtain ⟨_, hcl, hat⟩ := World.cells?_some hc
    simp only [Prod.mk.injEq] at hy
    refine ⟨ys, n', hy.1, hy.2, hyl, fun j f hj => ?_⟩
    obtain ⟨ho, hk⟩ := hone_of hone j f hj
    have hjl : j < fs.size := (Array.getElem?_eq_some_iff.1 hj).1
    have hcell := hat j hjl
    have hv : cs'[j]? = some (cs'[j]'(by omega)) := List.getElem?_eq_getElem (by omega)
    have h1 := hf j f hj
    rw [ho, hk] at h1
    have hone' : (cs'.drop j).take 1 = [cs'[j]'(by omega)] := by
      rw [List.drop_eq_getElem_cons (by omega)]
      rfl
    rw [hone'] at h1
    have hys : ys[j]? = some (ys[j]'(by omega)) := List.getElem?_eq_getElem (by omega)
    refine ⟨_, _, ?_, hys, h1.trans hys⟩
    rw [← Go.Deep.add_add, hcell, hv]
end
section
variable {H : Type} {enc : TypeId × Value → H} {P : Program} {W : World}
theorem toB_back (s : ByteArray) : toB s.data.toList = s := bytes_inj rfl
theorem flatA_get (l : List (List UInt8 × List UInt8)) : ∀ (j : Nat) (u : Value), (l.flatMap Tok.atC)[j]? = some u → ∃ r, l[j / 2]? = some r ∧ (([.string (toB r.1), .string (toB r.2)] : List Value))[j % 2]? = some u := by
  induction l with
  | nil => intro j u h; simp at h
  | cons s l ih =>
    intro j u h
    have e : (s :: l).flatMap Tok.atC = .string (toB s.1) :: .string (toB s.2) :: l.flatMap Tok.atC := rfl
    rw [e] at h
    match j, h with
    | 0, h => exact ⟨s, rfl, h⟩
    | 1, h => exact ⟨s, rfl, h⟩
    | j + 2, h =>
      obtain ⟨r, h1, h2⟩ := ih j u (by simpa using h)
      exact ⟨r, by rw [show (j + 2) / 2 = j / 2 + 1 by omega]; simpa using h1, by rw [show (j + 2) % 2 = j % 2 by omega]; exact h2⟩
theorem mem_all {P : Program} {e : TypeId} {d : DataW H} {n : Nat} (hn : n ∈ d.weights P e) : ∀ l : List (DataW H), d ∈ l → n ∈ DataW.weightsAll P e l
  | [], h => by cases h
  | d0 :: l, h => by
    unfold DataW.weightsAll
    rcases List.mem_cons.1 h with h | h
    · subst h; exact List.mem_append.2 (.inl hn)
    · exact List.mem_append.2 (.inr (mem_all hn l h))
/-- A text within an element of a list that came in is no longer than what can be reached. -/
theorem text_le {P : Program} {ts : List TypeId} {ds : List (DataW H)} {j : Nat} {t e : TypeId} {fs : Array Field} {elems spare ys : List (DataW H)} (hsz : (DataW.weightsEach P ts ds).all (· ≤ reachBytes) = true) (htj : ts[j]? = some t) (hdj : ds[j]? = some (.slice elems spare))
    (ht : P.underlying t = some (.slice e)) (hs : P.underlying e = some (.struct fs)) (hm : DataW.agg ys ∈ elems) {i : Nat} {f : Field} {b : List UInt8} (hf : (fs.toList.map (·.type))[i]? = some f.type) (hy : ys[i]? = some (.lit (.string b))) : b.length ≤ 140737488351232 := by
  have h1 : b.length ∈ DataW.weightsEach P (fs.toList.map (·.type)) ys := DataW.weights_mem_each hf hy _ (by simp [DataW.weights])
  have h2 : b.length ∈ (DataW.agg ys).weights P e := by unfold DataW.weights; rw [hs]; exact h1
  have h3 := mem_all h2 elems hm
  have h4 : b.length ∈ (DataW.slice elems spare).weights P t := by unfold DataW.weights; rw [ht]; exact List.mem_cons_of_mem _ (List.mem_append.2 (.inl h3))
  have h5 := List.all_eq_true.1 hsz _ (DataW.weights_mem_each htj hdj _ h4)
  have h6 := of_decide_eq_true h5
  simpa only [reachBytes] using h6
theorem open_ats {r : Reach} {b0 base : Nat} {t e : TypeId} {f0 f1 : Field} {v : Value} {d : DataW H} {ps : List MemPlace} (ht : P.underlying t = some (.slice e)) (hs : P.underlying e = some (.struct #[f0, f1])) (hone : oneCellFields P #[f0, f1] = true) (hC : P.cellsOf e = 2)
    (h0 : P.underlying f0.type = some .string) (h1 : P.underlying f1.type = some .string)
    (hval : Value.okWide P W r b0 t v) (hd : DataW.Trod enc P W base (fun _ => true) true t v d ps)
    (hby : P.bytesOf e = 32) {ts : List TypeId} {ds : List (DataW H)} {j : Nat} (hsz : (DataW.weightsEach P ts ds).all (· ≤ reachBytes) = true) (htj : ts[j]? = some t) (hdj : ds[j]? = some d) :
    ∃ (A : Option Addr) (n c : Nat) (l : List (List UInt8 × List UInt8)), v = .slice A n c ∧ n ≤ 17592186043904 ∧ Reads W W.heap.size 2 A n (l.flatMap Tok.atC) ∧ ∀ x ∈ l, x.1.length ≤ 140737488351232 ∧ x.2.length ≤ 140737488351232 := by
  obtain ⟨A, n, c, rfl⟩ := okWide_slice ht hval
  obtain ⟨fuel, hf⟩ := hd
  rcases open_slice_fields2 ht hs hone hC hf with ⟨hcs, _⟩ | ⟨a, len, cap, m, D, Pl, hcs, _, hl, hm, hmm, hx, hi⟩
  · simp [Value.cells] at hcs
    obtain ⟨rfl, rfl, rfl⟩ := hcs
    exact ⟨_, _, _, [], rfl, by omega, Reads.none_, fun x hx => by cases hx⟩
  · simp [Value.cells] at hcs
    obtain ⟨rfl, rfl, rfl⟩ := hcs
    simp only [if_true] at hmm
    subst hmm
    simp only [Prod.mk.injEq] at hx
    obtain ⟨rfl, _⟩ := hx
    have hw8 := sized_slice hsz htj hdj ht
    rw [hby] at hw8
    simp only [List.length_map, List.length_range, reachBytes] at hw8
    have key : ∀ i, i < m → ∃ q : List UInt8 × List UInt8, (W.cell? (a.add (i * 2)) = some (.string (toB q.1)) ∧ W.cell? (a.add (i * 2 + 1)) = some (.string (toB q.2))) ∧ (i < n → q.1.length ≤ 140737488351232 ∧ q.2.length ≤ 140737488351232) := by
      intro i him
      obtain ⟨ys, k, hD, _, _, hfs⟩ := hi i him
      obtain ⟨u0, y0, c0, k0, g0⟩ := hfs 0 f0 rfl
      obtain ⟨u1, y1, c1, k1, g1⟩ := hfs 1 f1 rfl
      obtain ⟨x0, e0, hy0, _⟩ := DataW.trod_string h0 g0
      obtain ⟨x1, e1, hy1, _⟩ := DataW.trod_string h1 g1
      injection e0 with e0; injection e1 with e1
      rw [e0] at c0; rw [e1] at c1
      subst hy0; subst hy1
      refine ⟨(x0.data.toList, x1.data.toList), ⟨by rw [toB_back]; exact c0, by rw [toB_back]; exact c1⟩, fun hin => ?_⟩
      have hmem : DataW.agg (ys.map (·.1)) ∈ (List.range n).map D := List.mem_map.2 ⟨i, List.mem_range.2 hin, hD⟩
      exact ⟨text_le hsz htj hdj ht hs hmem (i := 0) (f := f0) rfl (by rw [List.getElem?_map, k0]; rfl), text_le hsz htj hdj ht hs hmem (i := 1) (f := f1) rfl (by rw [List.getElem?_map, k1]; rfl)⟩
    let F : Nat → List UInt8 × List UInt8 := fun i => if h : i < m then (key i h).choose else ([], [])
    have hF2 : ∀ i, i < m → (W.cell? (a.add (i * 2)) = some (.string (toB (F i).1)) ∧ W.cell? (a.add (i * 2 + 1)) = some (.string (toB (F i).2))) ∧ (i < n → (F i).1.length ≤ 140737488351232 ∧ (F i).2.length ≤ 140737488351232) := by
      intro i him
      have : F i = (key i him).choose := by show (if h : i < m then (key i h).choose else ([], [])) = _; rw [dif_pos him]
      rw [this]
      exact (key i him).choose_spec
    have hF := fun i him => (hF2 i him).1
    have hlenl : ((List.range n).map F).length = n := by simp
    refine ⟨_, _, _, (List.range n).map F, rfl, by omega, ⟨by rw [Tok.flat_len Tok.atC_len, hlenl], fun hn => ⟨a, rfl, ?_, ?_⟩⟩, fun x hx => ?_⟩
    · have := lt_of_cell (hF 0 (by omega)).1
      rwa [block_of_add] at this
    · intro k u hu
      obtain ⟨q, hq, hu2⟩ := flatA_get _ k u hu
      have hkn : k / 2 < n := by
        have := (List.getElem?_eq_some_iff.1 hq).1
        rwa [hlenl] at this
      have hqF : q = F (k / 2) := by
        rw [List.getElem?_map, List.getElem?_range hkn] at hq
        simpa using hq.symm
      subst hqF
      obtain ⟨k0, k1⟩ := hF (k / 2) (by omega)
      have hm4 : k % 2 < 2 := Nat.mod_lt _ (by omega)
      have hk : k = k / 2 * 2 + k % 2 := by omega
      generalize k / 2 = i at *
      generalize k % 2 = s at *
      subst hk
      match s, hm4, hu2 with
      | 0, _, hu2 => rw [Nat.add_zero, k0]; simpa using hu2
      | 1, _, hu2 => rw [k1]; simpa using hu2
    · obtain ⟨i, hi1, rfl⟩ := List.mem_map.1 hx
      have hin := List.mem_range.1 hi1
      exact (hF2 i (by omega)).2 hin
end
end Go.Proofs.YteopighhhcikcaaGreatDoor
namespace Go.Proofs.YteopighhhcikcaaGreatDoor
open Go.RowKit Go.WideShapes Go.ChangeShapes Go.ChangeAt Go.Joins Go.Deep
section
variable {H : Type} {enc : TypeId × Value → H} {P : Program} {W : World}
theorem flat_div {α : Type} {f : α → List Value} {s : Nat} (hs : 0 < s) (hf : ∀ x, (f x).length = s) (l : List α) : ∀ (j : Nat) (u : Value), (l.flatMap f)[j]? = some u → ∃ r, l[j / s]? = some r ∧ (f r)[j % s]? = some u := by
  induction l with
  | nil => intro j u h; simp at h
  | cons a l ih =>
    intro j u h
    rw [List.flatMap_cons, List.getElem?_append, hf] at h
    by_cases hj : j < s
    · rw [if_pos hj] at h
      exact ⟨a, by rw [Nat.div_eq_of_lt hj]; rfl, by rw [Nat.mod_eq_of_lt hj]; exact h⟩
    · rw [if_neg hj] at h
      obtain ⟨r, h1, h2⟩ := ih (j - s) u h
      have hd : j / s = (j - s) / s + 1 := by rw [Nat.div_eq_sub_div hs (by omega)]
      have hm : j % s = (j - s) % s := Nat.mod_eq_sub_mod (by omega)
      exact ⟨r, by rw [hd]; simpa using h1, by rw [hm]; exact h2⟩
/-- What an element of a list that came in weighs is no more than what can be reached. -/
theorem inner_le {ts : List TypeId} {ds : List (DataW H)} {j : Nat} {t e : TypeId} {fs : Array Field} {elems spare ys : List (DataW H)} (hsz : (DataW.weightsEach P ts ds).all (· ≤ reachBytes) = true) (htj : ts[j]? = some t) (hdj : ds[j]? = some (.slice elems spare))
    (ht : P.underlying t = some (.slice e)) (hs : P.underlying e = some (.struct fs)) (hm : DataW.agg ys ∈ elems) {i : Nat} {f : Field} {y : DataW H} (hf : (fs.toList.map (·.type))[i]? = some f.type) (hy : ys[i]? = some y) {x : Nat} (hx : x ∈ y.weights P f.type) : x ≤ 140737488351232 := by
  have h1 : x ∈ DataW.weightsEach P (fs.toList.map (·.type)) ys := DataW.weights_mem_each hf hy _ hx
  have h2 : x ∈ (DataW.agg ys).weights P e := by unfold DataW.weights; rw [hs]; exact h1
  have h3 := mem_all h2 elems hm
  have h4 : x ∈ (DataW.slice elems spare).weights P t := by unfold DataW.weights; rw [ht]; exact List.mem_cons_of_mem _ (List.mem_append.2 (.inl h3))
  have h5 := List.all_eq_true.1 hsz _ (DataW.weights_mem_each htj hdj _ h4)
  have h6 := of_decide_eq_true h5
  simpa only [reachBytes] using h6
theorem in_ats {base fuel : Nat} {t e : TypeId} {f0 f1 : Field} {c : Value} {x : DataW H × List MemPlace} (ht : P.underlying t = some (.slice e)) (hs : P.underlying e = some (.struct #[f0, f1])) (hone : oneCellFields P #[f0, f1] = true) (hC : P.cellsOf e = 2)
    (h0 : P.underlying f0.type = some .string) (h1 : P.underlying f1.type = some .string) (hby : P.bytesOf e = 32)
    (hd : DataW.trod enc P W base (fun _ => true) true fuel t [c] = some x) :
    ∃ (A : Option Addr) (n cp : Nat) (l : List (List UInt8 × List UInt8)), c = .slice A n cp ∧ (l.length = n ∧ n ≤ cp) ∧ Reads W W.heap.size 2 A n (l.flatMap Tok.atC) ∧
      ((∀ z ∈ x.1.weights P t, z ≤ 140737488351232) → n ≤ 4398046511104 ∧ ∀ q ∈ l, q.1.length ≤ 140737488351232 ∧ q.2.length ≤ 140737488351232) := by
  rcases open_slice_fields2 ht hs hone hC hd with ⟨hcs, _⟩ | ⟨a, n, cap, m, D, Pl, hcs, _, hl, hm, hmm, hx, hi⟩
  · injection hcs with hcs _
    exact ⟨_, _, _, [], hcs, ⟨rfl, Nat.le_refl _⟩, Reads.none_, fun _ => ⟨by omega, fun q hq => by cases hq⟩⟩
  · injection hcs with hcs _
    simp only [if_true] at hmm
    subst hmm
    have key : ∀ i, i < n → ∃ q : List UInt8 × List UInt8, (W.cell? (a.add (i * 2)) = some (.string (toB q.1)) ∧ W.cell? (a.add (i * 2 + 1)) = some (.string (toB q.2))) ∧ ((∀ z ∈ x.1.weights P t, z ≤ 140737488351232) → q.1.length ≤ 140737488351232 ∧ q.2.length ≤ 140737488351232) := by
      intro i hin
      obtain ⟨ys, k, hD, _, _, hfs⟩ := hi i (by omega)
      obtain ⟨u0, y0, c0, k0, g0⟩ := hfs 0 f0 rfl
      obtain ⟨u1, y1, c1, k1, g1⟩ := hfs 1 f1 rfl
      obtain ⟨x0, e0, hy0, _⟩ := DataW.trod_string h0 g0
      obtain ⟨x1, e1, hy1, _⟩ := DataW.trod_string h1 g1
      injection e0 with e0; injection e1 with e1
      rw [e0] at c0; rw [e1] at c1
      subst hy0; subst hy1
      refine ⟨(x0.data.toList, x1.data.toList), ⟨by rw [toB_back]; exact c0, by rw [toB_back]; exact c1⟩, fun hz => ?_⟩
      have hmem : DataW.agg (ys.map (·.1)) ∈ (List.range n).map D := List.mem_map.2 ⟨i, List.mem_range.2 hin, hD⟩
      have go : ∀ {j : Nat} {f : Field} {b : List UInt8}, ((#[f0, f1] : Array Field).toList.map (·.type))[j]? = some f.type → (ys.map (·.1))[j]? = some (.lit (.string b)) → b.length ≤ 140737488351232 := by
        intro j f b hf hy
        refine hz _ ?_
        have q1 : b.length ∈ DataW.weightsEach P ((#[f0, f1] : Array Field).toList.map (·.type)) (ys.map (·.1)) := DataW.weights_mem_each hf hy _ (by simp [DataW.weights])
        have q2 : b.length ∈ (DataW.agg (ys.map (·.1))).weights P e := by unfold DataW.weights; rw [hs]; exact q1
        have q3 := mem_all q2 _ hmem
        subst hx
        show b.length ∈ (DataW.slice _ _).weights P t
        unfold DataW.weights
        rw [ht]
        exact List.mem_cons_of_mem _ (List.mem_append.2 (.inl q3))
      exact ⟨go (j := 0) (f := f0) rfl (by rw [List.getElem?_map, k0]; rfl), go (j := 1) (f := f1) rfl (by rw [List.getElem?_map, k1]; rfl)⟩
    let F : Nat → List UInt8 × List UInt8 := fun i => if h : i < n then (key i h).choose else ([], [])
    have hF2 : ∀ i, i < n → (W.cell? (a.add (i * 2)) = some (.string (toB (F i).1)) ∧ W.cell? (a.add (i * 2 + 1)) = some (.string (toB (F i).2))) ∧ ((∀ z ∈ x.1.weights P t, z ≤ 140737488351232) → (F i).1.length ≤ 140737488351232 ∧ (F i).2.length ≤ 140737488351232) := by
      intro i him
      have : F i = (key i him).choose := by show (if h : i < n then (key i h).choose else ([], [])) = _; rw [dif_pos him]
      rw [this]
      exact (key i him).choose_spec
    have hlenl : ((List.range n).map F).length = n := by simp
    refine ⟨_, _, _, (List.range n).map F, hcs, ⟨hlenl, hl⟩, ⟨by rw [Tok.flat_len Tok.atC_len, hlenl], fun hn => ⟨a, rfl, ?_, ?_⟩⟩, fun hz => ⟨?_, fun q hq => ?_⟩⟩
    · have := lt_of_cell (hF2 0 (by omega)).1.1
      rwa [block_of_add] at this
    · intro k u hu
      obtain ⟨q, hq, hu2⟩ := flatA_get _ k u hu
      have hkn : k / 2 < n := by
        have := (List.getElem?_eq_some_iff.1 hq).1
        rwa [hlenl] at this
      have hqF : q = F (k / 2) := by
        rw [List.getElem?_map, List.getElem?_range hkn] at hq
        simpa using hq.symm
      subst hqF
      obtain ⟨k0, k1⟩ := (hF2 (k / 2) (by omega)).1
      have hm4 : k % 2 < 2 := Nat.mod_lt _ (by omega)
      have hk : k = k / 2 * 2 + k % 2 := by omega
      generalize k / 2 = i at *
      generalize k % 2 = s at *
      subst hk
      match s, hm4, hu2 with
      | 0, _, hu2 => rw [Nat.add_zero, k0]; simpa using hu2
      | 1, _, hu2 => rw [k1]; simpa using hu2
    · have := hz ((((List.range n).map D).length + ((List.range (m - n)).map fun j => D (n + j)).length) * P.bytesOf e) (by
        subst hx
        show _ ∈ (DataW.slice _ _).weights P t
        unfold DataW.weights
        rw [ht]
        exact List.mem_cons_self)
      simp only [hby, List.length_map, List.length_range] at this
      omega
    · obtain ⟨i, hi1, rfl⟩ := List.mem_map.1 hq
      exact (hF2 i (List.mem_range.1 hi1)).2 hz
open Tok Tre in
/-- The attributes of tokens that lie in memory have room for what they are. -/
def CapR (w : World) (B : Nat) (A : Option Addr) (n : Nat) : Prop := ∃ cs : List TC, Reads w B 4 A n (cs.flatMap tcC) ∧ ∀ c ∈ cs, c.m ≤ c.c
open Tok Tre in
theorem open_toks {r : Reach} {b0 base : Nat} {t e ea : TypeId} {f0 f1 f2 f3 g0 g1 : Field} {v : Value} {d : DataW H} {ps : List MemPlace} (ht : P.underlying t = some (.slice e)) (hs : P.underlying e = some (.struct #[f0, f1, f2, f3])) (hone : oneCellFields P #[f0, f1, f2, f3] = true) (hC : P.cellsOf e = 4)
    (h0 : P.underlying f0.type = some (.int .i64)) (h1 : P.underlying f1.type = some .string) (h2 : P.underlying f2.type = some .string) (h3 : P.underlying f3.type = some (.slice ea))
    (hsa : P.underlying ea = some (.struct #[g0, g1])) (honea : oneCellFields P #[g0, g1] = true) (hCa : P.cellsOf ea = 2) (k0 : P.underlying g0.type = some .string) (k1 : P.underlying g1.type = some .string) (hbya : P.bytesOf ea = 32)
    (hval : Value.okWide P W r b0 t v) (hd : DataW.Trod enc P W base (fun _ => true) true t v d ps)
    (hby : P.bytesOf e = 64) {ts : List TypeId} {ds : List (DataW H)} {j : Nat} (hsz : (DataW.weightsEach P ts ds).all (· ≤ reachBytes) = true) (htj : ts[j]? = some t) (hdj : ds[j]? = some d) :
    ∃ (A : Option Addr) (n c : Nat) (l : List Tk), v = .slice A n c ∧ ((n ≤ 17592186043904 ∧ n ≤ c) ∧ CapR W W.heap.size A n) ∧ TRK W W.heap.size A n l ∧ ∀ x ∈ l, (x.name.length ≤ 140737488351232 ∧ x.text.length ≤ 140737488351232) ∧ x.attrs.length ≤ 4398046511104 ∧ ∀ q ∈ x.attrs, q.1.length ≤ 140737488351232 ∧ q.2.length ≤ 140737488351232 := by
  obtain ⟨A, n, c, rfl⟩ := okWide_slice ht hval
  obtain ⟨fuel, hf⟩ := hd
  rcases open_slice_fields2 ht hs hone hC hf with ⟨hcs, _⟩ | ⟨a, len, cap, m, D, Pl, hcs, _, hl, hm, hmm, hx, hi⟩
  · simp [Value.cells] at hcs
    obtain ⟨rfl, rfl, rfl⟩ := hcs
    exact ⟨_, _, _, [], rfl, ⟨by omega, [], Reads.none_, fun c h => by cases h⟩, ⟨[], Reads.none_, rfl, fun i c t h => by simp at h⟩, fun x hx => by cases hx⟩
  · simp [Value.cells] at hcs
    obtain ⟨rfl, rfl, rfl⟩ := hcs
    simp only [if_true] at hmm
    subst hmm
    simp only [Prod.mk.injEq] at hx
    obtain ⟨rfl, _⟩ := hx
    have hw8 := sized_slice hsz htj hdj ht
    rw [hby] at hw8
    simp only [List.length_map, List.length_range, reachBytes] at hw8
    have key : ∀ i, i < n → ∃ q : TC × Tk, (W.cell? (a.add (i * 4)) = some (.int .i64 q.1.k) ∧ W.cell? (a.add (i * 4 + 1)) = some (.string q.1.n) ∧ W.cell? (a.add (i * 4 + 2)) = some (.string q.1.x) ∧ W.cell? (a.add (i * 4 + 3)) = some (.slice q.1.A q.1.m q.1.c)) ∧ (TkR W W.heap.size q.1 q.2 ∧ q.1.m ≤ q.1.c) ∧
        (q.2.name.length ≤ 140737488351232 ∧ q.2.text.length ≤ 140737488351232) ∧ q.2.attrs.length ≤ 4398046511104 ∧ ∀ p ∈ q.2.attrs, p.1.length ≤ 140737488351232 ∧ p.2.length ≤ 140737488351232 := by
      intro i hin
      obtain ⟨ys, k, hD, _, _, hfs⟩ := hi i (by omega)
      obtain ⟨u0, y0, c0, z0, g0'⟩ := hfs 0 f0 rfl
      obtain ⟨u1, y1, c1, z1, g1'⟩ := hfs 1 f1 rfl
      obtain ⟨u2, y2, c2, z2, g2'⟩ := hfs 2 f2 rfl
      obtain ⟨u3, y3, c3, z3, g3'⟩ := hfs 3 f3 rfl
      obtain ⟨x0, e0, _, _⟩ := DataW.trod_int h0 g0'
      obtain ⟨x1, e1, hy1, _⟩ := DataW.trod_string h1 g1'
      obtain ⟨x2, e2, hy2, _⟩ := DataW.trod_string h2 g2'
      obtain ⟨A3, n3, cp3, l3, rfl, hl3, hR3, hb3⟩ := in_ats h3 hsa honea hCa k0 k1 hbya g3'
      injection e0 with e0; injection e1 with e1; injection e2 with e2
      rw [e0] at c0; rw [e1] at c1; rw [e2] at c2
      subst hy1; subst hy2
      have hmem : DataW.agg (ys.map (·.1)) ∈ (List.range n).map D := List.mem_map.2 ⟨i, List.mem_range.2 hin, hD⟩
      have hb3' := hb3 (fun z hz => inner_le hsz htj hdj ht hs hmem (i := 3) (f := f3) rfl (by rw [List.getElem?_map, z3]; rfl) hz)
      refine ⟨(⟨x0, x1, x2, A3, n3, cp3⟩, ⟨x0, x1.data.toList, x2.data.toList, l3⟩), ⟨c0, c1, c2, c3⟩, ⟨⟨rfl, (toB_back _).symm, (toB_back _).symm, hl3.1.symm, hR3⟩, hl3.2⟩, ⟨?_, ?_⟩, by rw [hl3.1]; exact hb3'.1, hb3'.2⟩
      · exact text_le hsz htj hdj ht hs hmem (i := 1) (f := f1) rfl (by rw [List.getElem?_map, z1]; rfl)
      · exact text_le hsz htj hdj ht hs hmem (i := 2) (f := f2) rfl (by rw [List.getElem?_map, z2]; rfl)
    let F : Nat → TC × Tk := fun i => if h : i < n then (key i h).choose else (⟨0, ⟨#[]⟩, ⟨#[]⟩, none, 0, 0⟩, ⟨0, [], [], []⟩)
    have hF : ∀ i, i < n → (W.cell? (a.add (i * 4)) = some (.int .i64 (F i).1.k) ∧ W.cell? (a.add (i * 4 + 1)) = some (.string (F i).1.n) ∧ W.cell? (a.add (i * 4 + 2)) = some (.string (F i).1.x) ∧ W.cell? (a.add (i * 4 + 3)) = some (.slice (F i).1.A (F i).1.m (F i).1.c)) ∧ (TkR W W.heap.size (F i).1 (F i).2 ∧ (F i).1.m ≤ (F i).1.c) ∧
        ((F i).2.name.length ≤ 140737488351232 ∧ (F i).2.text.length ≤ 140737488351232) ∧ (F i).2.attrs.length ≤ 4398046511104 ∧ ∀ p ∈ (F i).2.attrs, p.1.length ≤ 140737488351232 ∧ p.2.length ≤ 140737488351232 := by
      intro i him
      have : F i = (key i him).choose := by show (if h : i < n then (key i h).choose else _) = _; rw [dif_pos him]
      rw [this]
      exact (key i him).choose_spec
    have hget : ∀ {β : Type} (f : TC × Tk → β) (i : Nat), i < n → ((List.range n).map (fun i => f (F i)))[i]? = some (f (F i)) := by
      intro β f i hin
      rw [List.getElem?_map, List.getElem?_range hin]
      rfl
    have hlt : ∀ {β : Type} (f : TC × Tk → β) (i : Nat) (x : β), ((List.range n).map (fun i => f (F i)))[i]? = some x → i < n := by
      intro β f i x h
      have := (List.getElem?_eq_some_iff.1 h).1
      simpa using this
    have hRD : Reads W W.heap.size 4 (some a) n (((List.range n).map (fun i => (F i).1)).flatMap tcC) := by
      refine ⟨by rw [Tok.flat_len tcC_len]; simp, fun hn => ⟨a, rfl, ?_, ?_⟩⟩
      · have := lt_of_cell (hF 0 (by omega)).1.1
        rwa [block_of_add] at this
      · intro k u hu
        obtain ⟨q, hq, hu2⟩ := flat_div (by decide) tcC_len _ k u hu
        have hkn : k / 4 < n := hlt (·.1) _ _ hq
        rw [hget (·.1) _ hkn] at hq
        injection hq with hq
        subst hq
        obtain ⟨k0, k1, k2, k3⟩ := (hF (k / 4) hkn).1
        have hm4 : k % 4 < 4 := Nat.mod_lt _ (by omega)
        have hk : k = k / 4 * 4 + k % 4 := by omega
        generalize k / 4 = i at *
        generalize k % 4 = s at *
        subst hk
        match s, hm4, hu2 with
        | 0, _, hu2 => rw [Nat.add_zero, k0]; simpa [tcC] using hu2
        | 1, _, hu2 => rw [k1]; simpa [tcC] using hu2
        | 2, _, hu2 => rw [k2]; simpa [tcC] using hu2
        | 3, _, hu2 => rw [k3]; simpa [tcC] using hu2
    refine ⟨_, _, _, (List.range n).map (fun i => (F i).2), rfl, ⟨by omega, (List.range n).map (fun i => (F i).1), hRD, fun c hc => ?_⟩, ⟨(List.range n).map (fun i => (F i).1), hRD, by simp, ?_⟩, fun x hx => ?_⟩
    · obtain ⟨i, hi1, rfl⟩ := List.mem_map.1 hc
      exact (hF i (List.mem_range.1 hi1)).2.1.2
    · intro i c t hc ht
      have hin := hlt (·.1) _ _ hc
      rw [hget (·.1) _ hin] at hc
      rw [hget (·.2) _ hin] at ht
      injection hc with hc
      injection ht with ht
      subst hc
      subst ht
      exact (hF i hin).2.1.1
    · obtain ⟨i, hi1, rfl⟩ := List.mem_map.1 hx
      exact (hF i (List.mem_range.1 hi1)).2.2
end
end Go.Proofs.YteopighhhcikcaaGreatDoor
