/- Items that came in, opened. Conditions: none. -/
import Derived.Test.YticenmaephhniaaLaw
import Derived.Test.YticenmaephhniaaOpen
import Derived.Test.YticenmaephhniaaBlockG
import Derived.Lib.SmallJoins
import Derived.Deep.Slices
import Derived.Deep.Fields
namespace Go.Proofs.Yticenmaephhniaa
open Go.RowKit Go.WideShapes Go.ChangeShapes Go.ChangeAt Go.Joins Go.Deep
section
variable {H : Type} {enc : TypeId × Value → H} {P : Program} {w : World} {base : Nat} {spare : Nat → Bool} {held : Bool}
theorem open_slice_fields {t e : TypeId} {fs : Array Field} {fuel : Nat} {cs : List Value} {x : DataW H × List MemPlace} (ht : P.underlying t = some (.slice e)) (he : P.underlying e = some (.struct fs))
    (hone : oneCellFields P fs = true) (hC : P.cellsOf e = fs.size) (h : DataW.trod enc P w base spare held fuel t cs = some x) :
    (cs = [.slice none 0 0] ∧ x = (.nil, [])) ∨
    ∃ (a : Addr) (len cap m : Nat) (D : Nat → DataW H) (Pl : Nat → List MemPlace), cs = [.slice (some a) len cap] ∧ base ≤ a.block ∧ len ≤ cap ∧ cap ≤ maxLen ∧ m = (if spare a.block then cap else len) ∧
      x = (.slice ((List.range len).map D) ((List.range (m - len)).map fun j => D (len + j)), MemPlace.row a (m * fs.size) ++ (List.range m).flatMap Pl) ∧
      ∀ i, i < m → ∃ (ys : List (DataW H × List MemPlace)) (n : Nat), D i = .agg (ys.map (·.1)) ∧ Pl i = ys.flatMap (·.2) ∧ ys.length = fs.size ∧
        ∀ (j : Nat) (f : Field), fs[j]? = some f → ∃ (v : Value) (y : DataW H × List MemPlace), w.cell? (a.add (i * fs.size + j)) = some v ∧ ys[j]? = some y ∧ DataW.trod enc P w base spare held n f.type [v] = some y := by
  rcases open_slice ht h with h0 | ⟨a, len, cap, m, n, D, Pl, hcs, hb, hl, hm, hmm, hx, hi⟩
  · exact .inl h0
  · refine .inr ⟨a, len, cap, m, D, Pl, hcs, hb, hl, hm, hmm, by rw [hC] at hx; exact hx, fun i him => ?_⟩
    obtain ⟨cs', hc, ht'⟩ := hi i him
    rw [hC] at hc
    obtain ⟨ys, n', hn', hy, hlen, hyl, hf⟩ := DataW.trod_struct he ht'
    obtain ⟨_, hcl, hat⟩ := World.cells?_some hc
    simp only [Prod.mk.injEq] at hy
    refine ⟨ys, n', hy.1, hy.2, hyl, fun j f hj => ?_⟩
    obtain ⟨ho, hk⟩ := hone_of hone j f hj
    have hjl : j < fs.size := (Array.getElem?_eq_some_iff.1 hj).1
    have hcell := hat j hjl
    have hv : cs'[j]? = some (cs'[j]'(by omega)) := List.getElem?_eq_getElem (by omega)
    have h1 := hf j f hj
    rw [ho, hk] at h1
    have hone' : (cs'.drop j).take 1 = [cs'[j]'(by omega)] := by
      rw [List.drop_eq_getElem_cons (by omega)]
      rfl
    rw [hone'] at h1
    have hys : ys[j]? = some (ys[j]'(by omega)) := List.getElem?_eq_getElem (by omega)
    refine ⟨_, _, ?_, hys, h1.trans hys⟩
    rw [← Go.Deep.add_add, hcell, hv]
end
section
variable {H : Type} {enc : TypeId × Value → H} {P : Program} {W : World}
theorem flatS_get (l : List It) : ∀ (j : Nat) (u : Value), (flatS l)[j]? = some u → ∃ r, l[j / 3]? = some r ∧ (([.int .i64 r.t, .int .i64 r.h, .int .i64 r.b] : List Value))[j % 3]? = some u := by
  induction l with
  | nil => intro j u h; simp [flatS] at h
  | cons s l ih =>
    intro j u h
    have e : flatS (s :: l) = .int .i64 s.t :: .int .i64 s.h :: .int .i64 s.b :: flatS l := rfl
    rw [e] at h
    match j, h with
    | 0, h => exact ⟨s, rfl, h⟩
    | 1, h => exact ⟨s, rfl, h⟩
    | 2, h => exact ⟨s, rfl, h⟩
    | j + 3, h =>
      obtain ⟨r, h1, h2⟩ := ih j u (by simpa using h)
      exact ⟨r, by rw [show (j + 3) / 3 = j / 3 + 1 by omega]; simpa using h1, by rw [show (j + 3) % 3 = j % 3 by omega]; exact h2⟩
theorem open_bis {r : Reach} {b0 base : Nat} {t e : TypeId} {f0 f1 f2 : Field} {v : Value} {d : DataW H} {ps : List MemPlace} (ht : P.underlying t = some (.slice e)) (hs : P.underlying e = some (.struct #[f0, f1, f2])) (hone : oneCellFields P #[f0, f1, f2] = true) (hC : P.cellsOf e = 3)
    (h0 : P.underlying f0.type = some (.int .i64)) (h1 : P.underlying f1.type = some (.int .i64)) (h2 : P.underlying f2.type = some (.int .i64))
    (hval : Value.okWide P W r b0 t v) (hd : DataW.Trod enc P W base (fun _ => true) true t v d ps)
    (hby : P.bytesOf e = 24) {ts : List TypeId} {ds : List (DataW H)} {j : Nat} (hsz : (DataW.weightsEach P ts ds).all (· ≤ reachBytes) = true) (htj : ts[j]? = some t) (hdj : ds[j]? = some d) :
    ∃ (A : Option Addr) (n c : Nat) (l : List It), v = .slice A n c ∧ n ≤ 17592186043904 ∧ Reads W W.heap.size 3 A n (flatS l) := by
  obtain ⟨A, n, c, rfl⟩ := okWide_slice ht hval
  obtain ⟨fuel, hf⟩ := hd
  rcases open_slice_fields ht hs hone hC hf with ⟨hcs, _⟩ | ⟨a, len, cap, m, D, Pl, hcs, _, hl, hm, hmm, hx, hi⟩
  · simp [Value.cells] at hcs
    obtain ⟨rfl, rfl, rfl⟩ := hcs
    exact ⟨_, _, _, [], rfl, by omega, Reads.none_⟩
  · simp [Value.cells] at hcs
    obtain ⟨rfl, rfl, rfl⟩ := hcs
    simp only [if_true] at hmm
    subst hmm
    simp only [Prod.mk.injEq] at hx
    obtain ⟨rfl, _⟩ := hx
    have hw8 := sized_slice hsz htj hdj ht
    rw [hby] at hw8
    simp only [List.length_map, List.length_range, reachBytes] at hw8
    have key : ∀ i, i < m → ∃ q : It, W.cell? (a.add (i * 3)) = some (.int .i64 q.t) ∧ W.cell? (a.add (i * 3 + 1)) = some (.int .i64 q.h) ∧ W.cell? (a.add (i * 3 + 2)) = some (.int .i64 q.b) := by
      intro i him
      obtain ⟨ys, k, _, _, _, hfs⟩ := hi i him
      obtain ⟨u0, y0, c0, _, g0⟩ := hfs 0 f0 rfl
      obtain ⟨u1, y1, c1, _, g1⟩ := hfs 1 f1 rfl
      obtain ⟨u2, y2, c2, _, g2⟩ := hfs 2 f2 rfl
      obtain ⟨x0, e0, _, _⟩ := DataW.trod_int h0 g0
      obtain ⟨x1, e1, _, _⟩ := DataW.trod_int h1 g1
      obtain ⟨x2, e2, _, _⟩ := DataW.trod_int h2 g2
      injection e0 with e0; injection e1 with e1; injection e2 with e2
      rw [e0] at c0; rw [e1] at c1; rw [e2] at c2
      exact ⟨⟨x0, x1, x2⟩, c0, c1, c2⟩
    let F : Nat → It := fun i => if h : i < m then (key i h).choose else ⟨0, 0, 0⟩
    have hF : ∀ i, i < m → W.cell? (a.add (i * 3)) = some (.int .i64 (F i).t) ∧ W.cell? (a.add (i * 3 + 1)) = some (.int .i64 (F i).h) ∧ W.cell? (a.add (i * 3 + 2)) = some (.int .i64 (F i).b) := by
      intro i him
      have : F i = (key i him).choose := by show (if h : i < m then (key i h).choose else ⟨0, 0, 0⟩) = _; rw [dif_pos him]
      rw [this]
      exact (key i him).choose_spec
    have hlenl : ((List.range n).map F).length = n := by simp
    refine ⟨_, _, _, (List.range n).map F, rfl, by omega, ⟨by rw [flatS_len, hlenl], fun hn => ⟨a, rfl, ?_, ?_⟩⟩⟩
    · have := lt_of_cell (hF 0 (by omega)).1
      rwa [block_of_add] at this
    · intro k u hu
      obtain ⟨q, hq, hu2⟩ := flatS_get _ k u hu
      have hkn : k / 3 < n := by
        have := (List.getElem?_eq_some_iff.1 hq).1
        rwa [hlenl] at this
      have hqF : q = F (k / 3) := by
        rw [List.getElem?_map, List.getElem?_range hkn] at hq
        simpa using hq.symm
      subst hqF
      obtain ⟨k0, k1, k2⟩ := hF (k / 3) (by omega)
      have hm3 : k % 3 < 3 := Nat.mod_lt _ (by omega)
      have hk : k = k / 3 * 3 + k % 3 := by omega
      generalize k / 3 = i at *
      generalize k % 3 = s at *
      subst hk
      match s, hm3, hu2 with
      | 0, _, hu2 => rw [Nat.add_zero, k0]; simpa using hu2
      | 1, _, hu2 => rw [k1]; simpa using hu2
      | 2, _, hu2 => rw [k2]; simpa using hu2
end
end Go.Proofs.Yticenmaephhniaa
