/- Pieces that came in, opened. Conditions: none. -/
import Derived.Test.YtgglffmfkhbcgaaLaw
import Derived.Test.YtgglffmfkhbcgaaOpen
import Derived.Test.YtgglffmfkhbcgaaLineMath
import Derived.Lib.SmallJoins
import Derived.Deep.Slices
import Derived.Deep.Fields
namespace Go.Proofs.Ytgglffmfkhbcgaa
open Go.RowKit Go.WideShapes Go.ChangeShapes Go.ChangeAt Go.Joins Go.Deep
section
variable {H : Type} {enc : TypeId × Value → H} {P : Program} {w : World} {base : Nat} {spare : Nat → Bool} {held : Bool}
theorem open_slice_fields {t e : TypeId} {fs : Array Field} {fuel : Nat} {cs : List Value} {x : DataW H × List MemPlace} (ht : P.underlying t = some (.slice e)) (he : P.underlying e = some (.struct fs))
    (hone : oneCellFields P fs = true) (hC : P.cellsOf e = fs.size) (h : DataW.trod enc P w base spare held fuel t cs = some x) :
    (cs = [.slice none 0 0] ∧ x = (.nil, [])) ∨
    ∃ (a : Addr) (len cap m : Nat) (D : Nat → DataW H) (Pl : Nat → List MemPlace), cs = [.slice (some a) len cap] ∧ base ≤ a.block ∧ len ≤ cap ∧ cap ≤ maxLen ∧ m = (if spare a.block then cap else len) ∧
      x = (.slice ((List.range len).map D) ((List.range (m - len)).map fun j => D (len + j)), MemPlace.row a (m * fs.size) ++ (List.range m).flatMap Pl) ∧
      ∀ i, i < m → ∃ (ys : List (DataW H × List MemPlace)) (n : Nat), D i = .agg (ys.map (·.1)) ∧ Pl i = ys.flatMap (·.2) ∧ ys.length = fs.size ∧
        ∀ (j : Nat) (f : Field), fs[j]? = some f → ∃ (v : Value) (y : DataW H × List MemPlace), w.cell? (a.add (i * fs.size + j)) = some v ∧ ys[j]? = some y ∧ DataW.trod enc P w base spare held n f.type [v] = some y := by
  rcases open_slice ht h with h0 | ⟨a, len, cap, m, n, D, Pl, hcs, hb, hl, hm, hmm, hx, hi⟩
  · exact .inl h0
  · refine .inr ⟨a, len, cap, m, D, Pl, hcs, hb, hl, hm, hmm, by rw [hC] at hx; exact hx, fun i him => ?_⟩
    obtain ⟨cs', hc, ht'⟩ := hi i him
    rw [hC] at hc
    obtain ⟨ys, n', hn', hy, hlen, hyl, hf⟩ := DataW.trod_struct he ht'
    obtain ⟨_, hcl, hat⟩ := World.cells?_some hc
    simp only [Prod.mk.injEq] at hy
    refine ⟨ys, n', hy.1, hy.2, hyl, fun j f hj => ?_⟩
    obtain ⟨ho, hk⟩ := hone_of hone j f hj
    have hjl : j < fs.size := (Array.getElem?_eq_some_iff.1 hj).1
    have hcell := hat j hjl
    have hv : cs'[j]? = some (cs'[j]'(by omega)) := List.getElem?_eq_getElem (by omega)
    have h1 := hf j f hj
    rw [ho, hk] at h1
    have hone' : (cs'.drop j).take 1 = [cs'[j]'(by omega)] := by
      rw [List.drop_eq_getElem_cons (by omega)]
      rfl
    rw [hone'] at h1
    have hys : ys[j]? = some (ys[j]'(by omega)) := List.getElem?_eq_getElem (by omega)
    refine ⟨_, _, ?_, hys, h1.trans hys⟩
    rw [← Go.Deep.add_add, hcell, hv]
end
section
variable {H : Type} {enc : TypeId × Value → H} {P : Program} {W : World}
theorem flatP_get (l : List Pc) : ∀ (j : Nat) (u : Value), (flatP l)[j]? = some u → ∃ r, l[j / 6]? = some r ∧ r.cs[j % 6]? = some u := by
  induction l with
  | nil => intro j u h; simp [flatP] at h
  | cons s l ih =>
    intro j u h
    have e : flatP (s :: l) = .int .i64 s.b :: .int .i64 s.w :: .int .i64 s.h :: .int .i64 s.g :: .string s.t :: .bool s.k :: flatP l := rfl
    rw [e] at h
    match j, h with
    | 0, h => exact ⟨s, rfl, h⟩
    | 1, h => exact ⟨s, rfl, h⟩
    | 2, h => exact ⟨s, rfl, h⟩
    | 3, h => exact ⟨s, rfl, h⟩
    | 4, h => exact ⟨s, rfl, h⟩
    | 5, h => exact ⟨s, rfl, h⟩
    | j + 6, h =>
      obtain ⟨r, h1, h2⟩ := ih j u (by simpa using h)
      exact ⟨r, by rw [show (j + 6) / 6 = j / 6 + 1 by omega]; simpa using h1, by rw [show (j + 6) % 6 = j % 6 by omega]; exact h2⟩
theorem open_pcs {r : Reach} {b0 base : Nat} {t e : TypeId} {f0 f1 f2 f3 f4 f5 : Field} {v : Value} {d : DataW H} {ps : List MemPlace} (ht : P.underlying t = some (.slice e)) (hs : P.underlying e = some (.struct #[f0, f1, f2, f3, f4, f5])) (hone : oneCellFields P #[f0, f1, f2, f3, f4, f5] = true) (hC : P.cellsOf e = 6)
    (h0 : P.underlying f0.type = some (.int .i64)) (h1 : P.underlying f1.type = some (.int .i64)) (h2 : P.underlying f2.type = some (.int .i64)) (h3 : P.underlying f3.type = some (.int .i64)) (h4 : P.underlying f4.type = some .string) (h5 : P.underlying f5.type = some .bool)
    (hval : Value.okWide P W r b0 t v) (hd : DataW.Trod enc P W base (fun _ => true) true t v d ps)
    (hby : P.bytesOf e = 56) {ts : List TypeId} {ds : List (DataW H)} {j : Nat} (hsz : (DataW.weightsEach P ts ds).all (· ≤ reachBytes) = true) (htj : ts[j]? = some t) (hdj : ds[j]? = some d) :
    ∃ (A : Option Addr) (n c : Nat) (l : List Pc), v = .slice A n c ∧ n ≤ 17592186043904 ∧ n ≤ c ∧ Reads W W.heap.size 6 A n (flatP l) := by
  obtain ⟨A, n, c, rfl⟩ := okWide_slice ht hval
  obtain ⟨fuel, hf⟩ := hd
  rcases open_slice_fields ht hs hone hC hf with ⟨hcs, _⟩ | ⟨a, len, cap, m, D, Pl, hcs, _, hl, hm, hmm, hx, hi⟩
  · simp [Value.cells] at hcs
    obtain ⟨rfl, rfl, rfl⟩ := hcs
    exact ⟨_, _, _, [], rfl, by omega, by omega, Reads.none_⟩
  · simp [Value.cells] at hcs
    obtain ⟨rfl, rfl, rfl⟩ := hcs
    simp only [if_true] at hmm
    subst hmm
    simp only [Prod.mk.injEq] at hx
    obtain ⟨rfl, _⟩ := hx
    have hw8 := sized_slice hsz htj hdj ht
    rw [hby] at hw8
    simp only [List.length_map, List.length_range, reachBytes] at hw8
    have key : ∀ i, i < m → ∃ q : Pc, W.cell? (a.add (i * 6)) = some (.int .i64 q.b) ∧ W.cell? (a.add (i * 6 + 1)) = some (.int .i64 q.w) ∧ W.cell? (a.add (i * 6 + 2)) = some (.int .i64 q.h) ∧ W.cell? (a.add (i * 6 + 3)) = some (.int .i64 q.g) ∧ W.cell? (a.add (i * 6 + 4)) = some (.string q.t) ∧ W.cell? (a.add (i * 6 + 5)) = some (.bool q.k) := by
      intro i him
      obtain ⟨ys, k, _, _, _, hfs⟩ := hi i him
      obtain ⟨u0, y0, c0, _, g0⟩ := hfs 0 f0 rfl
      obtain ⟨u1, y1, c1, _, g1⟩ := hfs 1 f1 rfl
      obtain ⟨u2, y2, c2, _, g2⟩ := hfs 2 f2 rfl
      obtain ⟨u3, y3, c3, _, g3⟩ := hfs 3 f3 rfl
      obtain ⟨u4, y4, c4, _, g4⟩ := hfs 4 f4 rfl
      obtain ⟨u5, y5, c5, _, g5⟩ := hfs 5 f5 rfl
      obtain ⟨x0, e0, _, _⟩ := DataW.trod_int h0 g0
      obtain ⟨x1, e1, _, _⟩ := DataW.trod_int h1 g1
      obtain ⟨x2, e2, _, _⟩ := DataW.trod_int h2 g2
      obtain ⟨x3, e3, _, _⟩ := DataW.trod_int h3 g3
      obtain ⟨x4, e4, _⟩ := DataW.trod_string h4 g4
      obtain ⟨x5, e5, _⟩ := DataW.trod_bool h5 g5
      injection e0 with e0; injection e1 with e1; injection e2 with e2; injection e3 with e3; injection e4 with e4; injection e5 with e5
      rw [e0] at c0; rw [e1] at c1; rw [e2] at c2; rw [e3] at c3; rw [e4] at c4; rw [e5] at c5
      exact ⟨⟨x0, x1, x2, x3, x4, x5⟩, c0, c1, c2, c3, c4, c5⟩
    let F : Nat → Pc := fun i => if h : i < m then (key i h).choose else ⟨0, 0, 0, 0, ⟨#[]⟩, false⟩
    have hF : ∀ i, i < m → W.cell? (a.add (i * 6)) = some (.int .i64 (F i).b) ∧ W.cell? (a.add (i * 6 + 1)) = some (.int .i64 (F i).w) ∧ W.cell? (a.add (i * 6 + 2)) = some (.int .i64 (F i).h) ∧ W.cell? (a.add (i * 6 + 3)) = some (.int .i64 (F i).g) ∧ W.cell? (a.add (i * 6 + 4)) = some (.string (F i).t) ∧ W.cell? (a.add (i * 6 + 5)) = some (.bool (F i).k) := by
      intro i him
      have : F i = (key i him).choose := by show (if h : i < m then (key i h).choose else ⟨0, 0, 0, 0, ⟨#[]⟩, false⟩) = _; rw [dif_pos him]
      rw [this]
      exact (key i him).choose_spec
    have hlenl : ((List.range n).map F).length = n := by simp
    refine ⟨_, _, _, (List.range n).map F, rfl, by omega, hl, ⟨by rw [flatP_len, hlenl], fun hn => ⟨a, rfl, ?_, ?_⟩⟩⟩
    · have := lt_of_cell (hF 0 (by omega)).1
      rwa [block_of_add] at this
    · intro k u hu
      obtain ⟨q, hq, hu2⟩ := flatP_get _ k u hu
      have hkn : k / 6 < n := by
        have := (List.getElem?_eq_some_iff.1 hq).1
        rwa [hlenl] at this
      have hqF : q = F (k / 6) := by
        rw [List.getElem?_map, List.getElem?_range hkn] at hq
        simpa using hq.symm
      subst hqF
      obtain ⟨k0, k1, k2, k3, k4, k5⟩ := hF (k / 6) (by omega)
      have hm6 : k % 6 < 6 := Nat.mod_lt _ (by omega)
      have hk : k = k / 6 * 6 + k % 6 := by omega
      generalize k / 6 = i at *
      generalize k % 6 = s at *
      subst hk
      match s, hm6, hu2 with
      | 0, _, hu2 => rw [Nat.add_zero, k0]; simpa [Pc.cs] using hu2
      | 1, _, hu2 => rw [k1]; simpa [Pc.cs] using hu2
      | 2, _, hu2 => rw [k2]; simpa [Pc.cs] using hu2
      | 3, _, hu2 => rw [k3]; simpa [Pc.cs] using hu2
      | 4, _, hu2 => rw [k4]; simpa [Pc.cs] using hu2
      | 5, _, hu2 => rw [k5]; simpa [Pc.cs] using hu2
end
end Go.Proofs.Ytgglffmfkhbcgaa
