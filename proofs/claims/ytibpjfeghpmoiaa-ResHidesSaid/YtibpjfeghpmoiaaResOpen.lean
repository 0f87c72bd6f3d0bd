/- A table of images that came in, opened. Conditions: none. -/
import Derived.Test.YtibpjfeghpmoiaaOpen
import Derived.Test.YtibpjfeghpmoiaaResMath
import Derived.Lib.SmallJoins
import Derived.Deep.Slices
import Derived.Deep.Fields
namespace Go.Proofs.Ytibpjfeghpmoiaa
open Go.RowKit Go.WideShapes Go.ChangeShapes Go.ChangeAt Go.Joins Go.Deep
section
variable {H : Type} {enc : TypeId × Value → H} {P : Program} {w : World} {base : Nat} {spare : Nat → Bool} {held : Bool}
theorem open_slice_fields4 {t e : TypeId} {fs : Array Field} {fuel : Nat} {cs : List Value} {x : DataW H × List MemPlace} (ht : P.underlying t = some (.slice e)) (he : P.underlying e = some (.struct fs))
    (hone : oneCellFields P fs = true) (hC : P.cellsOf e = fs.size) (h : DataW.trod enc P w base spare held fuel t cs = some x) :
    (cs = [.slice none 0 0] ∧ x = (.nil, [])) ∨
    ∃ (a : Addr) (len cap m : Nat) (D : Nat → DataW H) (Pl : Nat → List MemPlace), cs = [.slice (some a) len cap] ∧ base ≤ a.block ∧ len ≤ cap ∧ cap ≤ maxLen ∧ m = (if spare a.block then cap else len) ∧
      x = (.slice ((List.range len).map D) ((List.range (m - len)).map fun j => D (len + j)), MemPlace.row a (m * fs.size) ++ (List.range m).flatMap Pl) ∧
      ∀ i, i < m → ∃ (ys : List (DataW H × List MemPlace)) (n : Nat), D i = .agg (ys.map (·.1)) ∧ Pl i = ys.flatMap (·.2) ∧ ys.length = fs.size ∧
        ∀ (j : Nat) (f : Field), fs[j]? = some f → ∃ (v : Value) (y : DataW H × List MemPlace), w.cell? (a.add (i * fs.size + j)) = some v ∧ ys[j]? = some y ∧ DataW.trod enc P w base spare held n f.type [v] = some y := by
  rcases open_slice ht h with h0 | ⟨a, len, cap, m, n, D, Pl, hcs, hb, hl, hm, hmm, hx, hi⟩
  · exact .inl h0
  · refine .inr ⟨a, len, cap, m, D, Pl, hcs, hb, hl, hm, hmm, by rw [hC] at hx; exact hx, fun i him => ?_⟩
    obtain ⟨cs', hc, ht'⟩ := hi i him
    rw [hC] at hc
    obtain ⟨ys, n', hn', hy, hlen, hyl, hf⟩ := DataW.trod_struct he ht'
    obtain ⟨_, hcl, hat⟩ := World.cells?_some hc
    simp only [Prod.mk.injEq] at hy
    refine ⟨ys, n', hy.1, hy.2, hyl, fun j f hj => ?_⟩
    obtain ⟨ho, hk⟩ := hone_of hone j f hj
    have hjl : j < fs.size := (Array.getElem?_eq_some_iff.1 hj).1
    have hcell := hat j hjl
    have hv : cs'[j]? = some (cs'[j]'(by omega)) := List.getElem?_eq_getElem (by omega)
    have h1 := hf j f hj
    rw [ho, hk] at h1
    have hone' : (cs'.drop j).take 1 = [cs'[j]'(by omega)] := by
      rw [List.drop_eq_getElem_cons (by omega)]
      rfl
    rw [hone'] at h1
    have hys : ys[j]? = some (ys[j]'(by omega)) := List.getElem?_eq_getElem (by omega)
    refine ⟨_, _, ?_, hys, h1.trans hys⟩
    rw [← Go.Deep.add_add, hcell, hv]
end
section
variable {H : Type} {enc : TypeId × Value → H} {P : Program} {W : World}
theorem okWide_st {r : Reach} {b0 : Nat} {t : TypeId} {fs : Array Field} {v : Value} (ht : P.underlying t = some (.struct fs)) (h : Value.okWide P W r b0 t v) : ∃ cs, v = .agg cs ∧ cs.size = P.cellsOf t := by
  simp only [Value.okWide, ht] at h
  obtain ⟨cs, h1, h2, _⟩ := h
  exact ⟨cs, h1, h2⟩
theorem open_imgs {base fuel : Nat} {t e : TypeId} {f0 f1 f2 f3 : Field} {c : Value} {x : DataW H × List MemPlace} (ht : P.underlying t = some (.slice e)) (hs : P.underlying e = some (.struct #[f0, f1, f2, f3])) (hone : oneCellFields P #[f0, f1, f2, f3] = true) (hC : P.cellsOf e = 4)
    (h0 : P.underlying f0.type = some .string) (h1 : P.underlying f1.type = some (.int .i64)) (h2 : P.underlying f2.type = some (.int .i64)) (h3 : P.underlying f3.type = some .bool)
    (hd : DataW.trod enc P W base (fun _ => true) true fuel t [c] = some x) :
    ∃ (A : Option Addr) (n cp : Nat) (l : List Img), c = .slice A n cp ∧ n ≤ 9223372036854775807 ∧ Reads W W.heap.size 4 A n (flatI l) := by
  rcases open_slice_fields4 ht hs hone hC hd with ⟨hcs, _⟩ | ⟨a, len, cap, m, D, Pl, hcs, _, hl, hm, hmm, hx, hi⟩
  · injection hcs with hcs _
    exact ⟨_, _, _, [], hcs, by omega, Reads.none_⟩
  · injection hcs with hcs _
    simp only [if_true] at hmm
    subst hmm
    have key : ∀ i, i < m → ∃ q : Img, W.cell? (a.add (i * 4)) = some (.string q.s) ∧ W.cell? (a.add (i * 4 + 1)) = some (.int .i64 q.w) ∧ W.cell? (a.add (i * 4 + 2)) = some (.int .i64 q.h) ∧ W.cell? (a.add (i * 4 + 3)) = some (.bool q.o) := by
      intro i him
      obtain ⟨ys, k, _, _, _, hfs⟩ := hi i him
      obtain ⟨u0, y0, c0, _, g0⟩ := hfs 0 f0 rfl
      obtain ⟨u1, y1, c1, _, g1⟩ := hfs 1 f1 rfl
      obtain ⟨u2, y2, c2, _, g2⟩ := hfs 2 f2 rfl
      obtain ⟨u3, y3, c3, _, g3⟩ := hfs 3 f3 rfl
      obtain ⟨x0, e0, _, _⟩ := DataW.trod_string h0 g0
      obtain ⟨x1, e1, _, _⟩ := DataW.trod_int h1 g1
      obtain ⟨x2, e2, _, _⟩ := DataW.trod_int h2 g2
      obtain ⟨x3, e3, _⟩ := DataW.trod_bool h3 g3
      injection e0 with e0; injection e1 with e1; injection e2 with e2; injection e3 with e3
      rw [e0] at c0; rw [e1] at c1; rw [e2] at c2; rw [e3] at c3
      exact ⟨⟨x0, x1, x2, x3⟩, c0, c1, c2, c3⟩
    let F : Nat → Img := fun i => if h : i < m then (key i h).choose else ⟨⟨#[]⟩, 0, 0, false⟩
    have hF : ∀ i, i < m → W.cell? (a.add (i * 4)) = some (.string (F i).s) ∧ W.cell? (a.add (i * 4 + 1)) = some (.int .i64 (F i).w) ∧ W.cell? (a.add (i * 4 + 2)) = some (.int .i64 (F i).h) ∧ W.cell? (a.add (i * 4 + 3)) = some (.bool (F i).o) := by
      intro i him
      have : F i = (key i him).choose := by show (if h : i < m then (key i h).choose else _) = _; rw [dif_pos him]
      rw [this]
      exact (key i him).choose_spec
    have hlenl : ((List.range len).map F).length = len := by simp
    have hmax : maxLen = 9223372036854775807 := rfl
    refine ⟨_, _, _, (List.range len).map F, hcs, by omega, ⟨by rw [flatI_len, hlenl], fun hn => ⟨a, rfl, ?_, ?_⟩⟩⟩
    · have := lt_of_cell (hF 0 (by omega)).1
      rwa [block_of_add] at this
    · intro k u hu
      obtain ⟨q, hq, hu2⟩ := flatI_get _ k u hu
      have hkn : k / 4 < len := by
        have := (List.getElem?_eq_some_iff.1 hq).1
        rwa [hlenl] at this
      have hqF : q = F (k / 4) := by
        rw [List.getElem?_map, List.getElem?_range hkn] at hq
        simpa using hq.symm
      subst hqF
      obtain ⟨k0, k1, k2, k3⟩ := hF (k / 4) (by omega)
      have hm4 : k % 4 < 4 := Nat.mod_lt _ (by omega)
      have hk : k = k / 4 * 4 + k % 4 := by omega
      generalize k / 4 = i at *
      generalize k % 4 = s at *
      subst hk
      match s, hm4, hu2 with
      | 0, _, hu2 => rw [Nat.add_zero, k0]; simpa [Img.cs] using hu2
      | 1, _, hu2 => rw [k1]; simpa [Img.cs] using hu2
      | 2, _, hu2 => rw [k2]; simpa [Img.cs] using hu2
      | 3, _, hu2 => rw [k3]; simpa [Img.cs] using hu2
theorem open_tab {r : Reach} {b0 base : Nat} {t e : TypeId} {f0 f1 f2 f3 g0 g1 k0 k1 : Field} {v : Value} {d : DataW H} {p : List MemPlace}
    (hT : P.underlying t = some (.struct #[k0, k1])) (hCT : P.cellsOf t = 3) (ho0 : k0.offset = 0) (ho1 : k1.offset = 1) (hc0 : P.cellsOf k0.type = 1) (hc1 : P.cellsOf k1.type = 2)
    (ht : P.underlying k0.type = some (.slice e)) (hs : P.underlying e = some (.struct #[f0, f1, f2, f3])) (hone : oneCellFields P #[f0, f1, f2, f3] = true) (hC : P.cellsOf e = 4)
    (h0 : P.underlying f0.type = some .string) (h1 : P.underlying f1.type = some (.int .i64)) (h2 : P.underlying f2.type = some (.int .i64)) (h3 : P.underlying f3.type = some .bool)
    (hF : P.underlying k1.type = some (.struct #[g0, g1])) (hp0 : g0.offset = 0) (hp1 : g1.offset = 1) (hd0 : P.cellsOf g0.type = 1) (hd1 : P.cellsOf g1.type = 1) (hg0 : P.underlying g0.type = some (.int .i64)) (hg1 : P.underlying g1.type = some .bool)
    (hv : Value.okWide P W r b0 t v) (h : DataW.Trod enc P W base (fun _ => true) true t v d p) :
    ∃ (A : Option Addr) (n cp : Nat) (l : List Img) (a : Int) (o : Bool), v = .agg #[.slice A n cp, .int .i64 a, .bool o] ∧ n ≤ 9223372036854775807 ∧ Reads W W.heap.size 4 A n (flatI l) := by
  obtain ⟨cs, rfl, hsz⟩ := okWide_st hT hv
  rw [hCT] at hsz
  obtain ⟨c0, c1, c2, rfl⟩ : ∃ c0 c1 c2, cs = #[c0, c1, c2] := by
    obtain ⟨l⟩ := cs
    match l, hsz with
    | [c0, c1, c2], _ => exact ⟨c0, c1, c2, rfl⟩
  obtain ⟨fuel, hf⟩ := h
  obtain ⟨ys, n', _, _, _, hyl, hfs⟩ := DataW.trod_struct hT hf
  have e0 := hfs 0 k0 rfl
  have e1 := hfs 1 k1 rfl
  have hl0 : (0 : Nat) < ys.length := by rw [hyl]; exact Nat.succ_pos 1
  have hl1 : (1 : Nat) < ys.length := by rw [hyl]; exact Nat.lt_succ_self 1
  rw [ho0, hc0, List.getElem?_eq_getElem hl0] at e0
  rw [ho1, hc1, List.getElem?_eq_getElem hl1] at e1
  have e0' : DataW.trod enc P W base (fun _ => true) true n' k0.type [c0] = some ys[0] := e0
  have e1' : DataW.trod enc P W base (fun _ => true) true n' k1.type [c1, c2] = some ys[1] := e1
  obtain ⟨A, n, cp, l, rfl, hn, hR⟩ := open_imgs ht hs hone hC h0 h1 h2 h3 e0'
  obtain ⟨zs, m', _, _, _, hzl, hgs⟩ := DataW.trod_struct hF e1'
  have i0 := hgs 0 g0 rfl
  have i1 := hgs 1 g1 rfl
  have hm0 : (0 : Nat) < zs.length := by rw [hzl]; exact Nat.succ_pos 1
  have hm1 : (1 : Nat) < zs.length := by rw [hzl]; exact Nat.lt_succ_self 1
  rw [hp0, hd0, List.getElem?_eq_getElem hm0] at i0
  rw [hp1, hd1, List.getElem?_eq_getElem hm1] at i1
  have i0' : DataW.trod enc P W base (fun _ => true) true m' g0.type [c1] = some zs[0] := i0
  have i1' : DataW.trod enc P W base (fun _ => true) true m' g1.type [c2] = some zs[1] := i1
  obtain ⟨a, ea, _, _⟩ := DataW.trod_int hg0 i0'
  obtain ⟨o, eo, _⟩ := DataW.trod_bool hg1 i1'
  injection ea with ea
  injection eo with eo
  exact ⟨A, n, cp, l, a, o, by rw [ea, eo], hn, hR⟩
end
end Go.Proofs.Ytibpjfeghpmoiaa
