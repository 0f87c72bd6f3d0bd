/- A style that came in, opened. Conditions: none. -/
import Derived.Test.YtfamhjmdffaphaaLaw
import Derived.Test.YtfamhjmdffaphaaBlockK
import Derived.Lib.SmallJoins
import Derived.Deep.Slices
import Derived.Deep.Fields
namespace Go.Proofs.Ytfamhjmdffaphaa
open Go.RowKit Go.WideShapes Go.ChangeShapes Go.ChangeAt Go.Joins Go.Deep
section
variable {H : Type} {enc : TypeId × Value → H} {P : Program} {W : World}
theorem okWide_arr {r : Reach} {b0 n : Nat} {t e : TypeId} {v : Value} (ht : P.underlying t = some (.array n e)) (h : Value.okWide P W r b0 t v) : ∃ cs, v = .agg cs ∧ cs.size = P.cellsOf t := by
  simp only [Value.okWide, ht] at h
  obtain ⟨cs, h1, h2, _⟩ := h
  exact ⟨cs, h1, h2⟩
theorem open_sty {base : Nat} {t e : TypeId} {f0 f1 : Field} {v : Value} {d : DataW H} {p : List MemPlace} (hs : P.underlying t = some (.array 27 e)) (he : P.underlying e = some (.struct #[f0, f1])) (hC : P.cellsOf t = 54) (hc : P.cellsOf e = 2)
    (hone : oneCellFields P #[f0, f1] = true) (h0 : P.underlying f0.type = some (.int .i64)) (h1 : P.underlying f1.type = some (.int .i64))
    (hv : ∃ cs, v = .agg cs ∧ cs.size = P.cellsOf t) (h : DataW.Trod enc P W base (fun _ => true) true t v d p) : ∃ s : Nat → Int, v = .agg (styF s) := by
  obtain ⟨cs, rfl, hsz⟩ := hv
  rw [hC] at hsz
  obtain ⟨fuel, hf⟩ := h
  obtain ⟨xs, m, _, _, _, hx, hi⟩ := DataW.trod_array hs hf
  rw [hc] at hi
  have get : ∀ j (hj : j < 54), ∃ n : Int, cs[j]'(by omega) = .int .i64 n := by
    intro j hj
    have hij := hi (j / 2) (by omega)
    have hlt : j / 2 < xs.length := by omega
    rw [List.getElem?_eq_getElem hlt] at hij
    obtain ⟨ys, n', _, hy, hlen, hyl, hfs⟩ := DataW.trod_struct he hij
    have hl : (Value.agg cs).cells.toList.length = 54 := by show cs.toList.length = 54; simpa using hsz
    have e0 : ((Value.agg cs).cells.toList.drop (j / 2 * 2)).take 2 = [cs[j / 2 * 2]'(by omega), cs[j / 2 * 2 + 1]'(by omega)] := by
      show (cs.toList.drop (j / 2 * 2)).take 2 = _
      rw [List.drop_eq_getElem_cons (by simp; omega), List.drop_eq_getElem_cons (by simp; omega)]
      simp
    obtain ⟨o0, k0⟩ := hone_of hone 0 f0 rfl
    obtain ⟨o1, k1⟩ := hone_of hone 1 f1 rfl
    have g0 := hfs 0 f0 rfl
    have g1 := hfs 1 f1 rfl
    rw [o0, k0, e0] at g0
    rw [o1, k1, e0] at g1
    rw [List.getElem?_eq_getElem (show 0 < ys.length by rw [hyl]; show 0 < 2; omega)] at g0
    rw [List.getElem?_eq_getElem (show 1 < ys.length by rw [hyl]; show 1 < 2; omega)] at g1
    obtain ⟨n0, q0, _⟩ := DataW.trod_int h0 g0
    obtain ⟨n1, q1, _⟩ := DataW.trod_int h1 g1
    injection q0 with q0
    injection q1 with q1
    rcases Nat.mod_two_eq_zero_or_one j with hm | hm
    · refine ⟨n0, ?_⟩
      rw [← q0]
      congr 1
      omega
    · refine ⟨n1, ?_⟩
      rw [← q1]
      congr 1
      omega
  let s : Nat → Int := fun j => if hj : j < 54 then (get j hj).choose else 0
  refine ⟨s, ?_⟩
  congr 1
  refine Array.ext (by rw [hsz]; rfl) ?_
  intro j h1 h2
  have hj : j < 54 := by omega
  have e1 := sty_cell s j hj
  rw [Array.getElem?_eq_getElem h2] at e1
  injection e1 with e1
  rw [e1, (get j hj).choose_spec]
  show Value.int .i64 _ = .int .i64 (if hj : j < 54 then (get j hj).choose else 0)
  rw [dif_pos hj]
end
end Go.Proofs.Ytfamhjmdffaphaa
