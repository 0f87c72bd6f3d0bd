/- A [4]int that came in, opened. Conditions: none. -/
import Derived.Test.YtdfcahdipalmkaaGreatDoorShtT
import Derived.Lib.SmallJoins
import Derived.Deep.Slices
import Derived.Deep.Fields
namespace Go.Proofs.YtdfcahdipalmkaaGreatDoor
open Go.RowKit Go.WideShapes Go.ChangeShapes Go.ChangeAt Go.Joins Go.Deep
namespace Sht
section
variable {H : Type} {enc : TypeId × Value → H} {P : Program} {W : World}
theorem okWide_arr {r : Reach} {b0 n : Nat} {t e : TypeId} {v : Value} (ht : P.underlying t = some (.array n e)) (h : Value.okWide P W r b0 t v) : ∃ cs, v = .agg cs ∧ cs.size = P.cellsOf t := by
  simp only [Value.okWide, ht] at h
  obtain ⟨cs, h1, h2, _⟩ := h
  exact ⟨cs, h1, h2⟩
theorem open_arr4 {base : Nat} {t e : TypeId} {v : Value} {d : DataW H} {p : List MemPlace} (hs : P.underlying t = some (.array 4 e)) (he : P.underlying e = some (.int .i64)) (hC : P.cellsOf t = 4) (hc : P.cellsOf e = 1)
    (hv : ∃ cs, v = .agg cs ∧ cs.size = P.cellsOf t) (h : DataW.Trod enc P W base (fun _ => true) true t v d p) : ∃ a b c d' : Int, v = .agg #[.int .i64 a, .int .i64 b, .int .i64 c, .int .i64 d'] := by
  obtain ⟨cs, rfl, hsz⟩ := hv
  obtain ⟨c0, c1, c2, c3, rfl⟩ := array4 (hsz.trans hC)
  obtain ⟨fuel, hf⟩ := h
  obtain ⟨xs, m, _, _, _, hx, hi⟩ := DataW.trod_array hs hf
  rw [hc] at hi
  have get : ∀ i (hi4 : i < 4) (u : Value), (((Value.agg #[c0, c1, c2, c3]).cells.toList.drop (i * 1)).take 1) = [u] → ∃ n, u = .int .i64 n := by
    intro i hi4 u hu
    have := hi i hi4
    rw [hu] at this
    have hlt : i < xs.length := by omega
    rw [List.getElem?_eq_getElem hlt] at this
    obtain ⟨n, e, _⟩ := DataW.trod_int he this
    injection e with e
    exact ⟨n, e⟩
  obtain ⟨a, e0⟩ := get 0 (by omega) c0 rfl
  obtain ⟨b, e1⟩ := get 1 (by omega) c1 rfl
  obtain ⟨c, e2⟩ := get 2 (by omega) c2 rfl
  obtain ⟨d', e3⟩ := get 3 (by omega) c3 rfl
  exact ⟨a, b, c, d', by rw [e0, e1, e2, e3]⟩
end
end Sht
end Go.Proofs.YtdfcahdipalmkaaGreatDoor
