/- A slice of texts that came in, opened once for nil and others. Conditions: none. -/
import Derived.Test.YthacboofbbfmlaaGreatDoorOpen
import Derived.Test.YthacboofbbfmlaaGreatDoorScanSpec
import Derived.SliceStrings
namespace Go.Proofs.YthacboofbbfmlaaGreatDoor
open Go.RowKit Go.WideShapes Go.ChangeShapes Go.ChangeAt
theorem toB_list (s : ByteArray) : toB s.data.toList = s := bytes_inj rfl
theorem u8_of {a : Int} (h : (Lit.int .u8 a).wf = true) : ∃ c : UInt8, a = (c.toNat : Int) := by
  have h1 : IntKind.u8.min = 0 := rfl
  have h2 : IntKind.u8.max = 255 := rfl
  simp only [Lit.wf, Bool.and_eq_true, decide_eq_true_eq] at h
  refine ⟨UInt8.ofNat a.toNat, ?_⟩
  rw [UInt8.toNat_ofNat']
  omega
section
variable {H : Type} {enc : TypeId × Value → H} {P : Program} {W : World}
theorem open_texts {r : Reach} {b0 base : Nat} {t e : TypeId} {v : Value} {d : DataW H} {ps : List MemPlace} (ht : P.underlying t = some (.slice e)) (he : P.underlying e = some .string) (hc : P.cellsOf e = 1)
    (hval : Value.okWide P W r b0 t v) (hd : DataW.Trod enc P W base (fun _ => true) true t v d ps)
    (hby : P.bytesOf e = 16) {ts : List TypeId} {ds : List (DataW H)} {j : Nat} (hsz : (DataW.weightsEach P ts ds).all (· ≤ reachBytes) = true) (htj : ts[j]? = some t) (hdj : ds[j]? = some d) :
    ∃ (A : Option Addr) (n c : Nat) (xs : List (List UInt8)), v = .slice A n c ∧ n ≤ 17592186043904 ∧ Reads W W.heap.size 1 A n (strs xs) := by
  obtain ⟨A, n, c, rfl⟩ := okWide_slice ht hval
  obtain ⟨fuel, hf⟩ := hd
  rcases open_strings ht he hc hf with ⟨hcs, _⟩ | ⟨a, len, cap, ss, hcs, _, hl, hm, hz, hx, hcell, hw⟩
  · simp [Value.cells] at hcs
    obtain ⟨rfl, rfl, rfl⟩ := hcs
    exact ⟨_, _, _, [], rfl, by omega, Reads.none_⟩
  · simp [Value.cells] at hcs
    obtain ⟨rfl, rfl, rfl⟩ := hcs
    simp only [if_true] at hz
    simp only [Prod.mk.injEq] at hx
    obtain ⟨rfl, _⟩ := hx
    have hw8 := sized_slice hsz htj hdj ht
    rw [hby] at hw8
    simp only [Go.ChangeShapes.strs, List.length_map, List.length_take, List.length_drop, reachBytes] at hw8
    have hlen : (ss.take n).length = n := by simp; omega
    refine ⟨_, _, _, (ss.take n).map (·.data.toList), rfl, by omega, ⟨by unfold strs; simp; omega, fun hn => ⟨a, rfl, ?_, ?_⟩⟩⟩
    · have := lt_of_cell (hcell 0 (by omega))
      rwa [block_of_add] at this
    · intro j u hu
      have hj : j < n := by
        have := (List.getElem?_eq_some_iff.1 hu).1
        unfold strs at this
        rw [List.length_map, List.length_map, hlen] at this
        exact this
      rw [hcell j (by omega), ← hu]
      unfold strs
      rw [List.getElem?_map, List.getElem?_map, List.getElem?_take_of_lt hj, List.getElem?_eq_getElem (by omega), List.getD_eq_getElem?_getD, List.getElem?_eq_getElem (by omega)]
      show some (Value.string ss[j]) = some (Value.string (toB ss[j].data.toList))
      rw [toB_list]
end
end Go.Proofs.YthacboofbbfmlaaGreatDoor
