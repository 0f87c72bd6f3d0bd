/- Rows.SelectorWeighsSaid: the row's step. Conditions: none beyond the row's own. -/
import Derived.Test.YthacboofbbfmlaaDoorSelectorWeighs
import Derived.Test.YthacboofbbfmlaaDoorOpenSel
import Derived.Test.YthacboofbbfmlaaDoorTie
import Derived.Test.YthacboofbbfmlaaDoorCards
import Derived.Test.YthacboofbbfmlaaDoorLawT
import Derived.Test.YthacboofbbfmlaaDoorOpen
import Derived.Test.YthacboofbbfmlaaDoorLaw
import Derived.WalkLawsBesides
namespace Go.Proofs.YthacboofbbfmlaaDoor
open Go.ChangeShapes Go.WideShapes Go.ChangeAt Go.RowKit
namespace selectorWeighs
/-! ### the row's step -/
theorem own : ownKnob Tryd.prog.godebug = none := by kernel_rfl
theorem laidOut : laidOutB Tryd.prog = true := by kernel_rfl
theorem rec_int : Tryd.prog.readableRec 3 = true ∧ 3 < Tryd.prog.types.size := ⟨by kernel_rfl, of_decide_eq_true (by kernel_rfl)⟩
theorem rec_sel : Tryd.prog.readableRec 25 = true ∧ 25 < Tryd.prog.types.size := ⟨by kernel_rfl, of_decide_eq_true (by kernel_rfl)⟩
theorem cells_slr : Tryd.prog.cellsOf 25 = 2 := by kernel_rfl
theorem cells_sims : Tryd.prog.cellsOf 22 = 1 := by kernel_rfl
theorem cells_bools : Tryd.prog.cellsOf 23 = 1 := by kernel_rfl
theorem cells_sim : Tryd.prog.cellsOf 44 = 5 := by kernel_rfl
theorem cells_strx : Tryd.prog.cellsOf 9 = 1 := by kernel_rfl
theorem cells_boolx : Tryd.prog.cellsOf 4 = 1 := by kernel_rfl
theorem bytes_sim : Tryd.prog.bytesOf 44 = 72 := by kernel_rfl
theorem bytes_strx : Tryd.prog.bytesOf 9 = 16 := by kernel_rfl
set_option maxRecDepth 100000 in
theorem lifted (os : Os) (started : os.Started) (H : Type) (enc : TypeId × Value → H) :
    ReturnsInHanded {} Tryd.checked os 5 .any (fun w args => (Rows.selectorWeighsSpec.pre enc Tryd.prog Tryd.f5 Rows.selectorWeighsRow.domain false w args ∧ laidMetH Tryd.prog Rows.selectorWeighsRow.laid w) ∧ sizedMet enc Tryd.prog Tryd.f5 (OpenSpec.ofChange Rows.selectorWeighsSpec) false w args) (Rows.selectorWeighsSpec.post enc Tryd.prog Tryd.f5 false true false false) := by
  refine law_liftedT (C := Tryd.checked) (enc := enc) (laid := Rows.selectorWeighsRow.laid) own started (by kernel_rfl) Tryd.func5
    (ChangeSpec.witness_shaped (enc := enc) (C := Tryd.checked) (os := os) (X := fun w _ => laidMetH Tryd.prog Rows.selectorWeighsRow.laid w) false (World.laidAll Tryd.prog os Rows.selectorWeighsRow.laid) #[.agg #[.slice none 0 0, .slice none 0 0], .int .i64 0] 8 (World.laidAll_os _ _ _)
      (World.shaped_of_ZipB (by kernel_rfl) (by kernel_rfl)) (by kernel_rfl) (by kernel_rfl) (by kernel_rfl) (by rw [MakeChecks.laidMetH_plain _ _ _ (by kernel_rfl)]; exact laidMet_laidAll _ (by kernel_rfl) (by kernel_rfl)))
    laidOut ?_ rfl Tryd.underlying4 rfl ?_ ?_
  · intro t ht
    rw [Tryd.params5] at ht
    simp only [List.mem_cons, List.not_mem_nil, or_false] at ht
    rcases ht with rfl | rfl
    · exact rec_sel
    · exact rec_int
  · intro ds h
    match ds, h with
    | [d0, d1], _ => exact ⟨rfl, rfl, rfl⟩
  · intro W base args ds p hval0 hA0 hlt hsz hLaid hsh
    have hval : ∀ (j : Nat) t v, Tryd.f5.params[j]? = some t → args[j]? = some v → Value.okWide Tryd.prog W .any base t v := hval0
    have hA : DataW.TrodAll enc Tryd.prog W 0 (fun _ => true) true Tryd.f5.params.toList args.toList ds p := hA0
    rw [Tryd.params5] at hA hval
    obtain ⟨v0, vs0, d0, ds0, p0, q0, hargs, rfl, rfl, h0, r0⟩ := trodAll_cons hA
    obtain ⟨v1, vs1, d1, ds1, p1, q1, rfl, rfl, rfl, h1, r1⟩ := trodAll_cons r0
    obtain ⟨rfl, rfl, rfl⟩ := trodAll_nil r1
    obtain rfl : args = #[v0, v1] := by cases args; simp_all
    obtain ⟨A0, n0, c0, K0, m0, e0, x0, rfl, R0, Q0, N0, M0, B0⟩ := OpenSel.open_sel Tryd.underlying25 cells_slr rfl rfl cells_sims cells_bools Tryd.underlying22 Tryd.underlying44 (by kernel_rfl) cells_sim bytes_sim Tryd.underlying9 Tryd.underlying42 Tryd.underlying42 Tryd.underlying4 Tryd.underlying4 Tryd.underlying9 cells_strx bytes_strx Tryd.underlying9 cells_strx bytes_strx Tryd.underlying23 Tryd.underlying4 cells_boolx (hval 0 25 v0 rfl rfl) h0 (j := 0) hsz (by rw [Tryd.params5]; rfl) rfl
    obtain ⟨a1, rfl, rfl, rfl, w1⟩ := open_int Tryd.underlying3 (hval 1 3 v1 rfl rfl) h1
    exact walk A0 n0 c0 K0 m0 e0 x0 a1 W R0 Q0 N0 B0
theorem over : Rows.selectorWeighsRow.holds Tryd.pinned (OpenSpec.ofChange Rows.selectorWeighsSpec) :=
  OpenClaim.holds_of_wide 5 Tryd.f5 rfl rfl rfl rfl rfl rfl rfl ⟨rfl, rfl, rfl, rfl, rfl⟩ rfl rfl rfl rfl rfl (by kernel_rfl) Tryd.func5 (by kernel_rfl)
    (of_decide_eq_true (by kernel_rfl)) (by unfold Func.isWrapper; first | (rw [if_pos (by decide +kernel)]; kernel_rfl) | (rw [if_neg (by decide +kernel)]; exact ⟨rfl, rfl⟩))
    (fun os started H enc _ => lifted os started H enc)
/-- The statement. -/
theorem proved : Rows.SelectorWeighsCardSaid :=
  Claim7.holds_tied_plain_at .later [] [.data, .pinned, .pinned] true (true, "a3694a5b0d9b1082d9192b5554e6036c2f81159d5e34a466aec563a43d7b1c01") false over (fun _ h => by cases h) (by kernel_rfl) (fun _ h => by cases h) selectorWeighs_row_tie rfl ⟨rfl, rfl⟩ (by kernel_rfl) rfl
    (fun f fn hf hfn => by
      obtain rfl : f = 5 := Option.some.inj ((show Tryd.prog.funcNamed "scrim/scrimlaw09.SelectorWeighs" = some 5 by kernel_rfl).symm.trans hf) |>.symm
      obtain rfl : fn = Tryd.f5 := (Option.some.inj (Tryd.func5.symm.trans hfn)).symm
      exact ⟨by kernel_rfl, fun j t ht => by
        rw [Tryd.params5] at ht
        have hm : t ∈ [25, 3] := by simpa using Array.mem_of_getElem? ht
        have hall : ([25, 3].all fun u => !Tryd.prog.wantsStandIn u) = true := by kernel_rfl
        exact (show Tryd.prog.wantsStandIn t = false by simpa using List.all_eq_true.1 hall t hm)⟩)
    (by kernel_rfl)
end selectorWeighs
end Go.Proofs.YthacboofbbfmlaaDoor
