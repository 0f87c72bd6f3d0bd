/- Rows.SelectorListsSaid: the row's step. Conditions: none beyond the row's own. -/
import Derived.Test.YthacboofbbfmlaaDoorSelectorLists
import Derived.Test.YthacboofbbfmlaaDoorOpenSels
import Derived.Test.YthacboofbbfmlaaDoorTie
import Derived.Test.YthacboofbbfmlaaDoorCards
import Derived.Test.YthacboofbbfmlaaDoorLawT
import Derived.Test.YthacboofbbfmlaaDoorOpen
import Derived.Test.YthacboofbbfmlaaDoorLaw
import Derived.WalkLawsBesides
namespace Go.Proofs.YthacboofbbfmlaaDoor
open Go.ChangeShapes Go.WideShapes Go.ChangeAt Go.RowKit
namespace selectorLists
/-! ### the row's step -/
theorem own : ownKnob Tryd.prog.godebug = none := by kernel_rfl
theorem laidOut : laidOutB Tryd.prog = true := by kernel_rfl
theorem rec_sels : Tryd.prog.readableRec 46 = true ∧ 46 < Tryd.prog.types.size := ⟨by kernel_rfl, of_decide_eq_true (by kernel_rfl)⟩
theorem bytes_slr : Tryd.prog.bytesOf 25 = 48 := by kernel_rfl
theorem cells_slr : Tryd.prog.cellsOf 25 = 2 := by kernel_rfl
theorem cells_sims : Tryd.prog.cellsOf 22 = 1 := by kernel_rfl
theorem cells_bools : Tryd.prog.cellsOf 23 = 1 := by kernel_rfl
theorem cells_sim : Tryd.prog.cellsOf 44 = 5 := by kernel_rfl
theorem cells_strx : Tryd.prog.cellsOf 9 = 1 := by kernel_rfl
theorem cells_boolx : Tryd.prog.cellsOf 4 = 1 := by kernel_rfl
theorem bytes_sim : Tryd.prog.bytesOf 44 = 72 := by kernel_rfl
theorem bytes_strx : Tryd.prog.bytesOf 9 = 16 := by kernel_rfl
set_option maxRecDepth 100000 in
theorem lifted (os : Os) (started : os.Started) (H : Type) (enc : TypeId × Value → H) :
    ReturnsInHanded {} Tryd.checked os 6 .any (fun w args => (Rows.selectorListsSpec.pre enc Tryd.prog Tryd.f6 Rows.selectorListsRow.domain false w args ∧ laidMetH Tryd.prog Rows.selectorListsRow.laid w) ∧ sizedMet enc Tryd.prog Tryd.f6 (OpenSpec.ofChange Rows.selectorListsSpec) false w args) (Rows.selectorListsSpec.post enc Tryd.prog Tryd.f6 false true false false) := by
  refine law_liftedT (C := Tryd.checked) (enc := enc) (laid := Rows.selectorListsRow.laid) own started (by kernel_rfl) Tryd.func6
    (ChangeSpec.witness_shaped (enc := enc) (C := Tryd.checked) (os := os) (X := fun w _ => laidMetH Tryd.prog Rows.selectorListsRow.laid w) false (World.laidAll Tryd.prog os Rows.selectorListsRow.laid) #[.slice none 0 0] 8 (World.laidAll_os _ _ _)
      (World.shaped_of_ZipB (by kernel_rfl) (by kernel_rfl)) (by kernel_rfl) (by kernel_rfl) (by kernel_rfl) (by rw [MakeChecks.laidMetH_plain _ _ _ (by kernel_rfl)]; exact laidMet_laidAll _ (by kernel_rfl) (by kernel_rfl)))
    laidOut ?_ rfl Tryd.underlying4 rfl ?_ ?_
  · intro t ht
    rw [Tryd.params6] at ht
    simp only [List.mem_cons, List.not_mem_nil, or_false] at ht
    obtain rfl := ht
    exact rec_sels
  · intro ds h
    match ds, h with
    | [d0], _ => exact ⟨rfl, rfl, rfl⟩
  · intro W base args ds p hval0 hA0 hlt hsz hLaid hsh
    have hval : ∀ (j : Nat) t v, Tryd.f6.params[j]? = some t → args[j]? = some v → Value.okWide Tryd.prog W .any base t v := hval0
    have hA : DataW.TrodAll enc Tryd.prog W 0 (fun _ => true) true Tryd.f6.params.toList args.toList ds p := hA0
    rw [Tryd.params6] at hA hval
    obtain ⟨v0, vs0, d0, ds0, p0, q0, hargs, rfl, rfl, h0, r0⟩ := trodAll_cons hA
    obtain ⟨rfl, rfl, rfl⟩ := trodAll_nil r0
    obtain rfl : args = #[v0] := by cases args; simp_all
    obtain ⟨A0, n0, c0, l0, rfl, m0, R0, B0⟩ := OpenSel.open_sels Tryd.underlying46 Tryd.underlying25 (by kernel_rfl) cells_slr bytes_slr Tryd.underlying22 Tryd.underlying44 (by kernel_rfl) cells_sim bytes_sim Tryd.underlying9 Tryd.underlying42 Tryd.underlying42 Tryd.underlying4 Tryd.underlying4 Tryd.underlying9 cells_strx bytes_strx Tryd.underlying9 cells_strx bytes_strx Tryd.underlying23 Tryd.underlying4 cells_boolx (hval 0 46 v0 rfl rfl) h0 (j := 0) hsz (by rw [Tryd.params6]; rfl) rfl
    exact walk A0 n0 c0 l0 W m0 R0 B0
theorem over : Rows.selectorListsRow.holds Tryd.pinned (OpenSpec.ofChange Rows.selectorListsSpec) :=
  OpenClaim.holds_of_wide 6 Tryd.f6 rfl rfl rfl rfl rfl rfl rfl ⟨rfl, rfl, rfl, rfl, rfl⟩ rfl rfl rfl rfl rfl (by kernel_rfl) Tryd.func6 (by kernel_rfl)
    (of_decide_eq_true (by kernel_rfl)) (by unfold Func.isWrapper; first | (rw [if_pos (by decide +kernel)]; kernel_rfl) | (rw [if_neg (by decide +kernel)]; exact ⟨rfl, rfl⟩))
    (fun os started H enc _ => lifted os started H enc)
/-- The statement. -/
theorem proved : Rows.SelectorListsCardSaid :=
  Claim7.holds_tied_plain_at .later [] [.data, .pinned, .pinned] true (true, "a3694a5b0d9b1082d9192b5554e6036c2f81159d5e34a466aec563a43d7b1c01") false over (fun _ h => by cases h) (by kernel_rfl) (fun _ h => by cases h) selectorLists_row_tie rfl ⟨rfl, rfl⟩ (by kernel_rfl) rfl
    (fun f fn hf hfn => by
      obtain rfl : f = 6 := Option.some.inj ((show Tryd.prog.funcNamed "scrim/scrimlaw09.SelectorLists" = some 6 by kernel_rfl).symm.trans hf) |>.symm
      obtain rfl : fn = Tryd.f6 := (Option.some.inj (Tryd.func6.symm.trans hfn)).symm
      exact ⟨by kernel_rfl, fun j t ht => by
        rw [Tryd.params6] at ht
        have hm : t ∈ [46] := by simpa using Array.mem_of_getElem? ht
        have hall : ([46].all fun u => !Tryd.prog.wantsStandIn u) = true := by kernel_rfl
        exact (show Tryd.prog.wantsStandIn t = false by simpa using List.all_eq_true.1 hall t hm)⟩)
    (by kernel_rfl)
end selectorLists
end Go.Proofs.YthacboofbbfmlaaDoor
