/- Rows.TreeTextsSaid: the row's step. Conditions: none beyond the row's own. -/
import Derived.Test.YteopighhhcikcaaGreatDoorTreeTexts
import Derived.Test.YteopighhhcikcaaGreatDoorOpenT
import Derived.Test.YteopighhhcikcaaGreatDoorTie
import Derived.Test.YteopighhhcikcaaGreatDoorCards
import Derived.Test.YteopighhhcikcaaGreatDoorLawT
import Derived.Test.YteopighhhcikcaaGreatDoorOpen
import Derived.Test.YteopighhhcikcaaGreatDoorLaw
import Derived.WalkLawsBesides
namespace Go.Proofs.YteopighhhcikcaaGreatDoor
open Go.ChangeShapes Go.WideShapes Go.ChangeAt Go.RowKit
namespace treeTexts
/-! ### the row's step -/
theorem own : ownKnob Tryz.prog.godebug = none := by kernel_rfl
theorem laidOut : laidOutB Tryz.prog = true := by kernel_rfl
theorem rec_toks : Tryz.prog.readableRec 23 = true ∧ 23 < Tryz.prog.types.size := ⟨by kernel_rfl, of_decide_eq_true (by kernel_rfl)⟩
theorem cells_tok : Tryz.prog.cellsOf 38 = 4 := by kernel_rfl
theorem bytes_tok : Tryz.prog.bytesOf 38 = 64 := by kernel_rfl
theorem cells_at : Tryz.prog.cellsOf 41 = 2 := by kernel_rfl
theorem bytes_at : Tryz.prog.bytesOf 41 = 32 := by kernel_rfl
set_option maxRecDepth 100000 in
theorem lifted (os : Os) (started : os.Started) (H : Type) (enc : TypeId × Value → H) :
    ReturnsInHanded {} Tryz.checked os 8 .any (fun w args => (Rows.treeTextsSpec.pre enc Tryz.prog Tryz.f8 Rows.treeTextsRow.domain false w args ∧ laidMetH Tryz.prog Rows.treeTextsRow.laid w) ∧ sizedMet enc Tryz.prog Tryz.f8 (OpenSpec.ofChange Rows.treeTextsSpec) false w args) (Rows.treeTextsSpec.post enc Tryz.prog Tryz.f8 false true false false) := by
  refine law_liftedT (C := Tryz.checked) (enc := enc) (laid := Rows.treeTextsRow.laid) own started (by kernel_rfl) Tryz.func8
    (ChangeSpec.witness_shaped (enc := enc) (C := Tryz.checked) (os := os) (X := fun w _ => laidMetH Tryz.prog Rows.treeTextsRow.laid w) false (World.laidAll Tryz.prog os Rows.treeTextsRow.laid) #[.slice none 0 0] 8 (World.laidAll_os _ _ _)
      (World.shaped_of_ZipB (by kernel_rfl) (by kernel_rfl)) (by kernel_rfl) (by kernel_rfl) (by kernel_rfl) (by rw [MakeChecks.laidMetH_plain _ _ _ (by kernel_rfl)]; exact laidMet_laidAll _ (by kernel_rfl) (by kernel_rfl)))
    laidOut ?_ rfl Tryz.underlying4 rfl ?_ ?_
  · intro t ht
    rw [Tryz.params8] at ht
    simp only [List.mem_cons, List.not_mem_nil, or_false] at ht
    obtain rfl := ht
    exact rec_toks
  · intro ds h
    match ds, h with
    | [d0], _ => exact ⟨rfl, rfl, rfl⟩
  · intro W base args ds p hval0 hA0 hlt hsz hLaid hsh
    have hval : ∀ (j : Nat) t v, Tryz.f8.params[j]? = some t → args[j]? = some v → Value.okWide Tryz.prog W .any base t v := hval0
    have hA : DataW.TrodAll enc Tryz.prog W 0 (fun _ => true) true Tryz.f8.params.toList args.toList ds p := hA0
    rw [Tryz.params8] at hA hval
    obtain ⟨v0, vs0, d0, ds0, p0, q0, hargs, rfl, rfl, h0, r0⟩ := trodAll_cons hA
    obtain ⟨rfl, rfl, rfl⟩ := trodAll_nil r0
    obtain rfl : args = #[v0] := by cases args; simp_all
    obtain ⟨A0, n0, c0, l0, rfl, m0, R0, W0⟩ := open_toks Tryz.underlying23 Tryz.underlying38 (by kernel_rfl) cells_tok Tryz.underlying3 Tryz.underlying9 Tryz.underlying9 Tryz.underlying36 Tryz.underlying41 (by kernel_rfl) cells_at Tryz.underlying9 Tryz.underlying9 bytes_at (hval 0 23 v0 rfl rfl) h0 bytes_tok (j := 0) hsz (by rw [Tryz.params8]; rfl) rfl
    exact walk A0 n0 c0 l0 W (by omega) R0 W0
theorem over : Rows.treeTextsRow.holds Tryz.pinned (OpenSpec.ofChange Rows.treeTextsSpec) :=
  OpenClaim.holds_of_wide 8 Tryz.f8 rfl rfl rfl rfl rfl rfl rfl ⟨rfl, rfl, rfl, rfl, rfl⟩ rfl rfl rfl rfl rfl (by kernel_rfl) Tryz.func8 (by kernel_rfl)
    (of_decide_eq_true (by kernel_rfl)) (by unfold Func.isWrapper; first | (rw [if_pos (by decide +kernel)]; kernel_rfl) | (rw [if_neg (by decide +kernel)]; exact ⟨rfl, rfl⟩))
    (fun os started H enc _ => lifted os started H enc)
/-- The statement. -/
theorem proved : Rows.TreeTextsCardSaid :=
  Claim7.holds_tied_plain_at .later [] [.data, .pinned, .pinned] true (true, "20ec211b225f0faa80b3cba095bba70e00a58fb418b118b30755f2d06ad29fac") true over (fun _ h => by cases h) (by kernel_rfl) (fun _ h => by cases h) treeTexts_row_tie rfl ⟨rfl, rfl⟩ (by kernel_rfl) rfl
    (fun f fn hf hfn => by
      obtain rfl : f = 8 := Option.some.inj ((show Tryz.prog.funcNamed "scrim/scrimlaw05.TreeTexts" = some 8 by kernel_rfl).symm.trans hf) |>.symm
      obtain rfl : fn = Tryz.f8 := (Option.some.inj (Tryz.func8.symm.trans hfn)).symm
      exact ⟨by kernel_rfl, fun j t ht => by
        rw [Tryz.params8] at ht
        have hm : t ∈ [23] := by simpa using Array.mem_of_getElem? ht
        have hall : ([23].all fun u => !Tryz.prog.wantsStandIn u) = true := by kernel_rfl
        exact (show Tryz.prog.wantsStandIn t = false by simpa using List.all_eq_true.1 hall t hm)⟩)
    (by kernel_rfl)
end treeTexts
end Go.Proofs.YteopighhhcikcaaGreatDoor
