/- Rows.SheetDropsSaid: the row's step. Conditions: none beyond the row's own. -/
import Derived.Test.YtdfcahdipalmkaaGreatDoorSheetDrops
import Derived.Test.YtdfcahdipalmkaaGreatDoorShtT
import Derived.Test.YtdfcahdipalmkaaGreatDoorTie
import Derived.Test.YtdfcahdipalmkaaGreatDoorCards
import Derived.Test.YtdfcahdipalmkaaGreatDoorOpenS
import Derived.WalkLawsBesides
import Derived.ChangeMaps5
namespace Go.Proofs.YtdfcahdipalmkaaGreatDoor
open Go.ChangeShapes Go.WideShapes Go.ChangeAt Go.RowKit
namespace sheetDrops
/-! ### the row's step -/
theorem own : ownKnob Tryz.prog.godebug = none := by kernel_rfl
theorem laidOut : laidOutB Tryz.prog = true := by kernel_rfl
theorem rec_string : Tryz.prog.readableRec 9 = true ∧ 9 < Tryz.prog.types.size := ⟨by kernel_rfl, of_decide_eq_true (by kernel_rfl)⟩
set_option maxRecDepth 100000 in
theorem lifted (os : Os) (started : os.Started) (H : Type) (enc : TypeId × Value → H) :
    ReturnsInHanded {} Tryz.checked os 5 .any (fun w args => (Rows.sheetDropsSpec.pre enc Tryz.prog Tryz.f5 Rows.sheetDropsRow.domain false w args ∧ laidMetH Tryz.prog Rows.sheetDropsRow.laid w) ∧ sizedMet enc Tryz.prog Tryz.f5 (OpenSpec.ofChange Rows.sheetDropsSpec) false w args) (Rows.sheetDropsSpec.post enc Tryz.prog Tryz.f5 false true false false) := by
  refine law_liftedT (C := Tryz.checked) (enc := enc) (laid := Rows.sheetDropsRow.laid) own started (by kernel_rfl) Tryz.func5
    (ChangeSpec.witness_shaped (enc := enc) (C := Tryz.checked) (os := os) (X := fun w _ => laidMetH Tryz.prog Rows.sheetDropsRow.laid w) false (World.laidAll Tryz.prog os Rows.sheetDropsRow.laid) #[.string ⟨#[]⟩, .string ⟨#[]⟩, .string ⟨#[]⟩] 8 (World.laidAll_os _ _ _)
      (World.shaped_of_ZipB (by kernel_rfl) (by kernel_rfl)) (by kernel_rfl) (by kernel_rfl) (by kernel_rfl) (by rw [MakeChecks.laidMetH_plain _ _ _ (by kernel_rfl)]; exact laidMet_laidAll _ (by kernel_rfl) (by kernel_rfl)))
    laidOut ?_ rfl Tryz.underlying4 rfl ?_ ?_
  · intro t ht
    rw [Tryz.params5] at ht
    simp only [List.mem_cons, List.not_mem_nil, or_false] at ht
    rcases ht with rfl | rfl | rfl
    · exact rec_string
    · exact rec_string
    · exact rec_string
  · intro ds h
    match ds, h with
    | [d0, d1, d2], _ => exact ⟨rfl, rfl, rfl⟩
  · intro W base args ds p hval0 hA0 hlt hsz hLaid hsh
    have hval : ∀ (j : Nat) t v, Tryz.f5.params[j]? = some t → args[j]? = some v → Value.okWide Tryz.prog W .any base t v := hval0
    have hA : DataW.TrodAll enc Tryz.prog W 0 (fun _ => true) true Tryz.f5.params.toList args.toList ds p := hA0
    rw [Tryz.params5] at hA hval
    obtain ⟨v0, vs0, d0, ds0, p0, q0, hargs, rfl, rfl, h0, r0⟩ := trodAll_cons hA
    obtain ⟨v1, vs1, d1, ds1, p1, q1, rfl, rfl, rfl, h1, r1⟩ := trodAll_cons r0
    obtain ⟨v2, vs2, d2, ds2, p2, q2, rfl, rfl, rfl, h2, r2⟩ := trodAll_cons r1
    obtain ⟨rfl, rfl, rfl⟩ := trodAll_nil r2
    obtain rfl : args = #[v0, v1, v2] := by cases args; simp_all
    obtain ⟨a0, rfl, rfl, rfl, w0⟩ := Go.ChangeMaps.open_string Tryz.underlying9 (hval 0 9 v0 rfl rfl) h0
    have w0 : a0.size ≤ 140737488351232 := by rw [← size_list]; exact Sht.sized_text (j := 0) hsz (by rw [Tryz.params5]; rfl) rfl
    obtain ⟨a1, rfl, rfl, rfl, w1⟩ := Go.ChangeMaps.open_string Tryz.underlying9 (hval 1 9 v1 rfl rfl) h1
    have w1 : a1.size ≤ 140737488351232 := by rw [← size_list]; exact Sht.sized_text (j := 1) hsz (by rw [Tryz.params5]; rfl) rfl
    obtain ⟨a2, rfl, rfl, rfl, w2⟩ := Go.ChangeMaps.open_string Tryz.underlying9 (hval 2 9 v2 rfl rfl) h2
    have w2 : a2.size ≤ 140737488351232 := by rw [← size_list]; exact Sht.sized_text (j := 2) hsz (by rw [Tryz.params5]; rfl) rfl
    exact walk a0 w0 a1 w1 a2 w2 W (Sht.tabs_from _ (by kernel_rfl) (by kernel_rfl) (by kernel_rfl) W hLaid hsh)
theorem over : Rows.sheetDropsRow.holds Tryz.pinned (OpenSpec.ofChange Rows.sheetDropsSpec) :=
  OpenClaim.holds_of_wide 5 Tryz.f5 rfl rfl rfl rfl rfl rfl rfl ⟨rfl, rfl, rfl, rfl, rfl⟩ rfl rfl rfl rfl rfl (by kernel_rfl) Tryz.func5 (by kernel_rfl)
    (of_decide_eq_true (by kernel_rfl)) (by unfold Func.isWrapper; first | (rw [if_pos (by decide +kernel)]; kernel_rfl) | (rw [if_neg (by decide +kernel)]; exact ⟨rfl, rfl⟩))
    (fun os started H enc _ => lifted os started H enc)
/-- The statement. -/
theorem proved : Rows.SheetDropsCardSaid :=
  Claim7.holds_tied_plain_at .later [] [.data, .data, .data, .data, .sentinel, .sentinel, .pinned, .pinned] true (true, "95f1bcb98ec9ad10ce10727cbba62219e46680f88069e3df412f50a41cc4472c") true over (fun _ h => by cases h) (by kernel_rfl) (fun _ h => by cases h) sheetDrops_row_tie rfl ⟨rfl, rfl⟩ (by kernel_rfl) rfl
    (fun f fn hf hfn => by
      obtain rfl : f = 5 := Option.some.inj ((show Tryz.prog.funcNamed "scrim/scrimlaw10.SheetDrops" = some 5 by kernel_rfl).symm.trans hf) |>.symm
      obtain rfl : fn = Tryz.f5 := (Option.some.inj (Tryz.func5.symm.trans hfn)).symm
      exact ⟨by kernel_rfl, fun j t ht => by
        rw [Tryz.params5] at ht
        have hm : t ∈ [9, 9, 9] := by simpa using Array.mem_of_getElem? ht
        have hall : ([9, 9, 9].all fun u => !Tryz.prog.wantsStandIn u) = true := by kernel_rfl
        exact (show Tryz.prog.wantsStandIn t = false by simpa using List.all_eq_true.1 hall t hm)⟩)
    (by kernel_rfl)
end sheetDrops
end Go.Proofs.YtdfcahdipalmkaaGreatDoor
