/- Rows.SheetJoinsSaid: the row's step. Conditions: none beyond the row's own. -/
import Derived.Test.YtdfcahdipalmkaaGreatDoorSheetJoins
import Derived.Test.YtdfcahdipalmkaaGreatDoorShtT
import Derived.Test.YtdfcahdipalmkaaGreatDoorOpenU
import Derived.Test.YtdfcahdipalmkaaGreatDoorTie
import Derived.Test.YtdfcahdipalmkaaGreatDoorCards
import Derived.Test.YtdfcahdipalmkaaGreatDoorOpenS
import Derived.WalkLawsBesides
import Derived.ChangeMaps5
namespace Go.Proofs.YtdfcahdipalmkaaGreatDoor
open Go.ChangeShapes Go.WideShapes Go.ChangeAt Go.RowKit
namespace sheetJoins
/-! ### the row's step -/
theorem own : ownKnob Tryz.prog.godebug = none := by kernel_rfl
theorem laidOut : laidOutB Tryz.prog = true := by kernel_rfl
theorem rec_rules : Tryz.prog.readableRec 22 = true ∧ 22 < Tryz.prog.types.size := ⟨by kernel_rfl, of_decide_eq_true (by kernel_rfl)⟩
theorem rec_string : Tryz.prog.readableRec 9 = true ∧ 9 < Tryz.prog.types.size := ⟨by kernel_rfl, of_decide_eq_true (by kernel_rfl)⟩
theorem cells_rul : Tryz.prog.cellsOf 65 = 2 := by kernel_rfl
theorem cells_slr : Tryz.prog.cellsOf 68 = 2 := by kernel_rfl
theorem cells_sim : Tryz.prog.cellsOf 70 = 5 := by kernel_rfl
theorem cells_strx : Tryz.prog.cellsOf 9 = 1 := by kernel_rfl
theorem cells_boolx : Tryz.prog.cellsOf 4 = 1 := by kernel_rfl
theorem cells_dcl : Tryz.prog.cellsOf 54 = 4 := by kernel_rfl
theorem cells_intx : Tryz.prog.cellsOf 3 = 1 := by kernel_rfl
theorem cells_valx : Tryz.prog.cellsOf 52 = 2 := by kernel_rfl
theorem cells_i64x : Tryz.prog.cellsOf 2 = 1 := by kernel_rfl
theorem bytes_rul : Tryz.prog.bytesOf 65 = 48 := by kernel_rfl
theorem bytes_slr : Tryz.prog.bytesOf 68 = 48 := by kernel_rfl
theorem bytes_sim : Tryz.prog.bytesOf 70 = 72 := by kernel_rfl
theorem bytes_strx : Tryz.prog.bytesOf 9 = 16 := by kernel_rfl
theorem bytes_dcl : Tryz.prog.bytesOf 54 = 32 := by kernel_rfl
set_option maxRecDepth 100000 in
theorem lifted (os : Os) (started : os.Started) (H : Type) (enc : TypeId × Value → H) :
    ReturnsInHanded {} Tryz.checked os 7 .any (fun w args => (Rows.sheetJoinsSpec.pre enc Tryz.prog Tryz.f7 Rows.sheetJoinsRow.domain false w args ∧ laidMetH Tryz.prog Rows.sheetJoinsRow.laid w) ∧ sizedMet enc Tryz.prog Tryz.f7 (OpenSpec.ofChange Rows.sheetJoinsSpec) false w args) (Rows.sheetJoinsSpec.post enc Tryz.prog Tryz.f7 false true false false) := by
  refine law_liftedT (C := Tryz.checked) (enc := enc) (laid := Rows.sheetJoinsRow.laid) own started (by kernel_rfl) Tryz.func7
    (ChangeSpec.witness_shaped (enc := enc) (C := Tryz.checked) (os := os) (X := fun w _ => laidMetH Tryz.prog Rows.sheetJoinsRow.laid w) false (World.laidAll Tryz.prog os Rows.sheetJoinsRow.laid) #[.slice none 0 0, .string ⟨#[]⟩] 8 (World.laidAll_os _ _ _)
      (World.shaped_of_ZipB (by kernel_rfl) (by kernel_rfl)) (by kernel_rfl) (by kernel_rfl) (by kernel_rfl) (by rw [MakeChecks.laidMetH_plain _ _ _ (by kernel_rfl)]; exact laidMet_laidAll _ (by kernel_rfl) (by kernel_rfl)))
    laidOut ?_ rfl Tryz.underlying4 rfl ?_ ?_
  · intro t ht
    rw [Tryz.params7] at ht
    simp only [List.mem_cons, List.not_mem_nil, or_false] at ht
    rcases ht with rfl | rfl
    · exact rec_rules
    · exact rec_string
  · intro ds h
    match ds, h with
    | [d0, d1], _ => exact ⟨rfl, rfl, rfl⟩
  · intro W base args ds p hval0 hA0 hlt hsz hLaid hsh
    have hval : ∀ (j : Nat) t v, Tryz.f7.params[j]? = some t → args[j]? = some v → Value.okWide Tryz.prog W .any base t v := hval0
    have hA : DataW.TrodAll enc Tryz.prog W 0 (fun _ => true) true Tryz.f7.params.toList args.toList ds p := hA0
    rw [Tryz.params7] at hA hval
    obtain ⟨v0, vs0, d0, ds0, p0, q0, hargs, rfl, rfl, h0, r0⟩ := trodAll_cons hA
    obtain ⟨v1, vs1, d1, ds1, p1, q1, rfl, rfl, rfl, h1, r1⟩ := trodAll_cons r0
    obtain ⟨rfl, rfl, rfl⟩ := trodAll_nil r1
    obtain rfl : args = #[v0, v1] := by cases args; simp_all
    obtain ⟨A0, n0, c0, l0, rfl, m0, R0, B0, Z0⟩ := OpenSel.open_rules Tryz.underlying22 Tryz.underlying65 (by kernel_rfl) cells_rul bytes_rul Tryz.underlying63 Tryz.underlying68 (by kernel_rfl) cells_slr bytes_slr Tryz.underlying66 Tryz.underlying70 (by kernel_rfl) cells_sim bytes_sim Tryz.underlying9 Tryz.underlying49 Tryz.underlying49 Tryz.underlying4 Tryz.underlying4 Tryz.underlying9 cells_strx bytes_strx Tryz.underlying9 cells_strx bytes_strx Tryz.underlying60 Tryz.underlying4 cells_boolx Tryz.underlying36 Tryz.underlying54 cells_dcl bytes_dcl rfl cells_intx rfl cells_valx rfl cells_boolx Tryz.underlying3 Tryz.underlying52 rfl cells_intx rfl cells_i64x Tryz.underlying3 Tryz.underlying2 Tryz.underlying4 (hval 0 22 v0 rfl rfl) h0 (j := 0) hsz (by rw [Tryz.params7]; rfl) rfl
    obtain ⟨a1, rfl, rfl, rfl, w1⟩ := Go.ChangeMaps.open_string Tryz.underlying9 (hval 1 9 v1 rfl rfl) h1
    have w1 : a1.size ≤ 140737488351232 := by rw [← size_list]; exact Sht.sized_text (j := 1) hsz (by rw [Tryz.params7]; rfl) rfl
    exact walk A0 n0 c0 l0 a1 w1 W (Sht.tabs_from _ (by kernel_rfl) (by kernel_rfl) (by kernel_rfl) W hLaid hsh) m0 R0 B0 Z0
theorem over : Rows.sheetJoinsRow.holds Tryz.pinned (OpenSpec.ofChange Rows.sheetJoinsSpec) :=
  OpenClaim.holds_of_wide 7 Tryz.f7 rfl rfl rfl rfl rfl rfl rfl ⟨rfl, rfl, rfl, rfl, rfl⟩ rfl rfl rfl rfl rfl (by kernel_rfl) Tryz.func7 (by kernel_rfl)
    (of_decide_eq_true (by kernel_rfl)) (by unfold Func.isWrapper; first | (rw [if_pos (by decide +kernel)]; kernel_rfl) | (rw [if_neg (by decide +kernel)]; exact ⟨rfl, rfl⟩))
    (fun os started H enc _ => lifted os started H enc)
/-- The statement. -/
theorem proved : Rows.SheetJoinsCardSaid :=
  Claim7.holds_tied_plain_at .later [] [.data, .data, .data, .data, .sentinel, .sentinel, .pinned, .pinned] true (true, "95f1bcb98ec9ad10ce10727cbba62219e46680f88069e3df412f50a41cc4472c") true over (fun _ h => by cases h) (by kernel_rfl) (fun _ h => by cases h) sheetJoins_row_tie rfl ⟨rfl, rfl⟩ (by kernel_rfl) rfl
    (fun f fn hf hfn => by
      obtain rfl : f = 7 := Option.some.inj ((show Tryz.prog.funcNamed "scrim/scrimlaw10.SheetJoins" = some 7 by kernel_rfl).symm.trans hf) |>.symm
      obtain rfl : fn = Tryz.f7 := (Option.some.inj (Tryz.func7.symm.trans hfn)).symm
      exact ⟨by kernel_rfl, fun j t ht => by
        rw [Tryz.params7] at ht
        have hm : t ∈ [22, 9] := by simpa using Array.mem_of_getElem? ht
        have hall : ([22, 9].all fun u => !Tryz.prog.wantsStandIn u) = true := by kernel_rfl
        exact (show Tryz.prog.wantsStandIn t = false by simpa using List.all_eq_true.1 hall t hm)⟩)
    (by kernel_rfl)
end sheetJoins
end Go.Proofs.YtdfcahdipalmkaaGreatDoor
