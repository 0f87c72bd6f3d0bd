/- Rows.SelectorTellsSaid: the row's step. Conditions: none beyond the row's own. -/
import Derived.Test.YthacboofbbfmlaaGreatDoorSelectorTells
import Derived.Test.YthacboofbbfmlaaGreatDoorOpenSel
import Derived.Test.YthacboofbbfmlaaGreatDoorTie
import Derived.Test.YthacboofbbfmlaaGreatDoorCards
import Derived.Test.YthacboofbbfmlaaGreatDoorLawT
import Derived.Test.YthacboofbbfmlaaGreatDoorOpen
import Derived.Test.YthacboofbbfmlaaGreatDoorLaw
import Derived.WalkLawsBesides
import Derived.ChangeMaps5
namespace Go.Proofs.YthacboofbbfmlaaGreatDoor
open Go.ChangeShapes Go.WideShapes Go.ChangeAt Go.RowKit
namespace selectorTells
/-! ### the row's step -/
theorem own : ownKnob Tryz.prog.godebug = none := by kernel_rfl
theorem laidOut : laidOutB Tryz.prog = true := by kernel_rfl
theorem rec_sel : Tryz.prog.readableRec 25 = true ∧ 25 < Tryz.prog.types.size := ⟨by kernel_rfl, of_decide_eq_true (by kernel_rfl)⟩
theorem rec_string : Tryz.prog.readableRec 9 = true ∧ 9 < Tryz.prog.types.size := ⟨by kernel_rfl, of_decide_eq_true (by kernel_rfl)⟩
theorem cells_slr : Tryz.prog.cellsOf 25 = 2 := by kernel_rfl
theorem cells_sims : Tryz.prog.cellsOf 22 = 1 := by kernel_rfl
theorem cells_bools : Tryz.prog.cellsOf 23 = 1 := by kernel_rfl
theorem cells_sim : Tryz.prog.cellsOf 53 = 5 := by kernel_rfl
theorem cells_strx : Tryz.prog.cellsOf 9 = 1 := by kernel_rfl
theorem cells_boolx : Tryz.prog.cellsOf 4 = 1 := by kernel_rfl
theorem bytes_sim : Tryz.prog.bytesOf 53 = 72 := by kernel_rfl
theorem bytes_strx : Tryz.prog.bytesOf 9 = 16 := by kernel_rfl
set_option maxRecDepth 100000 in
theorem lifted (os : Os) (started : os.Started) (H : Type) (enc : TypeId × Value → H) :
    ReturnsInHanded {} Tryz.checked os 3 .any (fun w args => (Rows.selectorTellsSpec.pre enc Tryz.prog Tryz.f3 Rows.selectorTellsRow.domain false w args ∧ laidMetH Tryz.prog Rows.selectorTellsRow.laid w) ∧ sizedMet enc Tryz.prog Tryz.f3 (OpenSpec.ofChange Rows.selectorTellsSpec) false w args) (Rows.selectorTellsSpec.post enc Tryz.prog Tryz.f3 false true false false) := by
  refine law_liftedT (C := Tryz.checked) (enc := enc) (laid := Rows.selectorTellsRow.laid) own started (by kernel_rfl) Tryz.func3
    (ChangeSpec.witness_shaped (enc := enc) (C := Tryz.checked) (os := os) (X := fun w _ => laidMetH Tryz.prog Rows.selectorTellsRow.laid w) false (World.laidAll Tryz.prog os Rows.selectorTellsRow.laid) #[.string ⟨#[]⟩, .agg #[.slice none 0 0, .slice none 0 0], .agg #[.slice none 0 0, .slice none 0 0]] 8 (World.laidAll_os _ _ _)
      (World.shaped_of_ZipB (by kernel_rfl) (by kernel_rfl)) (by kernel_rfl) (by kernel_rfl) (by kernel_rfl) (by rw [MakeChecks.laidMetH_plain _ _ _ (by kernel_rfl)]; exact laidMet_laidAll _ (by kernel_rfl) (by kernel_rfl)))
    laidOut ?_ rfl Tryz.underlying4 rfl ?_ ?_
  · intro t ht
    rw [Tryz.params3] at ht
    simp only [List.mem_cons, List.not_mem_nil, or_false] at ht
    rcases ht with rfl | rfl | rfl
    · exact rec_string
    · exact rec_sel
    · exact rec_sel
  · intro ds h
    match ds, h with
    | [d0, d1, d2], _ => exact ⟨rfl, rfl, rfl⟩
  · intro W base args ds p hval0 hA0 hlt hsz hLaid hsh
    have hval : ∀ (j : Nat) t v, Tryz.f3.params[j]? = some t → args[j]? = some v → Value.okWide Tryz.prog W .any base t v := hval0
    have hA : DataW.TrodAll enc Tryz.prog W 0 (fun _ => true) true Tryz.f3.params.toList args.toList ds p := hA0
    rw [Tryz.params3] at hA hval
    obtain ⟨v0, vs0, d0, ds0, p0, q0, hargs, rfl, rfl, h0, r0⟩ := trodAll_cons hA
    obtain ⟨v1, vs1, d1, ds1, p1, q1, rfl, rfl, rfl, h1, r1⟩ := trodAll_cons r0
    obtain ⟨v2, vs2, d2, ds2, p2, q2, rfl, rfl, rfl, h2, r2⟩ := trodAll_cons r1
    obtain ⟨rfl, rfl, rfl⟩ := trodAll_nil r2
    obtain rfl : args = #[v0, v1, v2] := by cases args; simp_all
    obtain ⟨a0, rfl, rfl, rfl, w0⟩ := Go.ChangeMaps.open_string Tryz.underlying9 (hval 0 9 v0 rfl rfl) h0
    obtain ⟨A1, n1, c1, K1, m1, e1, x1, rfl, R1, Q1, N1, M1, B1⟩ := OpenSel.open_sel Tryz.underlying25 cells_slr rfl rfl cells_sims cells_bools Tryz.underlying22 Tryz.underlying53 (by kernel_rfl) cells_sim bytes_sim Tryz.underlying9 Tryz.underlying50 Tryz.underlying50 Tryz.underlying4 Tryz.underlying4 Tryz.underlying9 cells_strx bytes_strx Tryz.underlying9 cells_strx bytes_strx Tryz.underlying23 Tryz.underlying4 cells_boolx (hval 1 25 v1 rfl rfl) h1 (j := 1) hsz (by rw [Tryz.params3]; rfl) rfl
    obtain ⟨A2, n2, c2, K2, m2, e2, x2, rfl, R2, Q2, N2, M2, B2⟩ := OpenSel.open_sel Tryz.underlying25 cells_slr rfl rfl cells_sims cells_bools Tryz.underlying22 Tryz.underlying53 (by kernel_rfl) cells_sim bytes_sim Tryz.underlying9 Tryz.underlying50 Tryz.underlying50 Tryz.underlying4 Tryz.underlying4 Tryz.underlying9 cells_strx bytes_strx Tryz.underlying9 cells_strx bytes_strx Tryz.underlying23 Tryz.underlying4 cells_boolx (hval 2 25 v2 rfl rfl) h2 (j := 2) hsz (by rw [Tryz.params3]; rfl) rfl
    exact walk a0 w0 A1 n1 c1 K1 m1 e1 x1 A2 n2 c2 K2 m2 e2 x2 W R1 Q1 N1 B1 R2 Q2 N2 B2
theorem over : Rows.selectorTellsRow.holds Tryz.pinned (OpenSpec.ofChange Rows.selectorTellsSpec) :=
  OpenClaim.holds_of_wide 3 Tryz.f3 rfl rfl rfl rfl rfl rfl rfl ⟨rfl, rfl, rfl, rfl, rfl⟩ rfl rfl rfl rfl rfl (by kernel_rfl) Tryz.func3 (by kernel_rfl)
    (of_decide_eq_true (by kernel_rfl)) (by unfold Func.isWrapper; first | (rw [if_pos (by decide +kernel)]; kernel_rfl) | (rw [if_neg (by decide +kernel)]; exact ⟨rfl, rfl⟩))
    (fun os started H enc _ => lifted os started H enc)
/-- The statement. -/
theorem proved : Rows.SelectorTellsCardSaid :=
  Claim7.holds_tied_plain_at .later [] [.data, .pinned, .pinned] true (true, "66ea4da8351c96ec80b093b7231e9112676f2c0266d5dc3b64924b891bd2283f") false over (fun _ h => by cases h) (by kernel_rfl) (fun _ h => by cases h) selectorTells_row_tie rfl ⟨rfl, rfl⟩ (by kernel_rfl) rfl
    (fun f fn hf hfn => by
      obtain rfl : f = 3 := Option.some.inj ((show Tryz.prog.funcNamed "scrim/scrimlaw09.SelectorTells" = some 3 by kernel_rfl).symm.trans hf) |>.symm
      obtain rfl : fn = Tryz.f3 := (Option.some.inj (Tryz.func3.symm.trans hfn)).symm
      exact ⟨by kernel_rfl, fun j t ht => by
        rw [Tryz.params3] at ht
        have hm : t ∈ [9, 25, 25] := by simpa using Array.mem_of_getElem? ht
        have hall : ([9, 25, 25].all fun u => !Tryz.prog.wantsStandIn u) = true := by kernel_rfl
        exact (show Tryz.prog.wantsStandIn t = false by simpa using List.all_eq_true.1 hall t hm)⟩)
    (by kernel_rfl)
end selectorTells
end Go.Proofs.YthacboofbbfmlaaGreatDoor
