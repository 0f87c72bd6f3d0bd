/- Rows.TreeMaySaid: the row's step. Conditions: none beyond the row's own. -/
import Derived.Test.YteopighhhcikcaaGreatDoorTreeMay
import Derived.Test.YteopighhhcikcaaGreatDoorOpenT
import Derived.Test.YteopighhhcikcaaGreatDoorTie
import Derived.Test.YteopighhhcikcaaGreatDoorCards
import Derived.Test.YteopighhhcikcaaGreatDoorLawT
import Derived.Test.YteopighhhcikcaaGreatDoorOpen
import Derived.Test.YteopighhhcikcaaGreatDoorLaw
import Derived.WalkLawsBesides
import Derived.ChangeMaps5
namespace Go.Proofs.YteopighhhcikcaaGreatDoor
open Go.ChangeShapes Go.WideShapes Go.ChangeAt Go.RowKit
namespace treeMay
/-! ### the row's step -/
theorem own : ownKnob Tryz.prog.godebug = none := by kernel_rfl
theorem laidOut : laidOutB Tryz.prog = true := by kernel_rfl
theorem rec_string : Tryz.prog.readableRec 9 = true ∧ 9 < Tryz.prog.types.size := ⟨by kernel_rfl, of_decide_eq_true (by kernel_rfl)⟩
theorem rec_toks : Tryz.prog.readableRec 23 = true ∧ 23 < Tryz.prog.types.size := ⟨by kernel_rfl, of_decide_eq_true (by kernel_rfl)⟩
theorem cells_tok : Tryz.prog.cellsOf 38 = 4 := by kernel_rfl
theorem bytes_tok : Tryz.prog.bytesOf 38 = 64 := by kernel_rfl
theorem cells_at : Tryz.prog.cellsOf 41 = 2 := by kernel_rfl
theorem bytes_at : Tryz.prog.bytesOf 41 = 32 := by kernel_rfl
set_option maxRecDepth 100000 in
theorem lifted (os : Os) (started : os.Started) (H : Type) (enc : TypeId × Value → H) :
    ReturnsInHanded {} Tryz.checked os 7 .any (fun w args => (Rows.treeMaySpec.pre enc Tryz.prog Tryz.f7 Rows.treeMayRow.domain false w args ∧ laidMetH Tryz.prog Rows.treeMayRow.laid w) ∧ sizedMet enc Tryz.prog Tryz.f7 (OpenSpec.ofChange Rows.treeMaySpec) false w args) (Rows.treeMaySpec.post enc Tryz.prog Tryz.f7 false true false false) := by
  refine law_liftedT (C := Tryz.checked) (enc := enc) (laid := Rows.treeMayRow.laid) own started (by kernel_rfl) Tryz.func7
    (ChangeSpec.witness_shaped (enc := enc) (C := Tryz.checked) (os := os) (X := fun w _ => laidMetH Tryz.prog Rows.treeMayRow.laid w) false (World.laidAll Tryz.prog os Rows.treeMayRow.laid) #[.slice none 0 0, .string ⟨#[]⟩] 8 (World.laidAll_os _ _ _)
      (World.shaped_of_ZipB (by kernel_rfl) (by kernel_rfl)) (by kernel_rfl) (by kernel_rfl) (by kernel_rfl) (by rw [MakeChecks.laidMetH_plain _ _ _ (by kernel_rfl)]; exact laidMet_laidAll _ (by kernel_rfl) (by kernel_rfl)))
    laidOut ?_ rfl Tryz.underlying4 rfl ?_ ?_
  · intro t ht
    rw [Tryz.params7] at ht
    simp only [List.mem_cons, List.not_mem_nil, or_false] at ht
    rcases ht with rfl | rfl
    · exact rec_toks
    · exact rec_string
  · intro ds h
    match ds, h with
    | [d0, d1], _ => exact ⟨rfl, rfl, rfl⟩
  · intro W base args ds p hval0 hA0 hlt hsz hLaid hsh
    have hval : ∀ (j : Nat) t v, Tryz.f7.params[j]? = some t → args[j]? = some v → Value.okWide Tryz.prog W .any base t v := hval0
    have hA : DataW.TrodAll enc Tryz.prog W 0 (fun _ => true) true Tryz.f7.params.toList args.toList ds p := hA0
    rw [Tryz.params7] at hA hval
    obtain ⟨v0, vs0, d0, ds0, p0, q0, hargs, rfl, rfl, h0, r0⟩ := trodAll_cons hA
    obtain ⟨v1, vs1, d1, ds1, p1, q1, rfl, rfl, rfl, h1, r1⟩ := trodAll_cons r0
    obtain ⟨rfl, rfl, rfl⟩ := trodAll_nil r1
    obtain rfl : args = #[v0, v1] := by cases args; simp_all
    obtain ⟨A0, n0, c0, l0, rfl, m0, R0, W0⟩ := open_toks Tryz.underlying23 Tryz.underlying38 (by kernel_rfl) cells_tok Tryz.underlying3 Tryz.underlying9 Tryz.underlying9 Tryz.underlying36 Tryz.underlying41 (by kernel_rfl) cells_at Tryz.underlying9 Tryz.underlying9 bytes_at (hval 0 23 v0 rfl rfl) h0 bytes_tok (j := 0) hsz (by rw [Tryz.params7]; rfl) rfl
    obtain ⟨a1, rfl, rfl, rfl, w1⟩ := Go.ChangeMaps.open_string Tryz.underlying9 (hval 1 9 v1 rfl rfl) h1
    exact walk A0 n0 c0 l0 a1 w1 W (by omega) R0 W0
theorem over : Rows.treeMayRow.holds Tryz.pinned (OpenSpec.ofChange Rows.treeMaySpec) :=
  OpenClaim.holds_of_wide 7 Tryz.f7 rfl rfl rfl rfl rfl rfl rfl ⟨rfl, rfl, rfl, rfl, rfl⟩ rfl rfl rfl rfl rfl (by kernel_rfl) Tryz.func7 (by kernel_rfl)
    (of_decide_eq_true (by kernel_rfl)) (by unfold Func.isWrapper; first | (rw [if_pos (by decide +kernel)]; kernel_rfl) | (rw [if_neg (by decide +kernel)]; exact ⟨rfl, rfl⟩))
    (fun os started H enc _ => lifted os started H enc)
/-- The statement. -/
theorem proved : Rows.TreeMayCardSaid :=
  Claim7.holds_tied_plain_at .later [] [.data, .pinned, .pinned] true (true, "20ec211b225f0faa80b3cba095bba70e00a58fb418b118b30755f2d06ad29fac") true over (fun _ h => by cases h) (by kernel_rfl) (fun _ h => by cases h) treeMay_row_tie rfl ⟨rfl, rfl⟩ (by kernel_rfl) rfl
    (fun f fn hf hfn => by
      obtain rfl : f = 7 := Option.some.inj ((show Tryz.prog.funcNamed "scrim/scrimlaw05.TreeMay" = some 7 by kernel_rfl).symm.trans hf) |>.symm
      obtain rfl : fn = Tryz.f7 := (Option.some.inj (Tryz.func7.symm.trans hfn)).symm
      exact ⟨by kernel_rfl, fun j t ht => by
        rw [Tryz.params7] at ht
        have hm : t ∈ [23, 9] := by simpa using Array.mem_of_getElem? ht
        have hall : ([23, 9].all fun u => !Tryz.prog.wantsStandIn u) = true := by kernel_rfl
        exact (show Tryz.prog.wantsStandIn t = false by simpa using List.all_eq_true.1 hall t hm)⟩)
    (by kernel_rfl)
end treeMay
end Go.Proofs.YteopighhhcikcaaGreatDoor
