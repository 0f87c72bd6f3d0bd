/- Rows.BlockFillsSaid: the row's step. Conditions: none beyond the row's own. -/
import Derived.Test.YtfamhjmdffaphaaBlockFills
import Derived.Test.YtfamhjmdffaphaaBlockI
import Derived.Test.YtfamhjmdffaphaaOpenY
import Derived.Test.YtfamhjmdffaphaaScanWordsC
import Derived.Test.YtfamhjmdffaphaaOpen
import Derived.Test.YtfamhjmdffaphaaLaw
import Derived.WalkLawsBesides
namespace Go.Proofs.Ytfamhjmdffaphaa
open Go.ChangeShapes Go.WideShapes Go.ChangeAt Go.RowKit
namespace blockFills
/-! ### the row's step -/
theorem own : ownKnob Try.prog.godebug = none := by kernel_rfl
theorem laidOut : laidOutB Try.prog = true := by kernel_rfl
theorem rec_i64 : Try.prog.readableRec 2 = true ∧ 2 < Try.prog.types.size := ⟨by kernel_rfl, of_decide_eq_true (by kernel_rfl)⟩
theorem rec_sty : Try.prog.readableRec 25 = true ∧ 25 < Try.prog.types.size := ⟨by kernel_rfl, of_decide_eq_true (by kernel_rfl)⟩
theorem cells_sty : Try.prog.cellsOf 25 = 54 := by kernel_rfl
theorem cells_val : Try.prog.cellsOf 23 = 2 := by kernel_rfl
set_option maxRecDepth 100000 in
theorem lifted (os : Os) (started : os.Started) (H : Type) (enc : TypeId × Value → H) :
    ReturnsInHanded {} Try.checked os 3 .any (Rows.blockFillsSpec.pre6 enc Try.prog Try.f3 Rows.blockFillsRow.domain false) (Rows.blockFillsSpec.post enc Try.prog Try.f3 false true false false) := by
  refine law_lifted (C := Try.checked) (enc := enc) own started (by kernel_rfl) Try.func3
    (ChangeSpec.witness6 (enc := enc) (C := Try.checked) false ⟨#[], #[.agg (styF fun _ => 0), .int .i64 0], []⟩ 8 (by kernel_rfl) (by kernel_rfl) (by kernel_rfl) (by kernel_rfl))
    laidOut ?_ rfl Try.underlying4 rfl ?_ ?_
  · intro t ht
    rw [Try.params3] at ht
    simp only [List.mem_cons, List.not_mem_nil, or_false] at ht
    rcases ht with rfl | rfl
    · exact rec_sty
    · exact rec_i64
  · intro ds h
    match ds, h with
    | [d0, d1], _ => exact ⟨rfl, rfl, rfl⟩
  · intro W base args ds p hval0 hA0 hlt hsz
    have hval : ∀ (j : Nat) t v, Try.f3.params[j]? = some t → args[j]? = some v → Value.okWide Try.prog W .any base t v := hval0
    have hA : DataW.TrodAll enc Try.prog W 0 (fun _ => true) true Try.f3.params.toList args.toList ds p := hA0
    rw [Try.params3] at hA hval
    obtain ⟨v0, vs0, d0, ds0, p0, q0, hargs, rfl, rfl, h0, r0⟩ := trodAll_cons hA
    obtain ⟨v1, vs1, d1, ds1, p1, q1, rfl, rfl, rfl, h1, r1⟩ := trodAll_cons r0
    obtain ⟨rfl, rfl, rfl⟩ := trodAll_nil r1
    obtain rfl : args = #[v0, v1] := by cases args; simp_all
    obtain ⟨s0_, rfl⟩ := open_sty Try.underlying25 Try.underlying23 cells_sty cells_val (by kernel_rfl) Try.underlying3 Try.underlying2 (okWide_arr Try.underlying25 (hval 0 25 v0 rfl rfl)) h0
    obtain ⟨a1, rfl, rfl, rfl, w1⟩ := open_int Try.underlying2 (hval 1 2 v1 rfl rfl) h1
    exact walk blockAwake.awake_any (Val.may_any partsW.words_any) s0_ a1 W
theorem over : Rows.blockFillsRow.holds Try.pinned (OpenSpec.ofChange Rows.blockFillsSpec) :=
  OpenClaim.holds_of_wide 3 Try.f3 rfl rfl rfl rfl rfl rfl rfl ⟨rfl, rfl, rfl, rfl, rfl⟩ rfl rfl rfl rfl rfl (by kernel_rfl) Try.func3 (by kernel_rfl)
    (of_decide_eq_true (by kernel_rfl)) (by unfold Func.isWrapper; first | (rw [if_pos (by decide +kernel)]; kernel_rfl) | (rw [if_neg (by decide +kernel)]; exact ⟨rfl, rfl⟩))
    (fun os started H enc _ => lifted os started H enc)
/-- The statement. -/
theorem proved : Rows.BlockFillsSaid := over
end blockFills
end Go.Proofs.Ytfamhjmdffaphaa
