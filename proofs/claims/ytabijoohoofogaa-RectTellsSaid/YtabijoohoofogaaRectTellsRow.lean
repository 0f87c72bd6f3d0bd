/- Rows.RectTellsSaid: the row's step. Conditions: none beyond the row's own. -/
import Derived.Test.YtabijoohoofogaaRectTells
import Derived.Test.YtabijoohoofogaaRectAll
import Derived.Test.YtabijoohoofogaaOpenR
import Derived.Test.YtabijoohoofogaaLaw
import Derived.WalkLawsBesides
namespace Go.Proofs.Ytabijoohoofogaa
open Go.ChangeShapes Go.WideShapes Go.ChangeAt Go.RowKit
namespace rectTells
/-! ### the row's step -/
theorem own : ownKnob Try.prog.godebug = none := by kernel_rfl
theorem laidOut : laidOutB Try.prog = true := by kernel_rfl
theorem rec_arr4 : Try.prog.readableRec 24 = true ∧ 24 < Try.prog.types.size := ⟨by kernel_rfl, of_decide_eq_true (by kernel_rfl)⟩
theorem rec_rect : Try.prog.readableRec 23 = true ∧ 23 < Try.prog.types.size := ⟨by kernel_rfl, of_decide_eq_true (by kernel_rfl)⟩
theorem rec_rects : Try.prog.readableRec 25 = true ∧ 25 < Try.prog.types.size := ⟨by kernel_rfl, of_decide_eq_true (by kernel_rfl)⟩
theorem cells_arr : Try.prog.cellsOf 24 = 4 := by kernel_rfl
theorem cells_rect : Try.prog.cellsOf 23 = 4 := by kernel_rfl
theorem bytes_rect : Try.prog.bytesOf 23 = 32 := by kernel_rfl
theorem cells_i64 : Try.prog.cellsOf 2 = 1 := by kernel_rfl
theorem bytes_i64 : Try.prog.bytesOf 2 = 8 := by kernel_rfl
set_option maxRecDepth 100000 in
theorem lifted (os : Os) (started : os.Started) (H : Type) (enc : TypeId × Value → H) :
    ReturnsInHanded {} Try.checked os 3 .any (Rows.rectTellsSpec.pre6 enc Try.prog Try.f3 Rows.rectTellsRow.domain false) (Rows.rectTellsSpec.post enc Try.prog Try.f3 false true false false) := by
  refine law_lifted (C := Try.checked) (enc := enc) own started (by kernel_rfl) Try.func3
    (ChangeSpec.witness6 (enc := enc) (C := Try.checked) false ⟨#[], #[.agg #[.int .i64 0, .int .i64 0, .int .i64 0, .int .i64 0], .agg #[.int .i64 0, .int .i64 0, .int .i64 0, .int .i64 0], .agg #[.int .i64 0, .int .i64 0, .int .i64 0, .int .i64 0], .slice none 0 0], []⟩ 8 (by kernel_rfl) (by kernel_rfl) (by kernel_rfl) (by kernel_rfl))
    laidOut ?_ rfl Try.underlying4 rfl ?_ ?_
  · intro t ht
    rw [Try.params3] at ht
    simp only [List.mem_cons, List.not_mem_nil, or_false] at ht
    rcases ht with rfl | rfl | rfl | rfl
    · exact rec_rect
    · exact rec_rect
    · exact rec_arr4
    · exact rec_rects
  · intro ds h
    match ds, h with
    | [d0, d1, d2, d3], _ => exact ⟨rfl, rfl, rfl⟩
  · intro W base args ds p hval0 hA0 hlt hsz
    have hval : ∀ (j : Nat) t v, Try.f3.params[j]? = some t → args[j]? = some v → Value.okWide Try.prog W .any base t v := hval0
    have hA : DataW.TrodAll enc Try.prog W 0 (fun _ => true) true Try.f3.params.toList args.toList ds p := hA0
    rw [Try.params3] at hA hval
    obtain ⟨v0, vs0, d0, ds0, p0, q0, hargs, rfl, rfl, h0, r0⟩ := trodAll_cons hA
    obtain ⟨v1, vs1, d1, ds1, p1, q1, rfl, rfl, rfl, h1, r1⟩ := trodAll_cons r0
    obtain ⟨v2, vs2, d2, ds2, p2, q2, rfl, rfl, rfl, h2, r2⟩ := trodAll_cons r1
    obtain ⟨v3, vs3, d3, ds3, p3, q3, rfl, rfl, rfl, h3, r3⟩ := trodAll_cons r2
    obtain ⟨rfl, rfl, rfl⟩ := trodAll_nil r3
    obtain rfl : args = #[v0, v1, v2, v3] := by cases args; simp_all
    obtain ⟨q0_, rfl⟩ := open_plc Try.underlying23 (by kernel_rfl) cells_rect Try.underlying2 Try.underlying2 Try.underlying2 Try.underlying2 (hval 0 23 v0 rfl rfl) h0
    obtain ⟨q1_, rfl⟩ := open_plc Try.underlying23 (by kernel_rfl) cells_rect Try.underlying2 Try.underlying2 Try.underlying2 Try.underlying2 (hval 1 23 v1 rfl rfl) h1
    obtain ⟨b20, b21, b22, b23, rfl⟩ := open_arr4 Try.underlying24 Try.underlying2 cells_arr cells_i64 (okWide_arr Try.underlying24 (hval 2 24 v2 rfl rfl)) h2
    obtain ⟨A3, n3, c3, l3, rfl, m3, R3⟩ := open_plcs Try.underlying25 Try.underlying23 (by kernel_rfl) cells_rect Try.underlying2 Try.underlying2 Try.underlying2 Try.underlying2 (hval 3 25 v3 rfl rfl) h3 bytes_rect (j := 3) hsz (by rw [Try.params3]; rfl) rfl
    exact walk awake2_any may_any has_any move_any inset_any union_any meet_any q0_ q1_ b20 b21 b22 b23 A3 n3 c3 l3 W (by omega) R3
theorem over : Rows.rectTellsRow.holds Try.pinned (OpenSpec.ofChange Rows.rectTellsSpec) :=
  OpenClaim.holds_of_wide 3 Try.f3 rfl rfl rfl rfl rfl rfl rfl ⟨rfl, rfl, rfl, rfl, rfl⟩ rfl rfl rfl rfl rfl (by kernel_rfl) Try.func3 (by kernel_rfl)
    (of_decide_eq_true (by kernel_rfl)) (by unfold Func.isWrapper; first | (rw [if_pos (by decide +kernel)]; kernel_rfl) | (rw [if_neg (by decide +kernel)]; exact ⟨rfl, rfl⟩))
    (fun os started H enc _ => lifted os started H enc)
/-- The statement. -/
theorem proved : Rows.RectTellsSaid := over
end rectTells
end Go.Proofs.Ytabijoohoofogaa
