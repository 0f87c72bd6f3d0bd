/- Rows.ResTellsSaid: the row's step. Conditions: none beyond the row's own. -/
import Derived.Test.YtibpjfeghpmoiaaResTells
import Derived.Test.YtibpjfeghpmoiaaResOpen
import Derived.Test.YtibpjfeghpmoiaaOpen
import Derived.Test.YtibpjfeghpmoiaaLaw
import Derived.WalkLawsBesides
import Derived.ChangeMaps5
namespace Go.Proofs.Ytibpjfeghpmoiaa
open Go.ChangeShapes Go.WideShapes Go.ChangeAt Go.RowKit
namespace resTells
/-! ### the row's step -/
theorem own : ownKnob Try.prog.godebug = none := by kernel_rfl
theorem laidOut : laidOutB Try.prog = true := by kernel_rfl
theorem rec_string : Try.prog.readableRec 9 = true ∧ 9 < Try.prog.types.size := ⟨by kernel_rfl, of_decide_eq_true (by kernel_rfl)⟩
theorem rec_tab : Try.prog.readableRec 26 = true ∧ 26 < Try.prog.types.size := ⟨by kernel_rfl, of_decide_eq_true (by kernel_rfl)⟩
theorem cells_tab : Try.prog.cellsOf 26 = 3 := by kernel_rfl
theorem cells_imgs : Try.prog.cellsOf 22 = 1 := by kernel_rfl
theorem cells_img : Try.prog.cellsOf 47 = 4 := by kernel_rfl
theorem cells_font : Try.prog.cellsOf 24 = 2 := by kernel_rfl
theorem cells_bool1 : Try.prog.cellsOf 4 = 1 := by kernel_rfl
theorem cells_i64 : Try.prog.cellsOf 2 = 1 := by kernel_rfl
set_option maxRecDepth 100000 in
theorem lifted (os : Os) (started : os.Started) (H : Type) (enc : TypeId × Value → H) :
    ReturnsInHanded {} Try.checked os 3 .any (Rows.resTellsSpec.pre6 enc Try.prog Try.f3 Rows.resTellsRow.domain false) (Rows.resTellsSpec.post enc Try.prog Try.f3 false true false false) := by
  refine law_lifted (C := Try.checked) (enc := enc) own started (by kernel_rfl) Try.func3
    (ChangeSpec.witness6 (enc := enc) (C := Try.checked) false ⟨#[], #[.agg #[.slice none 0 0, .int .i64 0, .bool false], .agg #[.slice none 0 0, .int .i64 0, .bool false], .string ⟨#[]⟩], []⟩ 8 (by kernel_rfl) (by kernel_rfl) (by kernel_rfl) (by kernel_rfl))
    laidOut ?_ rfl Try.underlying4 rfl ?_ ?_
  · intro t ht
    rw [Try.params3] at ht
    simp only [List.mem_cons, List.not_mem_nil, or_false] at ht
    rcases ht with rfl | rfl | rfl
    · exact rec_tab
    · exact rec_tab
    · exact rec_string
  · intro ds h
    match ds, h with
    | [d0, d1, d2], _ => exact ⟨rfl, rfl, rfl⟩
  · intro W base args ds p hval0 hA0 hlt hsz
    have hval : ∀ (j : Nat) t v, Try.f3.params[j]? = some t → args[j]? = some v → Value.okWide Try.prog W .any base t v := hval0
    have hA : DataW.TrodAll enc Try.prog W 0 (fun _ => true) true Try.f3.params.toList args.toList ds p := hA0
    rw [Try.params3] at hA hval
    obtain ⟨v0, vs0, d0, ds0, p0, q0, hargs, rfl, rfl, h0, r0⟩ := trodAll_cons hA
    obtain ⟨v1, vs1, d1, ds1, p1, q1, rfl, rfl, rfl, h1, r1⟩ := trodAll_cons r0
    obtain ⟨v2, vs2, d2, ds2, p2, q2, rfl, rfl, rfl, h2, r2⟩ := trodAll_cons r1
    obtain ⟨rfl, rfl, rfl⟩ := trodAll_nil r2
    obtain rfl : args = #[v0, v1, v2] := by cases args; simp_all
    obtain ⟨A0, n0, c0, l0, a0, o0, rfl, m0, R0⟩ := open_tab Try.underlying26 cells_tab rfl rfl cells_imgs cells_font Try.underlying22 Try.underlying47 (by kernel_rfl) cells_img Try.underlying9 Try.underlying2 Try.underlying2 Try.underlying4 Try.underlying24 rfl rfl cells_i64 cells_bool1 Try.underlying2 Try.underlying4 (hval 0 26 v0 rfl rfl) h0
    obtain ⟨A1, n1, c1, l1, a1, o1, rfl, m1, R1⟩ := open_tab Try.underlying26 cells_tab rfl rfl cells_imgs cells_font Try.underlying22 Try.underlying47 (by kernel_rfl) cells_img Try.underlying9 Try.underlying2 Try.underlying2 Try.underlying4 Try.underlying24 rfl rfl cells_i64 cells_bool1 Try.underlying2 Try.underlying4 (hval 1 26 v1 rfl rfl) h1
    obtain ⟨a2, rfl, rfl, rfl, w2⟩ := Go.ChangeMaps.open_string Try.underlying9 (hval 2 9 v2 rfl rfl) h2
    exact walk A0 n0 c0 l0 a0 o0 A1 n1 c1 l1 a1 o1 a2 W R0 R1 m0 m1
theorem over : Rows.resTellsRow.holds Try.pinned (OpenSpec.ofChange Rows.resTellsSpec) :=
  OpenClaim.holds_of_wide 3 Try.f3 rfl rfl rfl rfl rfl rfl rfl ⟨rfl, rfl, rfl, rfl, rfl⟩ rfl rfl rfl rfl rfl (by kernel_rfl) Try.func3 (by kernel_rfl)
    (of_decide_eq_true (by kernel_rfl)) (by unfold Func.isWrapper; first | (rw [if_pos (by decide +kernel)]; kernel_rfl) | (rw [if_neg (by decide +kernel)]; exact ⟨rfl, rfl⟩))
    (fun os started H enc _ => lifted os started H enc)
/-- The statement. -/
theorem proved : Rows.ResTellsSaid := over
end resTells
end Go.Proofs.Ytibpjfeghpmoiaa
