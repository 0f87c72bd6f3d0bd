/- Rows.BlockStacksSaid: the row's step. Conditions: none beyond the row's own. -/
import Derived.Test.YticenmaephhniaaBlockStacks
import Derived.Test.YticenmaephhniaaBlockI
import Derived.Test.YticenmaephhniaaOpenK
import Derived.Test.YticenmaephhniaaOpen
import Derived.Test.YticenmaephhniaaLaw
import Derived.WalkLawsBesides
namespace Go.Proofs.Yticenmaephhniaa
open Go.ChangeShapes Go.WideShapes Go.ChangeAt Go.RowKit
namespace blockStacks
/-! ### the row's step -/
theorem own : ownKnob Try.prog.godebug = none := by kernel_rfl
theorem laidOut : laidOutB Try.prog = true := by kernel_rfl
theorem rec_bis : Try.prog.readableRec 27 = true ∧ 27 < Try.prog.types.size := ⟨by kernel_rfl, of_decide_eq_true (by kernel_rfl)⟩
theorem cells_bi : Try.prog.cellsOf 32 = 3 := by kernel_rfl
theorem bytes_bi : Try.prog.bytesOf 32 = 24 := by kernel_rfl
set_option maxRecDepth 100000 in
theorem lifted (os : Os) (started : os.Started) (H : Type) (enc : TypeId × Value → H) :
    ReturnsInHanded {} Try.checked os 4 .any (Rows.blockStacksSpec.pre6 enc Try.prog Try.f4 Rows.blockStacksRow.domain false) (Rows.blockStacksSpec.post enc Try.prog Try.f4 false true false false) := by
  refine law_lifted (C := Try.checked) (enc := enc) own started (by kernel_rfl) Try.func4
    (ChangeSpec.witness6 (enc := enc) (C := Try.checked) false ⟨#[], #[.slice none 0 0], []⟩ 8 (by kernel_rfl) (by kernel_rfl) (by kernel_rfl) (by kernel_rfl))
    laidOut ?_ rfl Try.underlying4 rfl ?_ ?_
  · intro t ht
    rw [Try.params4] at ht
    simp only [List.mem_cons, List.not_mem_nil, or_false] at ht
    obtain rfl := ht
    exact rec_bis
  · intro ds h
    match ds, h with
    | [d0], _ => exact ⟨rfl, rfl, rfl⟩
  · intro W base args ds p hval0 hA0 hlt hsz
    have hval : ∀ (j : Nat) t v, Try.f4.params[j]? = some t → args[j]? = some v → Value.okWide Try.prog W .any base t v := hval0
    have hA : DataW.TrodAll enc Try.prog W 0 (fun _ => true) true Try.f4.params.toList args.toList ds p := hA0
    rw [Try.params4] at hA hval
    obtain ⟨v0, vs0, d0, ds0, p0, q0, hargs, rfl, rfl, h0, r0⟩ := trodAll_cons hA
    obtain ⟨rfl, rfl, rfl⟩ := trodAll_nil r0
    obtain rfl : args = #[v0] := by cases args; simp_all
    obtain ⟨A0, n0, c0, l0, rfl, m0, R0⟩ := open_bis Try.underlying27 Try.underlying32 (by kernel_rfl) cells_bi Try.underlying2 Try.underlying2 Try.underlying2 (hval 0 27 v0 rfl rfl) h0 bytes_bi (j := 0) hsz (by rw [Try.params4]; rfl) rfl
    exact walk blockAwake.awake_any A0 n0 c0 l0 W (by omega) R0
theorem over : Rows.blockStacksRow.holds Try.pinned (OpenSpec.ofChange Rows.blockStacksSpec) :=
  OpenClaim.holds_of_wide 4 Try.f4 rfl rfl rfl rfl rfl rfl rfl ⟨rfl, rfl, rfl, rfl, rfl⟩ rfl rfl rfl rfl rfl (by kernel_rfl) Try.func4 (by kernel_rfl)
    (of_decide_eq_true (by kernel_rfl)) (by unfold Func.isWrapper; first | (rw [if_pos (by decide +kernel)]; kernel_rfl) | (rw [if_neg (by decide +kernel)]; exact ⟨rfl, rfl⟩))
    (fun os started H enc _ => lifted os started H enc)
/-- The statement. -/
theorem proved : Rows.BlockStacksSaid := over
end blockStacks
end Go.Proofs.Yticenmaephhniaa
