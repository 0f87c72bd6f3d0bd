/- Rows.FixedRisesSaid: whatever five numbers, FixedRises returns true, and the arguments read as they did. Conditions: none beyond the row's own. -/
import Derived.Test.YtlokmmhdoocmeaaFixAwake
import Derived.Test.YtlokmmhdoocmeaaFixMath2
import Derived.Test.YtlokmmhdoocmeaaLaw
import Derived.WalkLawsBesides
namespace Go.Proofs.Ytlokmmhdoocmeaa
open Go.ChangeShapes Go.WideShapes Go.ChangeAt Go.RowKit
namespace fixedRises
set_option maxHeartbeats 1000000 in
set_option maxRecDepth 100000 in
/-- The walk behind the exchange: a is no more than b, m is the greater of c and 0. -/
theorem walk (a0 a1 a2 a3 a4 : Int) (w : World) :
    Calls Try.prog 5 #[.int .i64 a0, .int .i64 a1, .int .i64 a2, .int .i64 a3, .int .i64 a4] w fun e w' => e = .returned (.bool true) ∧ Below w.heap.size w w' := by
  obtain ⟨a, b, hab, hs⟩ : ∃ a b : Int, a ≤ b ∧ ((¬ a1 < a0 ∧ a = a0 ∧ b = a1) ∨ (a1 < a0 ∧ a = a1 ∧ b = a0)) := by
    by_cases h : a1 < a0
    · exact ⟨a1, a0, by omega, Or.inr ⟨h, rfl, rfl⟩⟩
    · exact ⟨a0, a1, by omega, Or.inl ⟨h, rfl, rfl⟩⟩
  obtain ⟨m, hm0, hm⟩ : ∃ m : Int, 0 ≤ m ∧ ((a2 < 0 ∧ m = 0) ∨ (0 ≤ a2 ∧ m = a2)) := by
    by_cases h : a2 < 0
    · exact ⟨0, by omega, Or.inl ⟨h, rfl⟩⟩
    · exact ⟨a2, by omega, Or.inr ⟨by omega, rfl⟩⟩
  have c1 := fun w => add_any a a2 w
  have c2 := fun w => add_any b a2 w
  have c3 := fun w => mul_any a m w
  have c4 := fun w => mul_any b m w
  have c5 := fun w => part_any a a3 a4 w
  have c6 := fun w => part_any b a3 a4 w
  have b1 := add2_mono a2 hab
  have b2 := mul2_mono hm0 hab
  have b3 := part2_mono a3 a4 hab
  generalize add2 a a2 = s at *
  generalize add2 b a2 = t at *
  generalize mul2 a m = u at *
  generalize mul2 b m = v at *
  generalize part2 a a3 a4 = p at *
  generalize part2 b a3 a4 = q at *
  generalize addOk a a2 = s' at *
  generalize addOk b a2 = t' at *
  generalize mulOk a m = u' at *
  generalize mulOk b m = v' at *
  generalize partOk a a3 a4 = p' at *
  generalize partOk b a3 a4 = q' at *
  rcases hs with ⟨hlt, rfl, rfl⟩ | ⟨hlt, rfl, rfl⟩ <;> rcases hm with ⟨hc, rfl⟩ | ⟨hc, rfl⟩
  all_goals
    go_enter Try.func5, Try.ntmps5
    go_wp2_with (first
      | (go_at_call 8; refine (awake_any _).mono ?_; rintro e w1 ⟨rfl, hb⟩)
      | (go_at_call 11; (first | (with_reducible refine (c1 _).mono ?_) | (with_reducible refine (c2 _).mono ?_)); rintro e w' ⟨rfl, rfl⟩)
      | (go_at_call 15; (first | (with_reducible refine (c3 _).mono ?_) | (with_reducible refine (c4 _).mono ?_)); rintro e w' ⟨rfl, rfl⟩)
      | (go_at_call 17; (with_reducible refine (c5 _).mono ?_); rintro e w2 ⟨rfl, hb2⟩)
      | (go_at_call 17; (with_reducible refine (c6 _).mono ?_); rintro e w3 ⟨rfl, hb3⟩))
    go_ret
    exact ⟨rfl, (hb.trans (hb2.mono hb.size)).trans (hb3.mono (Nat.le_trans hb.size hb2.size))⟩
/-! ### the row's step -/
theorem own : ownKnob Try.prog.godebug = none := by kernel_rfl
theorem laidOut : laidOutB Try.prog = true := by kernel_rfl
theorem rec_i64 : Try.prog.readableRec 2 = true ∧ 2 < Try.prog.types.size := ⟨by kernel_rfl, of_decide_eq_true (by kernel_rfl)⟩
set_option maxRecDepth 100000 in
theorem lifted (os : Os) (started : os.Started) (H : Type) (enc : TypeId × Value → H) :
    ReturnsInHanded {} Try.checked os 5 .any (Rows.fixedRisesSpec.pre6 enc Try.prog Try.f5 Rows.fixedRisesRow.domain false) (Rows.fixedRisesSpec.post enc Try.prog Try.f5 false true false false) := by
  refine law_lifted (C := Try.checked) (enc := enc) own started (by kernel_rfl) Try.func5
    (ChangeSpec.witness6 (enc := enc) (C := Try.checked) false ⟨#[], #[.int .i64 0, .int .i64 0, .int .i64 0, .int .i64 0, .int .i64 0], []⟩ 8 (by kernel_rfl) (by kernel_rfl) (by kernel_rfl) (by kernel_rfl))
    laidOut ?_ rfl Try.underlying4 rfl ?_ ?_
  · intro t ht
    rw [Try.params5] at ht
    simp only [List.mem_cons, List.not_mem_nil, or_false] at ht
    rcases ht with rfl | rfl | rfl | rfl | rfl
    · exact rec_i64
    · exact rec_i64
    · exact rec_i64
    · exact rec_i64
    · exact rec_i64
  · intro ds h
    match ds, h with
    | [d0, d1, d2, d3, d4], _ => exact ⟨rfl, rfl, rfl⟩
  · intro W base args ds p hval0 hA0 hlt hsz
    have hval : ∀ (j : Nat) t v, Try.f5.params[j]? = some t → args[j]? = some v → Value.okWide Try.prog W .any base t v := hval0
    have hA : DataW.TrodAll enc Try.prog W 0 (fun _ => true) true Try.f5.params.toList args.toList ds p := hA0
    rw [Try.params5] at hA hval
    obtain ⟨v0, vs0, d0, ds0, p0, q0, hargs, rfl, rfl, h0, r0⟩ := trodAll_cons hA
    obtain ⟨v1, vs1, d1, ds1, p1, q1, rfl, rfl, rfl, h1, r1⟩ := trodAll_cons r0
    obtain ⟨v2, vs2, d2, ds2, p2, q2, rfl, rfl, rfl, h2, r2⟩ := trodAll_cons r1
    obtain ⟨v3, vs3, d3, ds3, p3, q3, rfl, rfl, rfl, h3, r3⟩ := trodAll_cons r2
    obtain ⟨v4, vs4, d4, ds4, p4, q4, rfl, rfl, rfl, h4, r4⟩ := trodAll_cons r3
    obtain ⟨rfl, rfl, rfl⟩ := trodAll_nil r4
    obtain rfl : args = #[v0, v1, v2, v3, v4] := by cases args; simp_all
    obtain ⟨a0, rfl, rfl, rfl, w0⟩ := open_int Try.underlying2 (hval 0 2 v0 rfl rfl) h0
    obtain ⟨a1, rfl, rfl, rfl, w1⟩ := open_int Try.underlying2 (hval 1 2 v1 rfl rfl) h1
    obtain ⟨a2, rfl, rfl, rfl, w2⟩ := open_int Try.underlying2 (hval 2 2 v2 rfl rfl) h2
    obtain ⟨a3, rfl, rfl, rfl, w3⟩ := open_int Try.underlying2 (hval 3 2 v3 rfl rfl) h3
    obtain ⟨a4, rfl, rfl, rfl, w4⟩ := open_int Try.underlying2 (hval 4 2 v4 rfl rfl) h4
    exact walk a0 a1 a2 a3 a4 W
theorem over : Rows.fixedRisesRow.holds Try.pinned (OpenSpec.ofChange Rows.fixedRisesSpec) :=
  OpenClaim.holds_of_wide 5 Try.f5 rfl rfl rfl rfl rfl rfl rfl ⟨rfl, rfl, rfl, rfl, rfl⟩ rfl rfl rfl rfl rfl (by kernel_rfl) Try.func5 (by kernel_rfl)
    (of_decide_eq_true (by kernel_rfl)) (by unfold Func.isWrapper; first | (rw [if_pos (by decide +kernel)]; kernel_rfl) | (rw [if_neg (by decide +kernel)]; exact ⟨rfl, rfl⟩))
    (fun os started H enc _ => lifted os started H enc)
/-- The statement. -/
theorem proved : Rows.FixedRisesSaid := over
end fixedRises
end Go.Proofs.Ytlokmmhdoocmeaa
