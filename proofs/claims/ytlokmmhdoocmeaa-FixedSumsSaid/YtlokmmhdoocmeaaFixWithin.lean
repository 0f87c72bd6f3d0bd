/- Rows.FixedWithinSaid: whatever three numbers, FixedWithin returns true, and the arguments read as they did. Conditions: none beyond the row's own. -/
import Derived.Test.YtlokmmhdoocmeaaFixAwake
import Derived.Test.YtlokmmhdoocmeaaFixMath2
import Derived.Test.YtlokmmhdoocmeaaLaw
namespace Go.Proofs.Ytlokmmhdoocmeaa
open Go.ChangeShapes Go.WideShapes Go.ChangeAt Go.RowKit
theorem within_t (n : Int) (w : World) (h1 : -1099511627776 ≤ n) (h2 : n ≤ 1099511627776) :
    Calls Try.prog 23 #[.int .i64 n] w fun e w' => e = .returned (.bool true) ∧ w = w' := by
  go_enter Try.func23, Try.ntmps23
  go_wp2
  go_ret
  exact ⟨rfl, rfl⟩
namespace fixedWithin
set_option maxHeartbeats 1000000 in
set_option maxRecDepth 100000 in
theorem walk (a0 : Int) (a1 : Int) (a2 : Int) (w : World) :
    Calls Try.prog 4 #[.int .i64 a0, .int .i64 a1, .int .i64 a2] w fun e w' => e = .returned (.bool true) ∧ Below w.heap.size w w' := by
  have c1 := fun w => add_any a0 a1 w
  have c2 := fun w => add_any a1 a0 w
  have c3 := fun w => mul_any a0 a1 w
  have c4 := fun w => mul_any a1 a0 w
  have c5 := fun w => sub_any a0 a1 w
  have c6 := fun w => part_any a0 a1 a2 w
  have c7 := fun w => px_any a0 w
  have c8 := fun w => sub_any (a0 + a1) a1 w
  rw [add2_comm, addOk_comm] at c2
  rw [mul2_comm, mulOk_comm] at c4
  have b1 : -1099511627776 ≤ add2 a0 a1 := cl_lo _
  have b2 : add2 a0 a1 ≤ 1099511627776 := cl_hi _
  have b3 : -1099511627776 ≤ mul2 a0 a1 := cl_lo _
  have b4 : mul2 a0 a1 ≤ 1099511627776 := cl_hi _
  have b5 : -1099511627776 ≤ sub2 a0 a1 := cl_lo _
  have b6 : sub2 a0 a1 ≤ 1099511627776 := cl_hi _
  obtain ⟨b7, b8⟩ := part2_bd a0 a1 a2
  have b9 : -1099511627776 ≤ px2 a0 := cl_lo _
  have b10 : px2 a0 ≤ 1099511627776 := cl_hi _
  generalize mul2 a0 a1 = u at *
  generalize mulOk a0 a1 = g at *
  generalize sub2 a0 a1 = d at *
  generalize subOk a0 a1 = f at *
  generalize part2 a0 a1 a2 = p at *
  generalize partOk a0 a1 a2 = q at *
  generalize px2 a0 = x at *
  generalize pxOk a0 = y at *
  cases he : addOk a0 a1 with
  | false =>
    rw [he] at c1 c2
    generalize add2 a0 a1 = s at *
    clear he c8
    go_enter Try.func4, Try.ntmps4
    go_wp2_with (first
      | (go_at_call 8; refine (awake_any _).mono ?_; rintro e w1 ⟨rfl, hb⟩)
      | (go_at_call 11; (first | (with_reducible refine (c1 _).mono ?_) | (with_reducible refine (c2 _).mono ?_)); rintro e w' ⟨rfl, rfl⟩)
      | (go_at_call 15; (first | (with_reducible refine (c3 _).mono ?_) | (with_reducible refine (c4 _).mono ?_)); rintro e w' ⟨rfl, rfl⟩)
      | (go_at_call 13; (with_reducible refine (c5 _).mono ?_); rintro e w' ⟨rfl, rfl⟩)
      | (go_at_call 17; (with_reducible refine (c6 _).mono ?_); rintro e w2 ⟨rfl, hb2⟩)
      | (go_at_call 21; (with_reducible refine (c7 _).mono ?_); rintro e w' ⟨rfl, rfl⟩)
      | (go_at_call 23; refine (within_t _ _ (by assumption) (by assumption)).mono ?_; rintro e w' ⟨rfl, rfl⟩))
    go_ret
    exact ⟨rfl, hb.trans (hb2.mono hb.size)⟩
  | true =>
    obtain ⟨b11, b12, b13, b14, b15, b16, hs⟩ := addOk_t he
    rw [(sub_back he).1, (sub_back he).2] at c8
    rw [he, hs] at c1 c2
    rw [hs] at b1 b2
    clear he hs
    go_enter Try.func4, Try.ntmps4
    go_wp2_with (first
      | (go_at_call 8; refine (awake_any _).mono ?_; rintro e w1 ⟨rfl, hb⟩)
      | (go_at_call 11; (first | (with_reducible refine (c1 _).mono ?_) | (with_reducible refine (c2 _).mono ?_)); rintro e w' ⟨rfl, rfl⟩)
      | (go_at_call 15; (first | (with_reducible refine (c3 _).mono ?_) | (with_reducible refine (c4 _).mono ?_)); rintro e w' ⟨rfl, rfl⟩)
      | (go_at_call 13; (first | (with_reducible refine (c5 _).mono ?_) | (with_reducible refine (c8 _).mono ?_)); rintro e w' ⟨rfl, rfl⟩)
      | (go_at_call 17; (with_reducible refine (c6 _).mono ?_); rintro e w2 ⟨rfl, hb2⟩)
      | (go_at_call 21; (with_reducible refine (c7 _).mono ?_); rintro e w' ⟨rfl, rfl⟩)
      | (go_at_call 23; refine (within_t _ _ (by assumption) (by assumption)).mono ?_; rintro e w' ⟨rfl, rfl⟩))
    go_ret
    exact ⟨rfl, hb.trans (hb2.mono hb.size)⟩
/-! ### the row's step -/
theorem own : ownKnob Try.prog.godebug = none := by kernel_rfl
theorem laidOut : laidOutB Try.prog = true := by kernel_rfl
theorem rec_i64 : Try.prog.readableRec 2 = true ∧ 2 < Try.prog.types.size := ⟨by kernel_rfl, of_decide_eq_true (by kernel_rfl)⟩
set_option maxRecDepth 100000 in
theorem lifted (os : Os) (started : os.Started) (H : Type) (enc : TypeId × Value → H) :
    ReturnsInHanded {} Try.checked os 4 .any (Rows.fixedWithinSpec.pre6 enc Try.prog Try.f4 Rows.fixedWithinRow.domain false) (Rows.fixedWithinSpec.post enc Try.prog Try.f4 false true false false) := by
  refine law_lifted (C := Try.checked) (enc := enc) own started (by kernel_rfl) Try.func4
    (ChangeSpec.witness6 (enc := enc) (C := Try.checked) false ⟨#[], #[.int .i64 0, .int .i64 0, .int .i64 0], []⟩ 8 (by kernel_rfl) (by kernel_rfl) (by kernel_rfl) (by kernel_rfl))
    laidOut ?_ rfl Try.underlying4 rfl ?_ ?_
  · intro t ht
    rw [Try.params4] at ht
    simp only [List.mem_cons, List.not_mem_nil, or_false] at ht
    rcases ht with rfl | rfl | rfl
    · exact rec_i64
    · exact rec_i64
    · exact rec_i64
  · intro ds h
    match ds, h with
    | [d0, d1, d2], _ => exact ⟨rfl, rfl, rfl⟩
  · intro W base args ds p hval0 hA0 hlt hsz
    have hval : ∀ (j : Nat) t v, Try.f4.params[j]? = some t → args[j]? = some v → Value.okWide Try.prog W .any base t v := hval0
    have hA : DataW.TrodAll enc Try.prog W 0 (fun _ => true) true Try.f4.params.toList args.toList ds p := hA0
    rw [Try.params4] at hA hval
    obtain ⟨v0, vs0, d0, ds0, p0, q0, hargs, rfl, rfl, h0, r0⟩ := trodAll_cons hA
    obtain ⟨v1, vs1, d1, ds1, p1, q1, rfl, rfl, rfl, h1, r1⟩ := trodAll_cons r0
    obtain ⟨v2, vs2, d2, ds2, p2, q2, rfl, rfl, rfl, h2, r2⟩ := trodAll_cons r1
    obtain ⟨rfl, rfl, rfl⟩ := trodAll_nil r2
    obtain rfl : args = #[v0, v1, v2] := by cases args; simp_all
    obtain ⟨a0, rfl, rfl, rfl, w0⟩ := open_int Try.underlying2 (hval 0 2 v0 rfl rfl) h0
    obtain ⟨a1, rfl, rfl, rfl, w1⟩ := open_int Try.underlying2 (hval 1 2 v1 rfl rfl) h1
    obtain ⟨a2, rfl, rfl, rfl, w2⟩ := open_int Try.underlying2 (hval 2 2 v2 rfl rfl) h2
    exact walk a0 a1 a2 W
theorem over : Rows.fixedWithinRow.holds Try.pinned (OpenSpec.ofChange Rows.fixedWithinSpec) :=
  OpenClaim.holds_of_wide 4 Try.f4 rfl rfl rfl rfl rfl rfl rfl ⟨rfl, rfl, rfl, rfl, rfl⟩ rfl rfl rfl rfl rfl (by kernel_rfl) Try.func4 (by kernel_rfl)
    (of_decide_eq_true (by kernel_rfl)) (by unfold Func.isWrapper; first | (rw [if_pos (by decide +kernel)]; kernel_rfl) | (rw [if_neg (by decide +kernel)]; exact ⟨rfl, rfl⟩))
    (fun os started H enc _ => lifted os started H enc)
/-- The statement. -/
theorem proved : Rows.FixedWithinSaid := over
end fixedWithin
end Go.Proofs.Ytlokmmhdoocmeaa
