/- Rows.FixedTellsSaid: whatever three numbers and list, FixedTells returns true, and the arguments read as they did. Conditions: none beyond the row's own. -/
import Derived.Test.YtlokmmhdoocmeaaFixAwake
import Derived.Test.YtlokmmhdoocmeaaRef1B
import Derived.Test.YtlokmmhdoocmeaaOpen
namespace Go.Proofs.Ytlokmmhdoocmeaa
open Go.ChangeShapes Go.WideShapes Go.ChangeAt Go.RowKit
namespace fixedTells
set_option maxHeartbeats 4000000 in
set_option maxRecDepth 100000 in
theorem walk (a0 a1 a2 : Int) (A : Option Addr) (n c : Nat) (l : List Int) (w : World) (hn : n ≤ 9223372036854775807) (hr : Reads w w.heap.size 1 A n (l.map (Value.int .i64))) :
    Calls Try.prog 3 #[.int .i64 a0, .int .i64 a1, .int .i64 a2, .slice A n c] w fun e w' => e = .returned (.bool true) ∧ Below w.heap.size w w' := by
  by_cases h5 : 500 < n
  · go_enter Try.func3, Try.ntmps3
    go_wp2_with (go_at_call 8; refine (awake_any _).mono ?_; rintro e w1 ⟨rfl, hb⟩)
    go_ret
    exact ⟨rfl, hb⟩
  have h5' : n ≤ 500 := by omega
  clear h5
  have c1 := fun w => clamp_any a0 w
  have d1 := fun w => rclamp_any a0 w
  have c2 := fun w => add_any a0 a1 w
  have d2 := fun w => radd_any a0 a1 w
  have c3 := fun w => sub_any a0 a1 w
  have d3 := fun w => rsub_any a0 a1 w
  have c4 := fun w => mul_any a0 a1 w
  have d4 := fun w => rmul_any a0 a1 w
  have c5 := fun w => part_any a0 a1 a2 w
  have d5 := fun w => rpart_any a0 a1 a2 w
  have c6 := fun w1 (hb : Below w.heap.size w w1) => sum_any A n c w.heap.size l w1 (hr.below hb) hn
  have d6 := fun w1 (hb : Below w.heap.size w w1) => rsum_any A n c w.heap.size l w1 (hr.below hb) hn
  have c7 := fun w => px_any a0 w
  have d7 := fun w => rpx_any a0 w
  generalize cl a0 = v1 at *
  generalize ok a0 = o1 at *
  generalize add2 a0 a1 = v2 at *
  generalize addOk a0 a1 = o2 at *
  generalize sub2 a0 a1 = v3 at *
  generalize subOk a0 a1 = o3 at *
  generalize mul2 a0 a1 = v4 at *
  generalize mulOk a0 a1 = o4 at *
  generalize part2 a0 a1 a2 = v5 at *
  generalize partOk a0 a1 a2 = o5 at *
  generalize (sumL l).1 = v6 at *
  generalize (sumL l).2 = o6 at *
  generalize px2 a0 = v7 at *
  generalize pxOk a0 = o7 at *
  clear hr
  go_enter Try.func3, Try.ntmps3
  go_wp2_with (first
    | (go_at_call 8; refine (awake_any _).mono ?_; rintro e w1 ⟨rfl, hb1⟩)
    | (go_at_call 9; (with_reducible refine (c1 _).mono ?_); rintro e w' ⟨rfl, rfl⟩)
    | (go_at_call 10; (with_reducible refine (d1 _).mono ?_); rintro e w' ⟨rfl, rfl⟩)
    | (go_at_call 11; (with_reducible refine (c2 _).mono ?_); rintro e w' ⟨rfl, rfl⟩)
    | (go_at_call 12; (with_reducible refine (d2 _).mono ?_); rintro e w' ⟨rfl, rfl⟩)
    | (go_at_call 13; (with_reducible refine (c3 _).mono ?_); rintro e w' ⟨rfl, rfl⟩)
    | (go_at_call 14; (with_reducible refine (d3 _).mono ?_); rintro e w' ⟨rfl, rfl⟩)
    | (go_at_call 15; (with_reducible refine (c4 _).mono ?_); rintro e w' ⟨rfl, rfl⟩)
    | (go_at_call 16; (with_reducible refine (d4 _).mono ?_); rintro e w' ⟨rfl, rfl⟩)
    | (go_at_call 17; (with_reducible refine (c5 _).mono ?_); rintro e w2 ⟨rfl, hb2⟩)
    | (go_at_call 18; (with_reducible refine (d5 _).mono ?_); rintro e w3 ⟨rfl, hb3⟩; have hb4 := (hb1.trans (hb2.mono hb1.size)).trans (hb3.mono (Nat.le_trans hb1.size hb2.size)); clear hb1 hb2 hb3)
    | (go_at_call 19; (with_reducible refine (c6 _ hb4).mono ?_); rintro e w' ⟨rfl, rfl⟩)
    | (go_at_call 20; (with_reducible refine (d6 _ hb4).mono ?_); rintro e w' ⟨rfl, rfl⟩)
    | (go_at_call 21; (with_reducible refine (c7 _).mono ?_); rintro e w' ⟨rfl, rfl⟩)
    | (go_at_call 22; (with_reducible refine (d7 _).mono ?_); rintro e w' ⟨rfl, rfl⟩))
  go_ret
  exact ⟨rfl, hb4⟩
/-! ### the row's step -/
theorem own : ownKnob Try.prog.godebug = none := by kernel_rfl
theorem laidOut : laidOutB Try.prog = true := by kernel_rfl
theorem rec_i64 : Try.prog.readableRec 2 = true ∧ 2 < Try.prog.types.size := ⟨by kernel_rfl, of_decide_eq_true (by kernel_rfl)⟩
theorem rec_ints : Try.prog.readableRec 22 = true ∧ 22 < Try.prog.types.size := ⟨by kernel_rfl, of_decide_eq_true (by kernel_rfl)⟩
theorem cells_i64 : Try.prog.cellsOf 2 = 1 := by kernel_rfl
theorem bytes_i64 : Try.prog.bytesOf 2 = 8 := by kernel_rfl
set_option maxRecDepth 100000 in
theorem lifted (os : Os) (started : os.Started) (H : Type) (enc : TypeId × Value → H) :
    ReturnsInHanded {} Try.checked os 3 .any (Rows.fixedTellsSpec.pre6 enc Try.prog Try.f3 Rows.fixedTellsRow.domain false) (Rows.fixedTellsSpec.post enc Try.prog Try.f3 false true false false) := by
  refine law_lifted (C := Try.checked) (enc := enc) own started (by kernel_rfl) Try.func3
    (ChangeSpec.witness6 (enc := enc) (C := Try.checked) false ⟨#[], #[.int .i64 0, .int .i64 0, .int .i64 0, .slice none 0 0], []⟩ 8 (by kernel_rfl) (by kernel_rfl) (by kernel_rfl) (by kernel_rfl))
    laidOut ?_ rfl Try.underlying4 rfl ?_ ?_
  · intro t ht
    rw [Try.params3] at ht
    simp only [List.mem_cons, List.not_mem_nil, or_false] at ht
    rcases ht with rfl | rfl | rfl | rfl
    · exact rec_i64
    · exact rec_i64
    · exact rec_i64
    · exact rec_ints
  · intro ds h
    match ds, h with
    | [d0, d1, d2, d3], _ => exact ⟨rfl, rfl, rfl⟩
  · intro W base args ds p hval0 hA0 hlt hsz
    have hval : ∀ (j : Nat) t v, Try.f3.params[j]? = some t → args[j]? = some v → Value.okWide Try.prog W .any base t v := hval0
    have hA : DataW.TrodAll enc Try.prog W 0 (fun _ => true) true Try.f3.params.toList args.toList ds p := hA0
    rw [Try.params3] at hA hval
    obtain ⟨v0, vs0, d0, ds0, p0, q0, hargs, rfl, rfl, h0, r0⟩ := trodAll_cons hA
    obtain ⟨v1, vs1, d1, ds1, p1, q1, rfl, rfl, rfl, h1, r1⟩ := trodAll_cons r0
    obtain ⟨v2, vs2, d2, ds2, p2, q2, rfl, rfl, rfl, h2, r2⟩ := trodAll_cons r1
    obtain ⟨v3, vs3, d3, ds3, p3, q3, rfl, rfl, rfl, h3, r3⟩ := trodAll_cons r2
    obtain ⟨rfl, rfl, rfl⟩ := trodAll_nil r3
    obtain rfl : args = #[v0, v1, v2, v3] := by cases args; simp_all
    obtain ⟨a0, rfl, rfl, rfl, w0⟩ := open_int Try.underlying2 (hval 0 2 v0 rfl rfl) h0
    obtain ⟨a1, rfl, rfl, rfl, w1⟩ := open_int Try.underlying2 (hval 1 2 v1 rfl rfl) h1
    obtain ⟨a2, rfl, rfl, rfl, w2⟩ := open_int Try.underlying2 (hval 2 2 v2 rfl rfl) h2
    obtain ⟨A3, n3, c3, l3, rfl, m3, R3, _⟩ := open_i64s Try.underlying22 Try.underlying2 cells_i64 (hval 3 22 v3 rfl rfl) h3 bytes_i64 (j := 3) hsz (by rw [Try.params3]; rfl) rfl
    exact walk a0 a1 a2 A3 n3 c3 l3 W (by omega) R3
theorem over : Rows.fixedTellsRow.holds Try.pinned (OpenSpec.ofChange Rows.fixedTellsSpec) :=
  OpenClaim.holds_of_wide 3 Try.f3 rfl rfl rfl rfl rfl rfl rfl ⟨rfl, rfl, rfl, rfl, rfl⟩ rfl rfl rfl rfl rfl (by kernel_rfl) Try.func3 (by kernel_rfl)
    (of_decide_eq_true (by kernel_rfl)) (by unfold Func.isWrapper; first | (rw [if_pos (by decide +kernel)]; kernel_rfl) | (rw [if_neg (by decide +kernel)]; exact ⟨rfl, rfl⟩))
    (fun os started H enc _ => lifted os started H enc)
/-- The statement. -/
theorem proved : Rows.FixedTellsSaid := over
end fixedTells
end Go.Proofs.Ytlokmmhdoocmeaa
