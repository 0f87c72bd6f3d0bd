/- What Mul, Part, Px, Add, Sub and Sum of package fixed answer. Conditions: Sum's list lies in memory as it is read, and is no longer than a slice may be. -/
import Derived.Test.YtlokmmhdoocmeaaFixC
namespace Go.Proofs.Ytlokmmhdoocmeaa
open Go.ChangeShapes Go.WideShapes Go.ChangeAt Go.RowKit
theorem add_any (a b : Int) (w : World) : Calls Try.prog 11 #[.int .i64 a, .int .i64 b] w fun e w' => e = .returned (.tuple #[.int .i64 (add2 a b), .bool (addOk a b)]) ∧ w = w' := by
  have hc := counted_add a b (cl a + cl b) w (add1_any _ _ w (cl_lo a) (cl_hi a) (cl_lo b) (cl_hi b))
  unfold add2 addOk
  generalize cl (cl a + cl b) = r at hc ⊢
  generalize (ok a && (ok b && ok (cl a + cl b))) = o at hc ⊢
  go_enter Try.func11, Try.ntmps11
  go_wp2_with (go_at_call 24; refine Calls.mono hc ?_; rintro e w' ⟨rfl, rfl⟩)
  go_ret2
  exact ⟨rfl, rfl⟩
theorem sub_any (a b : Int) (w : World) : Calls Try.prog 13 #[.int .i64 a, .int .i64 b] w fun e w' => e = .returned (.tuple #[.int .i64 (sub2 a b), .bool (subOk a b)]) ∧ w = w' := by
  have hc := counted_sub a b (cl a - cl b) w (sub1_any _ _ w (cl_lo a) (cl_hi a) (cl_lo b) (cl_hi b))
  unfold sub2 subOk
  generalize cl (cl a - cl b) = r at hc ⊢
  generalize (ok a && (ok b && ok (cl a - cl b))) = o at hc ⊢
  go_enter Try.func13, Try.ntmps13
  go_wp2_with (go_at_call 24; refine Calls.mono hc ?_; rintro e w' ⟨rfl, rfl⟩)
  go_ret2
  exact ⟨rfl, rfl⟩
theorem px_any (a : Int) (w : World) : Calls Try.prog 21 #[.int .i64 a] w fun e w' => e = .returned (.tuple #[.int .i64 (px2 a), .bool (pxOk a)]) ∧ w = w' := by
  have hc := counted_px a 64 (cl a * 64) w (px1_any _ _ w (cl_lo a) (cl_hi a) (by decide))
  have e64 : ok 64 = true := by decide
  rw [e64, Bool.true_and] at hc
  clear e64
  unfold px2 pxOk
  generalize cl (cl a * 64) = r at hc ⊢
  generalize (ok a && ok (cl a * 64)) = o at hc ⊢
  go_enter Try.func21, Try.ntmps21
  go_wp2_with (go_at_call 24; refine Calls.mono hc ?_; rintro e w' ⟨rfl, rfl⟩)
  go_ret2
  exact ⟨rfl, rfl⟩
/-! ### products -/
theorem size_any (n : Int) (w : World) (h1 : -1099511627776 ≤ n) (h2 : n ≤ 1099511627776) :
    Calls Try.prog 29 #[.int .i64 n] w fun e w' => e = .returned (.int .u64 (n.natAbs : Int)) ∧ w = w' := by
  by_cases h : n < 0
  · have e : (n.natAbs : Int) = -n := by omega
    rw [e]; clear e
    go_enter Try.func29, Try.ntmps29
    go_wp2
    go_ret
    exact ⟨ret_int (by first | rfl | (rw [IntKind.wrap_u64]; omega)), rfl⟩
  · have e : (n.natAbs : Int) = n := by omega
    rw [e]; clear e
    have h' : 0 ≤ n := by omega
    go_enter Try.func29, Try.ntmps29
    go_wp2
    go_ret
    exact ⟨ret_int (by first | rfl | (rw [IntKind.wrap_u64]; omega)), rfl⟩
def pbu (x y : Nat) : Int := if x * y / 18446744073709551616 = 0 then ((x * y / 64 : Nat) : Int) else 1099511627777
theorem pbu_any (x y : Nat) (hx : x ≤ 1099511627776) (hy : y ≤ 1099511627776) (w : World) :
    Calls Try.prog 28 #[.int .u64 x, .int .u64 y] w fun e w' => e = .returned (.int .i64 (pbu x y)) ∧ w = w' := by
  have hm := mul64_any x y (by omega) (by omega) w
  unfold pbu
  by_cases h : x * y / 18446744073709551616 = 0
  · have hl : x * y % 18446744073709551616 = x * y := Nat.mod_eq_of_lt (by omega)
    have hp : x * y < 18446744073709551616 := by omega
    rw [if_pos h]
    rw [h, hl] at hm
    clear h hl
    generalize x * y = p at hm hp ⊢
    have hp1 : (p : Int) < 18446744073709551616 := by omega
    have hp2 : ((p / 64 : Nat) : Int) = (p : Int) / 64 := by omega
    rw [hp2]
    clear hp2
    go_enter Try.func28, Try.ntmps28
    go_wp2_with (go_at_call 33; refine Calls.mono hm ?_; rintro e w' ⟨rfl, rfl⟩)
    go_ret
    exact ⟨ret_int (by first | rfl | (rw [IntKind.wrap_i64]; omega)), rfl⟩
  · rw [if_neg h]
    have h0 : 0 < ((x * y / 18446744073709551616 : Nat) : Int) := by omega
    generalize ((x * y / 18446744073709551616 : Nat) : Int) = q at hm h0
    have h1 : (q == 0) = false := by simp; omega
    have h2 : (q != 0) = true := by simp; omega
    go_enter Try.func28, Try.ntmps28
    go_wp2_with (go_at_call 33; refine Calls.mono hm ?_; rintro e w' ⟨rfl, rfl⟩)
    go_ret
    exact ⟨rfl, rfl⟩
theorem pbu_bd (x y : Nat) : 0 ≤ pbu x y ∧ pbu x y < 288230376151711744 + 1099511627778 := by
  unfold pbu
  generalize x * y = p
  split <;> omega
/-- What the closure of Mul answers. -/
def mulR (a b : Int) : Int := if decide (a < 0) = decide (b < 0) then pbu a.natAbs b.natAbs else - pbu a.natAbs b.natAbs
theorem mul1_any (a b : Int) (w : World) (h1 : -1099511627776 ≤ a) (h2 : a ≤ 1099511627776) (h3 : -1099511627776 ≤ b) (h4 : b ≤ 1099511627776) :
    Calls Try.prog 27 #[.int .i64 a, .int .i64 b] w fun e w' => e = .returned (.int .i64 (mulR a b)) ∧ w = w' := by
  have hsa := size_any a w h1 h2
  have hsb := size_any b w h3 h4
  have hp := pbu_any a.natAbs b.natAbs (by omega) (by omega) w
  have hb := pbu_bd a.natAbs b.natAbs
  unfold mulR
  generalize pbu a.natAbs b.natAbs = p at hp hb ⊢
  generalize a.natAbs = x at hsa hp
  generalize b.natAbs = y at hsb hp
  obtain ⟨hb1, hb2⟩ := hb
  by_cases ha : a < 0 <;> by_cases hb : b < 0
  · have ea : decide (a < 0) = true := by simp; omega
    have eb : decide (b < 0) = true := by simp; omega
    rw [ea, eb, if_pos rfl]
    go_enter Try.func27, Try.ntmps27
    go_wp2_with (first
      | (go_at_call 29; (first | (with_reducible refine Calls.mono hsa ?_) | (with_reducible refine Calls.mono hsb ?_)); rintro e w' ⟨rfl, rfl⟩)
      | (go_at_call 28; refine Calls.mono hp ?_; rintro e w' ⟨rfl, rfl⟩))
    go_ret
    exact ⟨rfl, rfl⟩
  · have ea : decide (a < 0) = true := by simp; omega
    have eb : decide (b < 0) = false := by simp; omega
    rw [ea, eb, if_neg (by decide)]
    go_enter Try.func27, Try.ntmps27
    go_wp2_with (first
      | (go_at_call 29; (first | (with_reducible refine Calls.mono hsa ?_) | (with_reducible refine Calls.mono hsb ?_)); rintro e w' ⟨rfl, rfl⟩)
      | (go_at_call 28; refine Calls.mono hp ?_; rintro e w' ⟨rfl, rfl⟩))
    go_ret
    exact ⟨rfl, rfl⟩
  · have ea : decide (a < 0) = false := by simp; omega
    have eb : decide (b < 0) = true := by simp; omega
    rw [ea, eb, if_neg (by decide)]
    go_enter Try.func27, Try.ntmps27
    go_wp2_with (first
      | (go_at_call 29; (first | (with_reducible refine Calls.mono hsa ?_) | (with_reducible refine Calls.mono hsb ?_)); rintro e w' ⟨rfl, rfl⟩)
      | (go_at_call 28; refine Calls.mono hp ?_; rintro e w' ⟨rfl, rfl⟩))
    go_ret
    exact ⟨rfl, rfl⟩
  · have ea : decide (a < 0) = false := by simp; omega
    have eb : decide (b < 0) = false := by simp; omega
    rw [ea, eb, if_pos rfl]
    go_enter Try.func27, Try.ntmps27
    go_wp2_with (first
      | (go_at_call 29; (first | (with_reducible refine Calls.mono hsa ?_) | (with_reducible refine Calls.mono hsb ?_)); rintro e w' ⟨rfl, rfl⟩)
      | (go_at_call 28; refine Calls.mono hp ?_; rintro e w' ⟨rfl, rfl⟩))
    go_ret
    exact ⟨rfl, rfl⟩
end Go.Proofs.Ytlokmmhdoocmeaa
