/- What the document's own Clamp, Add, Sub, Px and product of layer 1 answer. Conditions: product's arguments lie from 0 to 2^40. -/
import Derived.Test.YtlokmmhdoocmeaaFixA
import Derived.Test.YtlokmmhdoocmeaaKit
import Derived.Test.YtlokmmhdoocmeaaFixMath3
import Derived.Outline
import Derived.WalkLawsBesides
namespace Go.Proofs.Ytlokmmhdoocmeaa
open Go.ChangeShapes Go.WideShapes Go.ChangeAt Go.RowKit
theorem rclamp_any (n : Int) (w : World) :
    Calls Try.prog 10 #[.int .i64 n] w fun e w' => e = .returned (.tuple #[.int .i64 (cl n), .bool (ok n)]) ∧ w = w' := by
  rcases cl_eq n with ⟨h1, hc, ho⟩ | ⟨h1, hc, ho⟩ | ⟨h1, h2, hc, ho⟩
  · rw [hc, ho]; clear hc ho
    go_enter Try.func10, Try.ntmps10
    go_wp2
    go_ret2
    exact ⟨rfl, rfl⟩
  · rw [hc, ho]; clear hc ho
    go_enter Try.func10, Try.ntmps10
    go_wp2
    all_goals (try go_ret2)
    all_goals first | exact ⟨rfl, rfl⟩ | omega
  · rw [hc, ho]; clear hc ho
    go_enter Try.func10, Try.ntmps10
    go_wp2
    go_ret2
    exact ⟨rfl, rfl⟩
theorem radd_any (a b : Int) (w : World) : Calls Try.prog 12 #[.int .i64 a, .int .i64 b] w fun e w' => e = .returned (.tuple #[.int .i64 (add2 a b), .bool (addOk a b)]) ∧ w = w' := by
  have h1 := rclamp_any a w
  have h2 := rclamp_any b w
  have h3 := rclamp_any (cl a + cl b) w
  have a1 := cl_lo a; have a2 := cl_hi a; have a3 := cl_lo b; have a4 := cl_hi b
  unfold add2 addOk
  generalize ok a = oa at *
  generalize ok b = ob at *
  generalize ok (cl a + cl b) = oc at *
  generalize cl (cl a + cl b) = r at *
  generalize cl a = x at *
  generalize cl b = y at *
  cases oa <;> cases ob
  all_goals
    go_enter Try.func12, Try.ntmps12
    go_wp2_with (go_at_call 10; (first | (with_reducible refine h1.mono ?_) | (with_reducible refine h2.mono ?_) | (with_reducible refine h3.mono ?_)); rintro e w' ⟨rfl, rfl⟩)
    go_ret2
    exact ⟨rfl, rfl⟩
theorem rsub_any (a b : Int) (w : World) : Calls Try.prog 14 #[.int .i64 a, .int .i64 b] w fun e w' => e = .returned (.tuple #[.int .i64 (sub2 a b), .bool (subOk a b)]) ∧ w = w' := by
  have h1 := rclamp_any a w
  have h2 := rclamp_any b w
  have h3 := rclamp_any (cl a - cl b) w
  have a1 := cl_lo a; have a2 := cl_hi a; have a3 := cl_lo b; have a4 := cl_hi b
  unfold sub2 subOk
  generalize ok a = oa at *
  generalize ok b = ob at *
  generalize ok (cl a - cl b) = oc at *
  generalize cl (cl a - cl b) = r at *
  generalize cl a = x at *
  generalize cl b = y at *
  cases oa <;> cases ob
  all_goals
    go_enter Try.func14, Try.ntmps14
    go_wp2_with (go_at_call 10; (first | (with_reducible refine h1.mono ?_) | (with_reducible refine h2.mono ?_) | (with_reducible refine h3.mono ?_)); rintro e w' ⟨rfl, rfl⟩)
    go_ret2
    exact ⟨rfl, rfl⟩
theorem rpx_any (a : Int) (w : World) : Calls Try.prog 22 #[.int .i64 a] w fun e w' => e = .returned (.tuple #[.int .i64 (px2 a), .bool (pxOk a)]) ∧ w = w' := by
  have h1 := rclamp_any a w
  have h3 := rclamp_any (64 * cl a) w
  have a1 := cl_lo a; have a2 := cl_hi a
  unfold px2 pxOk
  rw [Int.mul_comm (cl a)]
  generalize ok a = oa at *
  generalize ok (64 * cl a) = oc at *
  generalize cl (64 * cl a) = r at *
  generalize cl a = x at *
  cases oa
  all_goals
    go_enter Try.func22, Try.ntmps22
    go_wp2_with (go_at_call 10; (first | (with_reducible refine h1.mono ?_) | (with_reducible refine h3.mono ?_)); rintro e w' ⟨rfl, rfl⟩)
    go_ret2
    exact ⟨rfl, rfl⟩
set_option maxHeartbeats 1000000 in
theorem product_any (x y : Nat) (hx : x ≤ 1099511627776) (hy : y ≤ 1099511627776) (w : World) :
    Calls Try.prog 30 #[.int .i64 x, .int .i64 y] w fun e w' => e = .returned (.int .i64 (cut2 ((x * y : Nat) / 64 : Int))) ∧ w = w' := by
  go_enter Try.func30, Try.ntmps30
  go_wp2
  go_loop [5, 6, 7] (fun n r i => ∃ (j : Nat) (q : Int), j ≤ 41 ∧ i = .int .i64 ((j : Int) - 1) ∧ n = .int .i64 (cut2 ((x / 2 ^ j * y : Nat) / 64 : Int)) ∧ r = .int .i64 q ∧ 0 ≤ q ∧ q < 64 ∧ ((((x / 2 ^ j * y : Nat) : Int) / 64 ≤ 2199023255552) → q = ((x / 2 ^ j * y : Nat) : Int) % 64)) (fun _ _ i => (intOf i + 1).toNat)
  case atStart =>
    have e : x / 2 ^ 41 * y = 0 := by rw [Nat.div_eq_of_lt (by omega), Nat.zero_mul]
    exact ⟨41, 0, by omega, rfl, by rw [e]; rfl, rfl, by omega, by omega, fun _ => by rw [e]; rfl⟩
  case round =>
    obtain ⟨j, q, hj, rfl, rfl, rfl, hq0, hq1, hq⟩ := hrel
    have HQ := Lib.hid hq
    clear hq
    by_cases h0 : 1 ≤ j
    · obtain ⟨t, rfl⟩ : ∃ t, j = t + 1 := ⟨j - 1, by omega⟩
      have hc := cut2_bd ((x / 2 ^ (t + 1) * y : Nat) / 64 : Int) (by omega)
      obtain ⟨hc1, hc2⟩ := hc
      obtain ⟨n, hn⟩ : ∃ n, n = cut2 ((x / 2 ^ (t + 1) * y : Nat) / 64 : Int) := ⟨_, rfl⟩
      rw [← hn] at hc1 hc2 ⊢
      have HN := Lib.hid hn
      clear hn
      go_wp2
      go_loop [8, 9] (fun k j => ∃ s : Nat, s ≤ t ∧ j = .int .i64 s ∧ k = .int .i64 ((x / 2 ^ s : Nat) : Int)) (fun _ j => t - (intOf j).toNat)
      case atStart => exact ⟨0, by omega, rfl, by rw [Nat.pow_zero, Nat.div_one]⟩
      case round =>
        obtain ⟨s, hs, rfl, rfl⟩ := hrel
        by_cases hst : s < t
        · have hle := pow_le x s
          have HP := Lib.hid (pow_half x s)
          generalize x / 2 ^ s = K at hle HP ⊢
          go_wp2
          go_round
          case rel => exact ⟨s + 1, by omega, by go_num, by rw [← HP.out]; go_num⟩
          case measure => simp [intOf]; omega
        · obtain rfl : s = t := by omega
          have hle := pow_le x s
          by_cases hb : x / 2 ^ s % 2 = 1
          · obtain ⟨e1, e2⟩ := cut2_step (H := ((x / 2 ^ (s + 1) * y : Nat) : Int)) (n := n) (r := q) (b := (y : Int)) (H' := ((x / 2 ^ s * y : Nat) : Int)) (bit := 1) (by omega) (by omega) HN.out hq0 hq1 HQ.out (Or.inr rfl)
              (by have := half_pow x s; rw [hb] at this; rw [Int.natCast_mul, Int.natCast_mul, this, ← Int.mul_assoc]; simp [Int.add_mul])
            simp only [Int.one_mul] at e1 e2
            clear HQ HN hst
            obtain ⟨K, hK⟩ : ∃ K, K = x / 2 ^ s := ⟨_, rfl⟩
            rw [← hK] at e1 e2 hle hb ⊢
            have HK := Lib.hid hK
            clear hK
            have hbit : ((K : Int) % 2 == 1) = true := by
              rw [beq_iff_eq]; omega
            have E2 := Lib.hid e2
            clear e2 hb
            have y1 : (y : Int) ≤ 1099511627776 := by omega
            have r0 : 0 ≤ (2 * q + (y : Int) % 64) % 64 := by omega
            have r1 : (2 * q + (y : Int) % 64) % 64 < 64 := by omega
            have R0 := Lib.hid r0
            have R1 := Lib.hid r1
            clear r0 r1
            by_cases hcap : 2199023255552 < 2 * n + (y : Int) / 64 + (2 * q + (y : Int) % 64) / 64
            · rw [if_neg (by omega)] at e1
              have E1 := Lib.hid e1
              clear e1
              go_wp2
              go_round
              case rel => exact ⟨s, _, by omega, rfl, by rw [← HK.out, ← E1.out], rfl, R0.out, R1.out, by rw [← HK.out]; exact E2.out⟩
              case measure => simp [intOf]
            · rw [if_pos (by omega)] at e1
              have E1 := Lib.hid e1
              clear e1
              go_wp2
              go_round
              case rel => exact ⟨s, _, by omega, rfl, by rw [← HK.out, ← E1.out], rfl, R0.out, R1.out, by rw [← HK.out]; exact E2.out⟩
              case measure => simp [intOf]
          · replace hb : x / 2 ^ s % 2 = 0 := by omega
            obtain ⟨e1, e2⟩ := cut2_step (H := ((x / 2 ^ (s + 1) * y : Nat) : Int)) (n := n) (r := q) (b := (y : Int)) (H' := ((x / 2 ^ s * y : Nat) : Int)) (bit := 0) (by omega) (by omega) HN.out hq0 hq1 HQ.out (Or.inl rfl)
              (by have := half_pow x s; rw [hb] at this; rw [Int.natCast_mul, Int.natCast_mul, this, ← Int.mul_assoc]; simp)
            simp only [Int.zero_mul, Int.add_zero] at e1 e2
            clear HQ HN hst
            obtain ⟨K, hK⟩ : ∃ K, K = x / 2 ^ s := ⟨_, rfl⟩
            rw [← hK] at e1 e2 hle hb ⊢
            have HK := Lib.hid hK
            clear hK
            have hbit : ((K : Int) % 2 == 1) = false := by
              rw [beq_eq_false_iff_ne]; omega
            have E2 := Lib.hid e2
            clear e2 hb
            have y1 : (y : Int) ≤ 1099511627776 := by omega
            have r0 : 0 ≤ 2 * q % 64 := by omega
            have r1 : 2 * q % 64 < 64 := by omega
            have R0 := Lib.hid r0
            have R1 := Lib.hid r1
            clear r0 r1
            by_cases hcap : 2199023255552 < 2 * n + 2 * q / 64
            · rw [if_neg (by omega)] at e1
              have E1 := Lib.hid e1
              clear e1
              go_wp2
              go_round
              case rel => exact ⟨s, _, by omega, rfl, by rw [← HK.out, ← E1.out], rfl, R0.out, R1.out, by rw [← HK.out]; exact E2.out⟩
              case measure => simp [intOf]
            · rw [if_pos (by omega)] at e1
              have E1 := Lib.hid e1
              clear e1
              go_wp2
              go_round
              case rel => exact ⟨s, _, by omega, rfl, by rw [← HK.out, ← E1.out], rfl, R0.out, R1.out, by rw [← HK.out]; exact E2.out⟩
              case measure => simp [intOf]
    · obtain rfl : j = 0 := by omega
      have e : x / 2 ^ 0 * y = x * y := by rw [Nat.pow_zero, Nat.div_one]
      rw [e]
      go_wp2
      go_ret
      exact ⟨rfl, rfl⟩
end Go.Proofs.Ytlokmmhdoocmeaa
