/- What the document's own Mul, Part and Sum of layer 1 answer. Conditions: Sum's list lies in memory as it is read, and is no longer than a slice may be. -/
import Derived.Test.YtlokmmhdoocmeaaRef1A
import Derived.Test.YtlokmmhdoocmeaaFixE
import Derived.Deep.QuietTactic
import Derived.BigQuiet
namespace Go.Proofs.Ytlokmmhdoocmeaa
open Go.ChangeShapes Go.WideShapes Go.ChangeAt Go.RowKit
set_option maxHeartbeats 1000000 in
theorem rmul_any (a b : Int) (w : World) : Calls Try.prog 16 #[.int .i64 a, .int .i64 b] w fun e w' => e = .returned (.tuple #[.int .i64 (mul2 a b), .bool (mulOk a b)]) ∧ w = w' := by
  have h1 := rclamp_any a w
  have h2 := rclamp_any b w
  have a1 := cl_lo a; have a2 := cl_hi a; have a3 := cl_lo b; have a4 := cl_hi b
  have hp := product_any (cl a).natAbs (cl b).natAbs (by omega) (by omega) w
  have hq := cut2_prod (cl a) (cl b)
  have hc := cut2_bd ((((cl a).natAbs * (cl b).natAbs : Nat) : Int) / 64) (by omega)
  unfold mul2 mulOk
  rw [← hq.1, ← hq.2]
  clear hq
  generalize cut2 ((((cl a).natAbs * (cl b).natAbs : Nat) : Int) / 64) = p at *
  generalize ok a = oa at *
  generalize ok b = ob at *
  generalize cl a = x at *
  generalize cl b = y at *
  obtain ⟨c1, c2⟩ := hc
  by_cases hx : x < 0 <;> by_cases hy : y < 0
  · have ex : (x.natAbs : Int) = -x := by omega
    have ey : (y.natAbs : Int) = -y := by omega
    have dx : decide (x < 0) = true := by simp; omega
    have dy : decide (y < 0) = true := by simp; omega
    have gx : x < -x := by omega
    have gy : y < -y := by omega
    rw [ex, ey] at hp
    rw [dx, dy, if_pos rfl]
    clear ex ey
    have h3 := rclamp_any p w
    generalize ok p = oc at *
    generalize cl p = t at *
    cases oa <;> cases ob
    all_goals
      go_enter Try.func16, Try.ntmps16
      go_wp2_with (first
        | (go_at_call 10; (first | (with_reducible refine h1.mono ?_) | (with_reducible refine h2.mono ?_) | (with_reducible refine h3.mono ?_)); rintro e w' ⟨rfl, rfl⟩)
        | (go_at_call 30; (with_reducible refine hp.mono ?_); rintro e w' ⟨rfl, rfl⟩))
      go_ret2
      exact ⟨rfl, rfl⟩
  · have ex : (x.natAbs : Int) = -x := by omega
    have ey : (y.natAbs : Int) = y := by omega
    have dx : decide (x < 0) = true := by simp; omega
    have dy : decide (y < 0) = false := by simp; omega
    have gx : x < -x := by omega
    have gy : ¬ y < -y := by omega
    have gy2 : -y ≤ y := by omega
    have gy3 : 0 ≤ y := by omega
    rw [ex, ey] at hp
    rw [dx, dy, if_neg (by decide)]
    clear ex ey
    have h3 := rclamp_any (-p) w
    generalize ok (-p) = oc at *
    generalize cl (-p) = t at *
    cases oa <;> cases ob
    all_goals
      go_enter Try.func16, Try.ntmps16
      go_wp2_with (first
        | (go_at_call 10; (first | (with_reducible refine h1.mono ?_) | (with_reducible refine h2.mono ?_) | (with_reducible refine h3.mono ?_)); rintro e w' ⟨rfl, rfl⟩)
        | (go_at_call 30; (with_reducible refine hp.mono ?_); rintro e w' ⟨rfl, rfl⟩))
      go_ret2
      exact ⟨rfl, rfl⟩
  · have ex : (x.natAbs : Int) = x := by omega
    have ey : (y.natAbs : Int) = -y := by omega
    have dx : decide (x < 0) = false := by simp; omega
    have dy : decide (y < 0) = true := by simp; omega
    have gx : ¬ x < -x := by omega
    have gy : y < -y := by omega
    have gx2 : -x ≤ x := by omega
    have gx3 : 0 ≤ x := by omega
    rw [ex, ey] at hp
    rw [dx, dy, if_neg (by decide)]
    clear ex ey
    have h3 := rclamp_any (-p) w
    generalize ok (-p) = oc at *
    generalize cl (-p) = t at *
    cases oa <;> cases ob
    all_goals
      go_enter Try.func16, Try.ntmps16
      go_wp2_with (first
        | (go_at_call 10; (first | (with_reducible refine h1.mono ?_) | (with_reducible refine h2.mono ?_) | (with_reducible refine h3.mono ?_)); rintro e w' ⟨rfl, rfl⟩)
        | (go_at_call 30; (with_reducible refine hp.mono ?_); rintro e w' ⟨rfl, rfl⟩))
      go_ret2
      exact ⟨rfl, rfl⟩
  · have ex : (x.natAbs : Int) = x := by omega
    have ey : (y.natAbs : Int) = y := by omega
    have dx : decide (x < 0) = false := by simp; omega
    have dy : decide (y < 0) = false := by simp; omega
    have gx : ¬ x < -x := by omega
    have gy : ¬ y < -y := by omega
    have gx2 : -x ≤ x := by omega
    have gy2 : -y ≤ y := by omega
    have gx3 : 0 ≤ x := by omega
    have gy3 : 0 ≤ y := by omega
    rw [ex, ey] at hp
    rw [dx, dy, if_pos rfl]
    clear ex ey
    have h3 := rclamp_any p w
    generalize ok p = oc at *
    generalize cl p = t at *
    cases oa <;> cases ob
    all_goals
      go_enter Try.func16, Try.ntmps16
      go_wp2_with (first
        | (go_at_call 10; (first | (with_reducible refine h1.mono ?_) | (with_reducible refine h2.mono ?_) | (with_reducible refine h3.mono ?_)); rintro e w' ⟨rfl, rfl⟩)
        | (go_at_call 30; (with_reducible refine hp.mono ?_); rintro e w' ⟨rfl, rfl⟩))
      go_ret2
      exact ⟨rfl, rfl⟩
theorem fits {n : Int} (h1 : -9223372036854775808 ≤ n) (h2 : n ≤ 9223372036854775807) : IntKind.i64.wrap n = n := by rw [IntKind.wrap_i64]; omega
set_option maxHeartbeats 1000000 in
theorem rpart_yes (a num den : Int) (w : World) (h : mayPart num den = true) :
    Calls Try.prog 18 #[.int .i64 a, .int .i64 num, .int .i64 den] w fun e w' => e = .returned (.tuple #[.int .i64 (cl ((cl a * num).tdiv den)), .bool (ok a && ok ((cl a * num).tdiv den))]) ∧ Below w.heap.size w w' := by
  obtain ⟨n1, n2, d1, d2⟩ := of_decide_eq_true h
  clear h
  have h1 := rclamp_any a w
  have a1 := cl_lo a; have a2 := cl_hi a
  generalize cl a = x at *
  generalize ok a = oa at *
  rw [part_sign x num den]
  obtain ⟨s, he⟩ : ∃ s : Int, s = x.natAbs := ⟨_, rfl⟩
  rw [← he]
  have s0 : 0 ≤ s := by omega
  have s1 : s ≤ 1099511627776 := by omega
  have hp := part_split (s := s) (num := num) (den := den) d1
  rw [Int.tdiv_eq_ediv_of_nonneg (Int.mul_nonneg s0 n1), ← hp]
  clear hp
  have q0 : 0 ≤ s / den := Int.ediv_nonneg s0 (by omega)
  have q1 : s / den ≤ s := Int.ediv_le_self _ s0
  have r0 : 0 ≤ s % den := Int.emod_nonneg _ (by omega)
  have r1 : s % den < den := Int.emod_lt_of_pos _ (by omega)
  have e1 : s.tdiv den = s / den := Int.tdiv_eq_ediv_of_nonneg s0
  have e2 : s.tmod den = s % den := Int.tmod_eq_emod_of_nonneg s0
  generalize s / den = D at *
  generalize s % den = R at *
  have p0 : 0 ≤ D * num := Int.mul_nonneg q0 n1
  have p1 : D * num ≤ 1099511627776 * 1048576 := Int.mul_le_mul (by omega) n2 n1 (by omega)
  have t0 : 0 ≤ R * num := Int.mul_nonneg r0 n1
  have t1 : R * num ≤ 1048576 * 1048576 := Int.mul_le_mul (by omega) n2 n1 (by omega)
  have e3 : IntKind.i64.wrap (D * num) = D * num := fits (by omega) (by omega)
  have e4 : IntKind.i64.wrap (R * num) = R * num := fits (by omega) (by omega)
  obtain ⟨P, hP⟩ : ∃ P, D * num = P := ⟨_, rfl⟩
  obtain ⟨Q, hQ⟩ : ∃ Q, R * num = Q := ⟨_, rfl⟩
  rw [hP] at p0 p1 e3 ⊢
  rw [hQ] at t0 t1 e4 ⊢
  have u0 : 0 ≤ Q / den := Int.ediv_nonneg t0 (by omega)
  have u1 : Q / den ≤ Q := Int.ediv_le_self _ t0
  have e5 : Q.tdiv den = Q / den := Int.tdiv_eq_ediv_of_nonneg t0
  generalize Q / den = E at *
  have e6 : IntKind.i64.wrap (P + E) = P + E := fits (by omega) (by omega)
  have v1 : P + E ≤ 1152922604118474752 := by omega
  have v0 : 0 ≤ P + E := by omega
  have e7 : IntKind.i64.wrap D = D := fits (by omega) (by omega)
  have e8 : IntKind.i64.wrap E = E := fits (by omega) (by omega)
  obtain ⟨T, hT⟩ : ∃ T, P + E = T := ⟨_, rfl⟩
  rw [hT] at v0 v1 e6 ⊢
  have hd : (den == 0) = false := by rw [beq_eq_false_iff_ne]; omega
  by_cases hx : x < 0
  · obtain rfl : x = -s := by omega
    rw [if_pos hx]
    have gx : -s < s := by omega
    have gy : -s ≠ 0 := by omega
    have h3 := fun w => rclamp_any (-T) w
    generalize ok (-T) = oc at *
    generalize cl (-T) = t at *
    clear he
    cases oa
    all_goals
      go_enter Try.func18, Try.ntmps18
      go_wp2_with (go_at_call 10; (first | (with_reducible refine h1.mono ?_) | (with_reducible refine (h3 _).mono ?_)); rintro e w' ⟨rfl, rfl⟩)
      go_quiet (fail)
      go_wp2_with (go_at_call 10; (first | (with_reducible refine h1.mono ?_) | (with_reducible refine (h3 _).mono ?_)); rintro e w' ⟨rfl, rfl⟩)
      go_ret2
      exact ⟨rfl, ⟨rfl, rfl, rfl, Nat.le_refl _, fun _ _ => rfl⟩⟩
  · obtain rfl : s = x := by omega
    rw [if_neg hx]
    have gx : -s ≤ s := by omega
    have gy : ¬ s < -s := by omega
    have h3 := fun w => rclamp_any T w
    generalize ok T = oc at *
    generalize cl T = t at *
    clear he
    cases oa
    all_goals
      go_enter Try.func18, Try.ntmps18
      go_wp2_with (go_at_call 10; (first | (with_reducible refine h1.mono ?_) | (with_reducible refine (h3 _).mono ?_)); rintro e w' ⟨rfl, rfl⟩)
      go_quiet (fail)
      go_wp2_with (go_at_call 10; (first | (with_reducible refine h1.mono ?_) | (with_reducible refine (h3 _).mono ?_)); rintro e w' ⟨rfl, rfl⟩)
      go_ret2
      exact ⟨rfl, ⟨rfl, rfl, rfl, Nat.le_refl _, fun _ _ => rfl⟩⟩
theorem rpart_no (a num den : Int) (w : World) (h : mayPart num den = false) :
    Calls Try.prog 18 #[.int .i64 a, .int .i64 num, .int .i64 den] w fun e w' => e = .returned (.tuple #[.int .i64 0, .bool false]) ∧ Below w.heap.size w w' := by
  have h' := of_decide_eq_false h
  clear h
  by_cases h1 : num < 0
  · clear h'
    go_enter Try.func18, Try.ntmps18
    go_wp2
    go_ret2
    exact ⟨rfl, Below.refl _ _⟩
  have h1' : 0 ≤ num := by omega
  clear h1
  by_cases h2 : 1048576 < num
  · clear h'
    go_enter Try.func18, Try.ntmps18
    go_wp2
    go_ret2
    exact ⟨rfl, Below.refl _ _⟩
  have h2' : num ≤ 1048576 := by omega
  clear h2
  by_cases h3 : den < 1
  · clear h'
    go_enter Try.func18, Try.ntmps18
    go_wp2
    go_ret2
    exact ⟨rfl, Below.refl _ _⟩
  have h3' : 1 ≤ den := by omega
  clear h3
  have h4 : 1048576 < den := by omega
  clear h'
  go_enter Try.func18, Try.ntmps18
  go_wp2
  go_ret2
  exact ⟨rfl, Below.refl _ _⟩
theorem rpart_any (a num den : Int) (w : World) :
    Calls Try.prog 18 #[.int .i64 a, .int .i64 num, .int .i64 den] w fun e w' => e = .returned (.tuple #[.int .i64 (part2 a num den), .bool (partOk a num den)]) ∧ Below w.heap.size w w' := by
  cases h : mayPart num den with
  | true => unfold part2 partOk; rw [if_pos h, if_pos h]; exact rpart_yes a num den w h
  | false => unfold part2 partOk; rw [if_neg (by rw [h]; decide), if_neg (by rw [h]; decide)]; exact rpart_no a num den w h
theorem rsum_any (A : Option Addr) (n c B : Nat) (l : List Int) (w : World) (hr : Reads w B 1 A n (l.map (Value.int .i64))) (hn : n ≤ 9223372036854775807) :
    Calls Try.prog 20 #[.slice A n c] w fun e w' => e = .returned (.tuple #[.int .i64 (sumL l).1, .bool (sumL l).2]) ∧ w = w' := by
  have hl : l.length = n := by have := hr.1; simpa using this
  go_enter Try.func20, Try.ntmps20
  go_wp2
  go_loop [4, 5, 6] (fun s e i => ∃ k : Nat, k ≤ n ∧ i = .int .i64 k ∧ s = .int .i64 (sumL (l.take k)).1 ∧ e = .bool (sumL (l.take k)).2) (fun _ _ i => n - (intOf i).toNat)
  case atStart => exact ⟨0, Nat.zero_le _, rfl, rfl, rfl⟩
  case round =>
    obtain ⟨k, hk, rfl, rfl, rfl⟩ := hrel
    by_cases hlt : k < n
    · obtain ⟨ad, u, rfl, hb, hx, hcell⟩ := hr.at_ hlt
      have hkl : k < l.length := by omega
      obtain rfl : u = .int .i64 l[k] := by
        rw [List.getElem?_map, List.getElem?_eq_getElem hkl] at hx
        simpa using hx.symm
      have HS : Hid (sumL (l.take (k + 1)) = sumStep (sumL (l.take k)) l[k]) := by
        rw [List.take_succ_eq_append_getElem hkl, sumL_snoc]; exact rfl
      clear hx hl
      have hadd := radd_any (sumL (l.take k)).1 l[k] w
      cases he : (sumL (l.take k)).2 <;> have HE := Lib.hid he <;> clear he
      all_goals
        go_wp2_with (go_at_call 12; refine Calls.mono hadd ?_; rintro e w' ⟨rfl, rfl⟩)
        go_round
        case rel => exact ⟨k + 1, by omega, by go_num, by rw [HS.out]; rfl, by rw [HS.out]; unfold sumStep; rw [HE.out]; rfl⟩
        case measure => simp [intOf]; omega
    · go_wp2
      go_ret2
      have : l.take k = l := List.take_of_length_le (by omega)
      exact ⟨by rw [this]; rfl, rfl⟩
end Go.Proofs.Ytlokmmhdoocmeaa
