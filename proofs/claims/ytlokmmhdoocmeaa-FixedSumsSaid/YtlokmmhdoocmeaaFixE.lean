/- What Mul, Part and Sum of package fixed answer. Conditions: Sum's list lies in memory as it is read, and is no longer than a slice may be. -/
import Derived.Test.YtlokmmhdoocmeaaFixD
namespace Go.Proofs.Ytlokmmhdoocmeaa
open Go.ChangeShapes Go.WideShapes Go.ChangeAt Go.RowKit
theorem prod_same (a b : Int) (h : decide (a < 0) = decide (b < 0)) : prod a b = ((a.natAbs * b.natAbs / 64 : Nat) : Int) := by
  have e : a * b = ((a.natAbs * b.natAbs : Nat) : Int) := by
    rw [Int.natCast_mul]
    by_cases ha : a < 0
    · have hb : b < 0 := by rw [decide_eq_true ha] at h; exact of_decide_eq_true h.symm
      rw [Int.ofNat_natAbs_of_nonpos (by omega), Int.ofNat_natAbs_of_nonpos (by omega), Int.neg_mul_neg]
    · have hb : ¬ b < 0 := by rw [decide_eq_false ha] at h; exact of_decide_eq_false h.symm
      rw [Int.natAbs_of_nonneg (by omega), Int.natAbs_of_nonneg (by omega)]
  unfold prod
  rw [e]
  rfl
theorem prod_other (a b : Int) (h : ¬ decide (a < 0) = decide (b < 0)) : prod a b = - ((a.natAbs * b.natAbs / 64 : Nat) : Int) := by
  have e : a * b = - ((a.natAbs * b.natAbs : Nat) : Int) := by
    rw [Int.natCast_mul]
    by_cases ha : a < 0
    · have hb : ¬ b < 0 := fun hb => h (by rw [decide_eq_true ha, decide_eq_true hb])
      rw [Int.ofNat_natAbs_of_nonpos (by omega), Int.natAbs_of_nonneg (a := b) (by omega), Int.neg_mul, Int.neg_neg]
    · have hb : b < 0 := by
        by_cases hb : b < 0
        · exact hb
        · exact absurd (by rw [decide_eq_false ha, decide_eq_false hb]) h
      rw [Int.natAbs_of_nonneg (by omega), Int.ofNat_natAbs_of_nonpos (a := b) (by omega), Int.mul_neg, Int.neg_neg]
  unfold prod
  rw [e, Int.neg_tdiv]
  rfl
theorem mulR_prod (a b : Int) : cl (mulR a b) = cl (prod a b) ∧ ok (mulR a b) = ok (prod a b) := by
  have hp : pbu a.natAbs b.natAbs = ((a.natAbs * b.natAbs / 64 : Nat) : Int) ∨ (pbu a.natAbs b.natAbs = 1099511627777 ∧ (1099511627777 : Int) ≤ ((a.natAbs * b.natAbs / 64 : Nat) : Int)) := by
    unfold pbu
    generalize a.natAbs * b.natAbs = p
    split
    · exact Or.inl rfl
    · exact Or.inr ⟨rfl, by omega⟩
  by_cases h : decide (a < 0) = decide (b < 0)
  · rw [prod_same a b h]
    unfold mulR
    rw [if_pos h]
    rcases hp with hp | ⟨hp, hq⟩
    · rw [hp]; exact ⟨rfl, rfl⟩
    · rw [hp]
      generalize ((a.natAbs * b.natAbs / 64 : Nat) : Int) = q at hq
      rcases cl_eq q with ⟨_, h1, h2⟩ | ⟨_, _, _⟩ | ⟨_, _, _, _⟩
      · rw [h1, h2]; exact ⟨by decide, by decide⟩
      · omega
      · omega
  · rw [prod_other a b h]
    unfold mulR
    rw [if_neg h]
    rcases hp with hp | ⟨hp, hq⟩
    · rw [hp]; exact ⟨rfl, rfl⟩
    · rw [hp]
      generalize ((a.natAbs * b.natAbs / 64 : Nat) : Int) = q at hq
      rcases cl_eq (-q) with ⟨_, _, _⟩ | ⟨_, h1, h2⟩ | ⟨_, _, _, _⟩
      · omega
      · rw [h1, h2]; exact ⟨by decide, by decide⟩
      · omega
theorem mul_any (a b : Int) (w : World) : Calls Try.prog 15 #[.int .i64 a, .int .i64 b] w fun e w' => e = .returned (.tuple #[.int .i64 (mul2 a b), .bool (mulOk a b)]) ∧ w = w' := by
  have hc := counted_mul a b (mulR (cl a) (cl b)) w (mul1_any _ _ w (cl_lo a) (cl_hi a) (cl_lo b) (cl_hi b))
  rw [(mulR_prod _ _).1, (mulR_prod _ _).2] at hc
  unfold mul2 mulOk
  generalize cl (prod (cl a) (cl b)) = r at hc ⊢
  generalize (ok a && (ok b && ok (prod (cl a) (cl b)))) = o at hc ⊢
  go_enter Try.func15, Try.ntmps15
  go_wp2_with (go_at_call 24; refine Calls.mono hc ?_; rintro e w' ⟨rfl, rfl⟩)
  go_ret2
  exact ⟨rfl, rfl⟩
/-! ### parts -/
theorem part1_any (a num den : Int) (p : Addr) (w : World) (h1 : -1099511627776 ≤ a) (h2 : a ≤ 1099511627776) (h3 : 0 ≤ num) (h4 : num ≤ 1048576) (h5 : 1 ≤ den) (h6 : den ≤ 1048576)
    (hc : w.cell? p = some (.int .i64 den)) :
    Calls Try.prog 31 #[.int .i64 a, .int .i64 num, .pointer (some p)] w fun e w' => e = .returned (.int .i64 ((a * num).tdiv den)) ∧ w = w' := by
  have hm1 : a * num ≤ 1152921504606846976 := by
    have := Int.mul_le_mul_of_nonneg_right h2 h3
    omega
  have hm2 : -1152921504606846976 ≤ a * num := by
    have := Int.mul_le_mul_of_nonneg_right h1 h3
    omega
  obtain ⟨q, hq⟩ : ∃ q, q = a * num := ⟨_, rfl⟩
  rw [← hq] at hm1 hm2
  have hw : IntKind.i64.wrap (a * num) = q := by rw [IntKind.wrap_i64, ← hq]; omega
  have hd : (den == 0) = false := by simp; omega
  go_enter Try.func31, Try.ntmps31
  go_wp2
  go_ret
  exact ⟨rfl, rfl⟩
theorem part_no (a num den : Int) (w : World) (h : mayPart num den = false) :
    Calls Try.prog 17 #[.int .i64 a, .int .i64 num, .int .i64 den] w fun e w' => e = .returned (.tuple #[.int .i64 0, .bool false]) ∧ Below w.heap.size w w' := by
  have h' := of_decide_eq_false h
  clear h
  by_cases h1 : num < 0
  · clear h'
    go_enter Try.func17, Try.ntmps17
    go_wp2
    go_ret2
    exact ⟨rfl, (Below.refl _ _).alloc (Nat.le_refl _) _⟩
  have h1' : 0 ≤ num := by omega
  by_cases h2 : 1048576 < num
  · clear h' h1
    go_enter Try.func17, Try.ntmps17
    go_wp2
    go_ret2
    exact ⟨rfl, (Below.refl _ _).alloc (Nat.le_refl _) _⟩
  have h2' : num ≤ 1048576 := by omega
  by_cases h3 : den < 1
  · clear h' h1 h2
    go_enter Try.func17, Try.ntmps17
    go_wp2
    go_ret2
    exact ⟨rfl, (Below.refl _ _).alloc (Nat.le_refl _) _⟩
  have h3' : 1 ≤ den := by omega
  have h4 : 1048576 < den := by omega
  clear h' h1 h2 h3
  go_enter Try.func17, Try.ntmps17
  go_wp2
  go_ret2
  exact ⟨rfl, (Below.refl _ _).alloc (Nat.le_refl _) _⟩
theorem part_yes (a num den : Int) (w : World) (h : mayPart num den = true) :
    Calls Try.prog 17 #[.int .i64 a, .int .i64 num, .int .i64 den] w fun e w' => e = .returned (.tuple #[.int .i64 (cl ((cl a * num).tdiv den)), .bool (ok a && ok ((cl a * num).tdiv den))]) ∧ Below w.heap.size w w' := by
  obtain ⟨h1, h2, h3, h4⟩ := of_decide_eq_true h
  clear h
  have onum : ok num = true := ok_iff.2 ⟨by omega, by omega⟩
  have cnum : cl num = num := ok_cl onum
  have hc := fun (p : Addr) (w : World) (hp : w.cell? p = some (.int .i64 den)) => counted_part p a num ((cl a * num).tdiv den) w (by rw [cnum]; exact part1_any (cl a) num den p w (cl_lo a) (cl_hi a) h1 h2 h3 h4 hp)
  rw [onum] at hc
  simp only [Bool.true_and] at hc
  clear onum cnum
  generalize cl ((cl a * num).tdiv den) = r at hc ⊢
  generalize (ok a && ok ((cl a * num).tdiv den)) = o at hc ⊢
  have hmf : ∀ (fn : Fn) (first cap : Array Value) (w : World), (Instr.makeFunc fn first cap).run Try.prog w = .ok (.func fn first cap) w := fun _ _ _ _ => rfl
  go_enter Try.func17, Try.ntmps17
  go_wp2_with (go_at_call 24; refine Calls.mono (hc _ _ (by go_simp)) ?_; rintro e w' ⟨rfl, rfl⟩)
  go_ret2
  exact ⟨rfl, (Below.refl _ _).alloc (Nat.le_refl _) _⟩
theorem part_any (a num den : Int) (w : World) :
    Calls Try.prog 17 #[.int .i64 a, .int .i64 num, .int .i64 den] w fun e w' => e = .returned (.tuple #[.int .i64 (part2 a num den), .bool (partOk a num den)]) ∧ Below w.heap.size w w' := by
  cases h : mayPart num den with
  | true => unfold part2 partOk; rw [if_pos h, if_pos h]; exact part_yes a num den w h
  | false => unfold part2 partOk; rw [if_neg (by rw [h]; decide), if_neg (by rw [h]; decide)]; exact part_no a num den w h
/-! ### sums -/
theorem sum_any (A : Option Addr) (n c B : Nat) (l : List Int) (w : World) (hr : Reads w B 1 A n (l.map (Value.int .i64))) (hn : n ≤ 9223372036854775807) :
    Calls Try.prog 19 #[.slice A n c] w fun e w' => e = .returned (.tuple #[.int .i64 (sumL l).1, .bool (sumL l).2]) ∧ w = w' := by
  have hl : l.length = n := by have := hr.1; simpa using this
  go_enter Try.func19, Try.ntmps19
  go_wp2
  go_loop [4, 5, 12] (fun s e i => ∃ k : Nat, k ≤ n ∧ i = .int .i64 k ∧ s = .int .i64 (sumL (l.take k)).1 ∧ e = .bool (sumL (l.take k)).2) (fun _ _ i => n - (intOf i).toNat)
  case atStart => exact ⟨0, Nat.zero_le _, rfl, rfl, rfl⟩
  case round =>
    obtain ⟨k, hk, rfl, rfl, rfl⟩ := hrel
    by_cases hlt : k < n
    · obtain ⟨ad, u, rfl, hb, hx, hcell⟩ := hr.at_ hlt
      have hkl : k < l.length := by omega
      obtain rfl : u = .int .i64 l[k] := by
        rw [List.getElem?_map, List.getElem?_eq_getElem hkl] at hx
        simpa using hx.symm
      have HS : Hid (sumL (l.take (k + 1)) = sumStep (sumL (l.take k)) l[k]) := by
        rw [List.take_succ_eq_append_getElem hkl, sumL_snoc]; exact rfl
      clear hx hl
      have hadd := add_any (sumL (l.take k)).1 l[k] w
      cases he : (sumL (l.take k)).2 <;> have HE := Lib.hid he <;> clear he
      all_goals
        go_wp2_with (go_at_call 11; refine Calls.mono hadd ?_; rintro e w' ⟨rfl, rfl⟩)
        go_round
        case rel => exact ⟨k + 1, by omega, by go_num, by rw [HS.out]; rfl, by rw [HS.out]; unfold sumStep; rw [HE.out]; rfl⟩
        case measure => simp [intOf]; omega
    · go_wp2
      go_ret2
      have : l.take k = l := List.take_of_length_le (by omega)
      exact ⟨by rw [this]; rfl, rfl⟩
end Go.Proofs.Ytlokmmhdoocmeaa
