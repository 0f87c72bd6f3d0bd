/- What Part of package fixed answers. Conditions: none. -/
import Derived.Test.YtfamhjmdffaphaaFxClamp
namespace Go.Proofs.Ytfamhjmdffaphaa
open Go.ChangeShapes Go.WideShapes Go.ChangeAt Go.RowKit
/-- counted, over the closure of part, by what that answers. -/
theorem counted_part (p : Addr) (a b r : Int) (w : World)
    (hf : Calls Try.prog 29 #[.int .i64 (cl a), .int .i64 (cl b), .pointer (some p)] w fun e w' => e = .returned (.int .i64 r) ∧ w = w') :
    Calls Try.prog 28 #[.int .i64 a, .int .i64 b, .func (.func 29) #[] #[.pointer (some p)]] w fun e w' => e = .returned (.tuple #[.int .i64 (cl r), .bool (ok a && (ok b && ok r))]) ∧ w = w' := by
  have ha := clamp_any a w
  have hb := clamp_any b w
  have hr := clamp_any r w
  generalize ok a = oa at ha ⊢
  generalize ok b = ob at hb ⊢
  generalize ok r = or at hr ⊢
  cases oa <;> cases ob <;> simp only [Bool.true_and, Bool.false_and]
  all_goals
    go_enter Try.func28, Try.ntmps28
    go_wp2_with (first
      | (go_at_call 34; (first | (with_reducible refine Calls.mono ha ?_) | (with_reducible refine Calls.mono hb ?_) | (with_reducible refine Calls.mono hr ?_)); rintro e w' ⟨rfl, rfl⟩)
      | (go_at_call 29; refine Calls.mono hf ?_; rintro e w' ⟨rfl, rfl⟩))
    go_ret2
    exact ⟨rfl, rfl⟩
/-! ### parts -/
theorem part1_any (a num den : Int) (p : Addr) (w : World) (h1 : -1099511627776 ≤ a) (h2 : a ≤ 1099511627776) (h3 : 0 ≤ num) (h4 : num ≤ 1048576) (h5 : 1 ≤ den) (h6 : den ≤ 1048576)
    (hc : w.cell? p = some (.int .i64 den)) :
    Calls Try.prog 29 #[.int .i64 a, .int .i64 num, .pointer (some p)] w fun e w' => e = .returned (.int .i64 ((a * num).tdiv den)) ∧ w = w' := by
  have hm1 : a * num ≤ 1152921504606846976 := by
    have := Int.mul_le_mul_of_nonneg_right h2 h3
    omega
  have hm2 : -1152921504606846976 ≤ a * num := by
    have := Int.mul_le_mul_of_nonneg_right h1 h3
    omega
  obtain ⟨q, hq⟩ : ∃ q, q = a * num := ⟨_, rfl⟩
  rw [← hq] at hm1 hm2
  have hw : IntKind.i64.wrap (a * num) = q := by rw [IntKind.wrap_i64, ← hq]; omega
  have hd : (den == 0) = false := by simp; omega
  go_enter Try.func29, Try.ntmps29
  go_wp2
  go_ret
  exact ⟨rfl, rfl⟩
theorem part_no (a num den : Int) (w : World) (h : mayPart num den = false) :
    Calls Try.prog 18 #[.int .i64 a, .int .i64 num, .int .i64 den] w fun e w' => e = .returned (.tuple #[.int .i64 0, .bool false]) ∧ Below w.heap.size w w' := by
  have h' := of_decide_eq_false h
  clear h
  by_cases h1 : num < 0
  · clear h'
    go_enter Try.func18, Try.ntmps18
    go_wp2
    go_ret2
    exact ⟨rfl, (Below.refl _ _).alloc (Nat.le_refl _) _⟩
  have h1' : 0 ≤ num := by omega
  by_cases h2 : 1048576 < num
  · clear h' h1
    go_enter Try.func18, Try.ntmps18
    go_wp2
    go_ret2
    exact ⟨rfl, (Below.refl _ _).alloc (Nat.le_refl _) _⟩
  have h2' : num ≤ 1048576 := by omega
  by_cases h3 : den < 1
  · clear h' h1 h2
    go_enter Try.func18, Try.ntmps18
    go_wp2
    go_ret2
    exact ⟨rfl, (Below.refl _ _).alloc (Nat.le_refl _) _⟩
  have h3' : 1 ≤ den := by omega
  have h4 : 1048576 < den := by omega
  clear h' h1 h2 h3
  go_enter Try.func18, Try.ntmps18
  go_wp2
  go_ret2
  exact ⟨rfl, (Below.refl _ _).alloc (Nat.le_refl _) _⟩
theorem part_yes (a num den : Int) (w : World) (h : mayPart num den = true) :
    Calls Try.prog 18 #[.int .i64 a, .int .i64 num, .int .i64 den] w fun e w' => e = .returned (.tuple #[.int .i64 (cl ((cl a * num).tdiv den)), .bool (ok a && ok ((cl a * num).tdiv den))]) ∧ Below w.heap.size w w' := by
  obtain ⟨h1, h2, h3, h4⟩ := of_decide_eq_true h
  clear h
  have onum : ok num = true := ok_iff.2 ⟨by omega, by omega⟩
  have cnum : cl num = num := ok_cl onum
  have hc := fun (p : Addr) (w : World) (hp : w.cell? p = some (.int .i64 den)) => counted_part p a num ((cl a * num).tdiv den) w (by rw [cnum]; exact part1_any (cl a) num den p w (cl_lo a) (cl_hi a) h1 h2 h3 h4 hp)
  rw [onum] at hc
  simp only [Bool.true_and] at hc
  clear onum cnum
  generalize cl ((cl a * num).tdiv den) = r at hc ⊢
  generalize (ok a && ok ((cl a * num).tdiv den)) = o at hc ⊢
  have hmf : ∀ (fn : Fn) (first cap : Array Value) (w : World), (Instr.makeFunc fn first cap).run Try.prog w = .ok (.func fn first cap) w := fun _ _ _ _ => rfl
  go_enter Try.func18, Try.ntmps18
  go_wp2_with (go_at_call 28; refine Calls.mono (hc _ _ (by go_simp)) ?_; rintro e w' ⟨rfl, rfl⟩)
  go_ret2
  exact ⟨rfl, (Below.refl _ _).alloc (Nat.le_refl _) _⟩
theorem part_any (a num den : Int) (w : World) :
    Calls Try.prog 18 #[.int .i64 a, .int .i64 num, .int .i64 den] w fun e w' => e = .returned (.tuple #[.int .i64 (part2 a num den), .bool (partOk a num den)]) ∧ Below w.heap.size w w' := by
  cases h : mayPart num den with
  | true => unfold part2 partOk; rw [if_pos h, if_pos h]; exact part_yes a num den w h
  | false => unfold part2 partOk; rw [if_neg (by rw [h]; decide), if_neg (by rw [h]; decide)]; exact part_no a num den w h
end Go.Proofs.Ytfamhjmdffaphaa
