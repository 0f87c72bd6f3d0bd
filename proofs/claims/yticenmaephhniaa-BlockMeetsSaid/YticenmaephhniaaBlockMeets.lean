/- Rows.BlockMeetsSaid: the law's walk, but for awake. Conditions: what awake answers. -/
import Derived.Test.YticenmaephhniaaBlockA
import Derived.Test.YticenmaephhniaaRx1Clamp
import Derived.Test.YticenmaephhniaaBlk
import Derived.Test.YticenmaephhniaaFixMath2
namespace Go.Proofs.Yticenmaephhniaa
open Go.ChangeShapes Go.WideShapes Go.ChangeAt Go.RowKit
namespace blockMeets
theorem meet_comm (a b : Int) : meetF b a = meetF a b := by
  unfold meetF
  rw [add2_comm, addOk_comm, Int.max_comm, Int.min_comm]
  by_cases h1 : 0 ≤ a ∧ 0 ≤ b
  · rw [if_pos h1, if_pos h1.symm]
  · rw [if_neg h1, if_neg (fun h => h1 h.symm)]
    by_cases h2 : a < 0 ∧ b < 0
    · rw [if_pos h2, if_pos h2.symm]
    · rw [if_neg h2, if_neg (fun h => h2 h.symm)]
theorem meet_at {a b : Int} (ha : ok a = true) (hb : ok b = true) : (meetF a b).2 = true ∧
    (0 ≤ a → 0 ≤ b → (meetF a b).1 = max a b) ∧ (a < 0 → b < 0 → (meetF a b).1 = min a b) ∧ (¬ (0 ≤ a ∧ 0 ≤ b) → ¬ (a < 0 ∧ b < 0) → (meetF a b).1 = a + b) := by
  have h1 := ok_iff.1 ha
  have h2 := ok_iff.1 hb
  unfold meetF
  by_cases h3 : 0 ≤ a ∧ 0 ≤ b
  · rw [if_pos h3]; exact ⟨rfl, fun _ _ => rfl, fun h => by omega, fun h => absurd h3 h⟩
  · rw [if_neg h3]
    by_cases h4 : a < 0 ∧ b < 0
    · rw [if_pos h4]; exact ⟨rfl, fun h h' => absurd ⟨h, h'⟩ h3, fun _ _ => rfl, fun _ h => absurd h4 h⟩
    · rw [if_neg h4]
      have os : ok (a + b) = true := ok_iff.2 (by omega)
      have e1 : addOk a b = true := by unfold addOk; rw [ok_cl ha, ok_cl hb, ha, hb, os]; rfl
      have e2 : add2 a b = a + b := by unfold add2; rw [ok_cl ha, ok_cl hb, ok_cl os]
      exact ⟨e1, fun h h' => absurd ⟨h, h'⟩ h3, fun h h' => absurd ⟨h, h'⟩ h4, fun _ _ => e2⟩
theorem meet_zero {a : Int} (ha : ok a = true) : meetF a 0 = (a, true) := by
  have h1 := ok_iff.1 ha
  obtain ⟨m1, m2, m3, m4⟩ := meet_at ha (show ok 0 = true by decide)
  refine Prod.ext ?_ m1
  rcases Int.lt_or_le a 0 with h | h
  · rw [m4 (by omega) (by omega)]; simp
  · rw [m2 h (by omega)]; simp only; omega
set_option maxHeartbeats 8000000 in
set_option maxRecDepth 100000 in
theorem walk (cA : ∀ w, Calls Try.prog 5 #[] w fun e w' => e = .returned (.bool true) ∧ Below w.heap.size w w') (a b : Int) (W : World) :
    Calls Try.prog 3 #[.int .i64 a, .int .i64 b] W fun e W' => e = .returned (.bool true) ∧ Below W.heap.size W W' := by
  have r1 := fun w => rclamp_any a w
  have r2 := fun w => rclamp_any b w
  cases ha : ok a <;> cases hb : ok b
  case true.true =>
    have h1 := ok_iff.1 ha
    have h2 := ok_iff.1 hb
    have k1 := fun w => meet_any a b w
    have k2 := fun w => meet_any b a w
    have k3 := fun w => meet_any a 0 w
    obtain ⟨m1, m2, m3, m4⟩ := meet_at ha hb
    rw [meet_comm a b] at k2
    rw [meet_zero ha] at k3
    rw [m1] at k1 k2
    rw [ha] at r1
    rw [hb] at r2
    generalize (meetF a b).1 = m at *
    generalize cl a = ca at *
    generalize cl b = cb at *
    clear m1 ha hb
    have hcase : (0 ≤ a ∧ 0 ≤ b ∧ m = max a b) ∨ (a < 0 ∧ b < 0 ∧ m = min a b) ∨ (0 ≤ a ∧ b < 0 ∧ m = a + b) ∨ (a < 0 ∧ 0 ≤ b ∧ m = a + b) := by
      rcases Int.lt_or_le a 0 with h | h <;> rcases Int.lt_or_le b 0 with h' | h'
      · exact .inr (.inl ⟨h, h', m3 h h'⟩)
      · exact .inr (.inr (.inr ⟨h, h', m4 (by omega) (by omega)⟩))
      · exact .inr (.inr (.inl ⟨h, h', m4 (by omega) (by omega)⟩))
      · exact .inl ⟨h, h', m2 h h'⟩
    clear m2 m3 m4
    have ab : IntKind.i64.wrap (a + b) = a + b := by rw [IntKind.wrap_i64]; omega
    rcases hcase with ⟨c1, c2, c3⟩ | ⟨c1, c2, c3⟩ | ⟨c1, c2, c3⟩ | ⟨c1, c2, c3⟩
    · have q1 : a ≤ m := by omega
      have q2 : b ≤ m := by omega
      have q5 : ¬ a < 0 := by omega
      rcases (show m = a ∨ (m = b ∧ ¬ m = a) by omega) with q3 | ⟨q3, q4⟩
      · subst q3
        clear c3
        go_enter Try.func3, Try.ntmps3
        go_wp2_with (first
          | (go_at_call 5; (with_reducible refine (cA _).mono ?_); rintro e w1 ⟨rfl, hb1⟩)
          | (go_at_call 6; (first | ((with_reducible refine (r1 _).mono ?_); rintro e w' ⟨rfl, rfl⟩) | ((with_reducible refine (r2 _).mono ?_); rintro e w' ⟨rfl, rfl⟩)))
          | (go_at_call 7; (first | ((with_reducible refine (k1 _).mono ?_); rintro e w' ⟨rfl, rfl⟩) | ((with_reducible refine (k2 _).mono ?_); rintro e w' ⟨rfl, rfl⟩) | ((with_reducible refine (k3 _).mono ?_); rintro e w' ⟨rfl, rfl⟩))))
        go_ret
        exact ⟨rfl, hb1⟩
      · subst q3
        have q6 : (m == a) = false := by simpa using q4
        clear c3
        go_enter Try.func3, Try.ntmps3
        go_wp2_with (first
          | (go_at_call 5; (with_reducible refine (cA _).mono ?_); rintro e w1 ⟨rfl, hb1⟩)
          | (go_at_call 6; (first | ((with_reducible refine (r1 _).mono ?_); rintro e w' ⟨rfl, rfl⟩) | ((with_reducible refine (r2 _).mono ?_); rintro e w' ⟨rfl, rfl⟩)))
          | (go_at_call 7; (first | ((with_reducible refine (k1 _).mono ?_); rintro e w' ⟨rfl, rfl⟩) | ((with_reducible refine (k2 _).mono ?_); rintro e w' ⟨rfl, rfl⟩) | ((with_reducible refine (k3 _).mono ?_); rintro e w' ⟨rfl, rfl⟩))))
        go_ret
        exact ⟨rfl, hb1⟩
    · have q1 : m ≤ a := by omega
      have q2 : m ≤ b := by omega
      have q5 : ¬ 0 ≤ a := by omega
      rcases (show m = a ∨ (m = b ∧ ¬ m = a) by omega) with q3 | ⟨q3, q4⟩
      · subst q3
        clear c3
        go_enter Try.func3, Try.ntmps3
        go_wp2_with (first
          | (go_at_call 5; (with_reducible refine (cA _).mono ?_); rintro e w1 ⟨rfl, hb1⟩)
          | (go_at_call 6; (first | ((with_reducible refine (r1 _).mono ?_); rintro e w' ⟨rfl, rfl⟩) | ((with_reducible refine (r2 _).mono ?_); rintro e w' ⟨rfl, rfl⟩)))
          | (go_at_call 7; (first | ((with_reducible refine (k1 _).mono ?_); rintro e w' ⟨rfl, rfl⟩) | ((with_reducible refine (k2 _).mono ?_); rintro e w' ⟨rfl, rfl⟩) | ((with_reducible refine (k3 _).mono ?_); rintro e w' ⟨rfl, rfl⟩))))
        go_ret
        exact ⟨rfl, hb1⟩
      · subst q3
        have q6 : (m == a) = false := by simpa using q4
        clear c3
        go_enter Try.func3, Try.ntmps3
        go_wp2_with (first
          | (go_at_call 5; (with_reducible refine (cA _).mono ?_); rintro e w1 ⟨rfl, hb1⟩)
          | (go_at_call 6; (first | ((with_reducible refine (r1 _).mono ?_); rintro e w' ⟨rfl, rfl⟩) | ((with_reducible refine (r2 _).mono ?_); rintro e w' ⟨rfl, rfl⟩)))
          | (go_at_call 7; (first | ((with_reducible refine (k1 _).mono ?_); rintro e w' ⟨rfl, rfl⟩) | ((with_reducible refine (k2 _).mono ?_); rintro e w' ⟨rfl, rfl⟩) | ((with_reducible refine (k3 _).mono ?_); rintro e w' ⟨rfl, rfl⟩))))
        go_ret
        exact ⟨rfl, hb1⟩
    · subst c3
      have q5 : ¬ a < 0 := by omega
      have q6 : ¬ 0 ≤ b := by omega
      go_enter Try.func3, Try.ntmps3
      go_wp2_with (first
        | (go_at_call 5; (with_reducible refine (cA _).mono ?_); rintro e w1 ⟨rfl, hb1⟩)
        | (go_at_call 6; (first | ((with_reducible refine (r1 _).mono ?_); rintro e w' ⟨rfl, rfl⟩) | ((with_reducible refine (r2 _).mono ?_); rintro e w' ⟨rfl, rfl⟩)))
        | (go_at_call 7; (first | ((with_reducible refine (k1 _).mono ?_); rintro e w' ⟨rfl, rfl⟩) | ((with_reducible refine (k2 _).mono ?_); rintro e w' ⟨rfl, rfl⟩) | ((with_reducible refine (k3 _).mono ?_); rintro e w' ⟨rfl, rfl⟩))))
      go_ret
      exact ⟨rfl, hb1⟩
    · subst c3
      have q5 : ¬ b < 0 := by omega
      have q6 : ¬ 0 ≤ a := by omega
      go_enter Try.func3, Try.ntmps3
      go_wp2_with (first
        | (go_at_call 5; (with_reducible refine (cA _).mono ?_); rintro e w1 ⟨rfl, hb1⟩)
        | (go_at_call 6; (first | ((with_reducible refine (r1 _).mono ?_); rintro e w' ⟨rfl, rfl⟩) | ((with_reducible refine (r2 _).mono ?_); rintro e w' ⟨rfl, rfl⟩)))
        | (go_at_call 7; (first | ((with_reducible refine (k1 _).mono ?_); rintro e w' ⟨rfl, rfl⟩) | ((with_reducible refine (k2 _).mono ?_); rintro e w' ⟨rfl, rfl⟩) | ((with_reducible refine (k3 _).mono ?_); rintro e w' ⟨rfl, rfl⟩))))
      go_ret
      exact ⟨rfl, hb1⟩
  all_goals
    have k1 := fun w => meet_any a b w
    have k2 := fun w => meet_any b a w
    have k3 := fun w => meet_any a 0 w
    rw [ha] at r1
    rw [hb] at r2
    generalize cl a = ca at *
    generalize cl b = cb at *
    clear ha hb
    go_enter Try.func3, Try.ntmps3
    go_wp2_with (first
      | (go_at_call 5; (with_reducible refine (cA _).mono ?_); rintro e w1 ⟨rfl, hb1⟩)
      | (go_at_call 6; (first | ((with_reducible refine (r1 _).mono ?_); rintro e w' ⟨rfl, rfl⟩) | ((with_reducible refine (r2 _).mono ?_); rintro e w' ⟨rfl, rfl⟩)))
      | (go_at_call 7; (first | ((with_reducible refine (k1 _).mono ?_); rintro e w' ⟨rfl, rfl⟩) | ((with_reducible refine (k2 _).mono ?_); rintro e w' ⟨rfl, rfl⟩) | ((with_reducible refine (k3 _).mono ?_); rintro e w' ⟨rfl, rfl⟩))))
    go_ret
    exact ⟨rfl, hb1⟩
end blockMeets
end Go.Proofs.Yticenmaephhniaa
