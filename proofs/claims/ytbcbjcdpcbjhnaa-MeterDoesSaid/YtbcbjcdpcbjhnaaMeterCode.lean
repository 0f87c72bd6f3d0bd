/- What the landed package meter's functions answer. Conditions: none. -/
import Derived.Test.YtbcbjcdpcbjhnaaMeterSpec
import Derived.Deep.QuietTactic
import Derived.BigQuiet
import Derived.Outline
namespace Go.Proofs.Ytbcbjcdpcbjhnaa
open Go.ChangeShapes Go.WideShapes Go.ChangeAt Go.RowKit
theorem blk3' {w : World} {g : Nat} {t : TypeId} {a b c : Value} (h : Blk w g t #[a, b, c]) :
    w.cell? ⟨g, 0, none⟩ = some a ∧ w.cell? ⟨g, 1, none⟩ = some b ∧ w.cell? ⟨g, 2, none⟩ = some c := ⟨h.cell 0, h.cell 1, h.cell 2⟩
theorem new_any : NewC := by
  intro lim w h1 h2
  go_enter Try.func7, Try.ntmps7
  go_wp2
  go_ret2
  exact ⟨rfl, Blk.new w _ _, below_al (Below.refl _ _) _⟩
theorem no_any : NoC := by
  intro lim w h
  rcases h with h | h
  · go_enter Try.func7, Try.ntmps7
    go_wp2
    go_ret2
    exact ⟨rfl, Below.refl _ _⟩
  · have h' : 0 ≤ lim := by omega
    go_enter Try.func7, Try.ntmps7
    go_wp2
    go_ret2
    exact ⟨rfl, Below.refl _ _⟩
theorem taken_any : TakenC := by
  intro g lim t o w hm hk
  obtain ⟨c0, c1, c2⟩ := blk3' hk
  clear hk hm
  go_enter Try.func13, Try.ntmps13
  go_wp2
  go_ret
  exact ⟨rfl, rfl⟩
theorem over_any : OverC := by
  intro g lim t o w hm hk
  obtain ⟨c0, c1, c2⟩ := blk3' hk
  clear hk hm
  go_enter Try.func15, Try.ntmps15
  go_wp2
  go_ret
  exact ⟨rfl, rfl⟩
theorem quiet_left {P : Program} {f : FuncId} {args : Array Value} {w : World} {n : Nat} {v : Value}
    (h : Calls P f args (w.drewN n) fun e w' => e = .returned v ∧ w.drewN n = w') : Calls P f args (w.drewN n) fun e w'' => e = .returned v ∧ ∃ m, w'' = w.drewN m :=
  h.mono fun _ _ ⟨he, hm⟩ => ⟨he, n, hm.symm⟩
theorem left_any : LeftC := by
  intro g lim t o w hm hk
  have ct := fun n => taken_any g lim t o (w.drewN n) hm (hk.drewN n)
  obtain ⟨c0, c1, c2⟩ := blk3' hk
  obtain ⟨m1, m2, m3, -⟩ := hm
  have s1 := IntWalk.i64_in (lim - t) (by omega)
  go_enter Try.func14, Try.ntmps14
  go_wp2_with fail
  go_quiet ((go_at_call 13; exact quiet_left (ct _)))
  go_wp2
  go_ret
  exact ⟨rfl, _, rfl⟩
/-- May a count be? -/
def cnt (n : Int) : Bool := decide (0 ≤ n) && decide (n ≤ 1048576)
theorem bound_cnt (a b c : Int) : bound a b c = if (cnt a && cnt b && cnt c) = true then a * b + a * a + c + 1 else 0 := by
  unfold bound cnt
  by_cases h : 0 ≤ a ∧ 0 ≤ b ∧ 0 ≤ c ∧ a ≤ 1048576 ∧ b ≤ 1048576 ∧ c ≤ 1048576
  · rw [if_pos h, if_pos (by simp only [Bool.and_eq_true, decide_eq_true_eq]; omega), Int.mul_add]
  · rw [if_neg h, if_neg (by simp only [Bool.and_eq_true, decide_eq_true_eq]; omega)]
theorem sq_le {a b : Int} (h1 : 0 ≤ a) (h2 : a ≤ 1048576) (h3 : 0 ≤ b) (h4 : b ≤ 1048576) : 0 ≤ a * b ∧ a * b ≤ 1099511627776 :=
  ⟨Int.mul_nonneg h1 h3, Int.le_trans (Int.mul_le_mul h2 h4 h3 (by decide)) (by decide)⟩
theorem cnt_no {n : Int} (h : n < 0 ∨ 1048576 < n) : cnt n = false := by unfold cnt; simp; omega
theorem cnt_yes {n : Int} (h1 : 0 ≤ n) (h2 : n ≤ 1048576) : cnt n = true := by unfold cnt; simp; omega
theorem cnt_is {n : Int} (h : cnt n = true) : 0 ≤ n ∧ n ≤ 1048576 := by unfold cnt at h; simpa using h
set_option maxHeartbeats 2000000 in
theorem bound_any : BoundC := by
  intro a b c w
  have e0 := bound_cnt a b c
  rw [e0]; clear e0
  have i0 : ∀ w, (Instr.index 53 (.agg #[.int .i64 a, .int .i64 b, .int .i64 c]) (.int .i64 0)).run Try.prog w = .ok (.int .i64 a) w := fun _ => by kernel_rfl
  have i1 : ∀ w, (Instr.index 53 (.agg #[.int .i64 a, .int .i64 b, .int .i64 c]) (.int .i64 1)).run Try.prog w = .ok (.int .i64 b) w := fun _ => by kernel_rfl
  have i2 : ∀ w, (Instr.index 53 (.agg #[.int .i64 a, .int .i64 b, .int .i64 c]) (.int .i64 2)).run Try.prog w = .ok (.int .i64 c) w := fun _ => by kernel_rfl
  have N : ∀ v : Int, (cnt a = false ∨ cnt b = false ∨ cnt c = false) → (if (cnt a && cnt b && cnt c) = true then v else 0) = 0 := by
    intro v h
    rw [if_neg]
    rcases h with h | h | h <;> rw [h] <;> simp
  have Y : ∀ v : Int, cnt a = true → cnt b = true → cnt c = true → (if (cnt a && cnt b && cnt c) = true then v else 0) = v := by
    intro v h1 h2 h3
    rw [if_pos]
    rw [h1, h2, h3]; rfl
  have N' := Lib.hid (N (a * b + a * a + c + 1))
  have Y' := Lib.hid (Y (a * b + a * a + c + 1))
  clear N Y
  generalize (if (cnt a && cnt b && cnt c) = true then a * b + a * a + c + 1 else 0) = r at *
  go_enter Try.func9, Try.ntmps9
  go_wp2
  go_loop [13] (fun i => i = .int .i64 0 ∨ (i = .int .i64 1 ∧ cnt a = true) ∨ (i = .int .i64 2 ∧ cnt a = true ∧ cnt b = true) ∨ (i = .int .i64 3 ∧ cnt a = true ∧ cnt b = true ∧ cnt c = true)) (fun i => 3 - (intOf i).toNat)
  case atStart => exact Or.inl rfl
  case round =>
    rcases hrel with rfl | ⟨rfl, k1⟩ | ⟨rfl, k1, k2⟩ | ⟨rfl, k1, k2, k3⟩
    · skip
      by_cases h1 : a < 0
      · obtain rfl := N'.out (Or.inl (cnt_no (Or.inl h1)))
        go_wp2
        go_ret
        exact ⟨rfl, Below.refl _ _⟩
      · have h1' : 0 ≤ a := by omega
        by_cases h2 : a ≤ 1048576
        · have H3 := Lib.hid (cnt_yes h1' h2)
          go_wp2
          go_round
          case rel => exact Or.inr (Or.inl ⟨rfl, H3.out⟩)
          case measure => decide
        · obtain rfl := N'.out (Or.inl (cnt_no (Or.inr (by omega))))
          go_wp2
          go_ret
          exact ⟨rfl, Below.refl _ _⟩
    · skip
      have K1 := Lib.hid k1; clear k1
      by_cases h1 : b < 0
      · obtain rfl := N'.out (Or.inr (Or.inl (cnt_no (Or.inl h1))))
        go_wp2
        go_ret
        exact ⟨rfl, Below.refl _ _⟩
      · have h1' : 0 ≤ b := by omega
        by_cases h2 : b ≤ 1048576
        · have H3 := Lib.hid (cnt_yes h1' h2)
          go_wp2
          go_round
          case rel => exact Or.inr (Or.inr (Or.inl ⟨rfl, K1.out, H3.out⟩))
          case measure => decide
        · obtain rfl := N'.out (Or.inr (Or.inl (cnt_no (Or.inr (by omega)))))
          go_wp2
          go_ret
          exact ⟨rfl, Below.refl _ _⟩
    · skip
      have K1 := Lib.hid k1; clear k1
      have K2 := Lib.hid k2; clear k2
      by_cases h1 : c < 0
      · obtain rfl := N'.out (Or.inr (Or.inr (cnt_no (Or.inl h1))))
        go_wp2
        go_ret
        exact ⟨rfl, Below.refl _ _⟩
      · have h1' : 0 ≤ c := by omega
        by_cases h2 : c ≤ 1048576
        · have H3 := Lib.hid (cnt_yes h1' h2)
          go_wp2
          go_round
          case rel => exact Or.inr (Or.inr (Or.inr ⟨rfl, K1.out, K2.out, H3.out⟩))
          case measure => decide
        · obtain rfl := N'.out (Or.inr (Or.inr (cnt_no (Or.inr (by omega)))))
          go_wp2
          go_ret
          exact ⟨rfl, Below.refl _ _⟩
    · obtain rfl := Y'.out k1 k2 k3
      obtain ⟨a1, a2⟩ := cnt_is k1
      obtain ⟨b1, b2⟩ := cnt_is k2
      obtain ⟨c1, c2⟩ := cnt_is k3
      obtain ⟨p1, p2⟩ := sq_le a1 a2 b1 b2
      obtain ⟨q1, q2⟩ := sq_le a1 a2 a1 a2
      clear k1 k2 k3
      go_wp2
      go_ret
      exact ⟨rfl, Below.refl _ _⟩
theorem fz3 {w : World} {g : Nat} {t : TypeId} {a b c : Value} (h : Blk w g t #[a, b, c]) :
    w.frozen? ⟨g, 0, none⟩ = false ∧ w.frozen? ⟨g, 1, none⟩ = false ∧ w.frozen? ⟨g, 2, none⟩ = false := ⟨h.frozen 0, h.frozen 1, h.frozen 2⟩
theorem grown_same (w : World) (n g : Nat) : w.grownBy (w.drewN n) (some g) := ⟨rfl, rfl, rfl, Nat.le_refl _, fun _ _ _ => rfl⟩
theorem grown_self (w : World) (g : Nat) : w.grownBy w (some g) := ⟨rfl, rfl, rfl, Nat.le_refl _, fun _ _ _ => rfl⟩
theorem grown_set {w w' : World} {g : Nat} (h : w.grownBy w' (some g)) (i : Nat) (v : Value) : w.grownBy (w'.setCell ⟨g, i, none⟩ v) (some g) := by
  refine ⟨h.os, h.tape, h.output, ?_, fun k hk hne => ?_⟩
  · have := h.size
    unfold World.setCell
    simpa using this
  · rw [Below.heap_setCell _ _ _ k (fun e => hne (by rw [e]))]
    exact h.block k hk hne
set_option maxHeartbeats 2000000 in
theorem take_any : TakeC := by
  intro g lim t o n w hm hk
  have co := fun w K => over_any g lim t o w hm K
  have cl := fun w K => left_any g lim t o w hm K
  have hm' := hm
  obtain ⟨m1, m2, m3, -⟩ := hm'
  clear hm
  rcases take_ways lim t o n with ⟨rfl, p, q, r⟩ | ⟨rfl, y1, p, q, r⟩ | ⟨rfl, y1, y2, p, q, r⟩ | ⟨rfl, y1, y2, p, q, r⟩
  all_goals rw [p, q, r]; clear p q r
  · clear cl
    go_enter Try.func11, Try.ntmps11
    go_wp2_with (go_at_call 15; (with_reducible refine (co _ hk).mono ?_); rintro e w' ⟨rfl, rfl⟩)
    go_ret
    exact ⟨rfl, hk, grown_self _ _⟩
  · clear cl
    go_enter Try.func11, Try.ntmps11
    go_wp2_with (go_at_call 15; (with_reducible refine (co _ hk).mono ?_); rintro e w' ⟨rfl, rfl⟩)
    go_ret
    exact ⟨rfl, hk, grown_self _ _⟩
  · obtain ⟨c0, c1, c2⟩ := blk3' hk
    obtain ⟨f0, f1, f2⟩ := fz3 hk
    go_enter Try.func11, Try.ntmps11
    go_wp2_with (first
      | (go_at_call 15; (with_reducible refine (co _ hk).mono ?_); rintro e w' ⟨rfl, rfl⟩)
      | (go_at_call 14; (with_reducible refine (cl _ hk).mono ?_); rintro e w' ⟨rfl, k, rfl⟩))
    go_ret
    exact ⟨rfl, ((hk.drewN k).set_ 1 _).set_ 2 _, grown_set (grown_set (grown_same _ _ _) _ _) _ _⟩
  · obtain ⟨c0, c1, c2⟩ := blk3' hk
    obtain ⟨f0, f1, f2⟩ := fz3 hk
    go_enter Try.func11, Try.ntmps11
    go_wp2_with (first
      | (go_at_call 15; (with_reducible refine (co _ hk).mono ?_); rintro e w' ⟨rfl, rfl⟩)
      | (go_at_call 14; (with_reducible refine (cl _ hk).mono ?_); rintro e w' ⟨rfl, k, rfl⟩))
    go_ret
    exact ⟨rfl, (hk.drewN k).set_ 1 _, grown_set (grown_same _ _ _) _ _⟩
end Go.Proofs.Ytbcbjcdpcbjhnaa
