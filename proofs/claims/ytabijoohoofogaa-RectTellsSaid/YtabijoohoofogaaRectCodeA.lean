/- What the landed package rect's tally, May and Has answer. Conditions: none. -/
import Derived.Test.YtabijoohoofogaaRectSpec
import Derived.Test.YtabijoohoofogaaFxAdd
import Derived.Test.YtabijoohoofogaaFxSub
import Derived.Test.YtabijoohoofogaaBlk
import Derived.Lib.MinMax
import Derived.Outline
namespace Go.Proofs.Ytabijoohoofogaa
open Go.ChangeShapes Go.WideShapes Go.ChangeAt Go.RowKit
/-- A tally is known: was anything cut? -/
def Tly (w : World) (g : Nat) (c : Bool) : Prop := Blk w g 56 #[.bool c]
theorem tly_al {w : World} {g : Nat} {c : Bool} (h : Tly w g c) (o : Obj) : Tly (w.alloc o) g c := Blk.alloc h o
theorem tly_dr {w : World} {g : Nat} {c : Bool} (h : Tly w g c) : Tly w.drew g c := h
theorem tly_dn {w : World} {g : Nat} {c : Bool} (h : Tly w g c) (n : Nat) : Tly (w.drewN n) g c := h
theorem tly_set {w : World} {g : Nat} {c : Bool} (h : Tly w g c) (d : Bool) : Tly (w.setCell ⟨g, 0, none⟩ (.bool d)) g d := Blk.set_ h 0 (.bool d)
theorem tly_far {w : World} {g : Nat} {c : Bool} (h : Tly w g c) {p : Addr} (hp : g ≠ p.block) (u : Value) : Tly (w.setCell p u) g c := Blk.far h hp u
theorem number_any (g : Nat) (c : Bool) (n : Int) (e : Bool) (w : World) (h : Tly w g c) :
    Calls Try.prog 35 #[.pointer (some ⟨g, 0, none⟩), .int .i64 n, .bool e] w fun en w' => en = .returned (.int .i64 n) ∧ w.setCell ⟨g, 0, none⟩ (.bool (c || !e)) = w' := by
  have h0 : w.cell? ⟨g, 0, none⟩ = some (.bool c) := h.cell 0
  have f0 := h.frozen 0
  clear h
  cases c <;> cases e
  all_goals
    go_enter Try.func35, Try.ntmps35
    go_wp2
    go_ret
    exact ⟨rfl, rfl⟩
theorem exact_any (g : Nat) (c : Bool) (w : World) (h : Tly w g c) :
    Calls Try.prog 34 #[.pointer (some ⟨g, 0, none⟩)] w fun en w' => en = .returned (.bool (!c)) ∧ w = w' := by
  have h0 : w.cell? ⟨g, 0, none⟩ = some (.bool c) := h.cell 0
  clear h
  cases c
  all_goals
    go_enter Try.func34, Try.ntmps34
    go_wp2
    go_ret
    exact ⟨rfl, rfl⟩
theorem size_any (g : Nat) (c : Bool) (n : Int) (e : Bool) (w : World) (h : Tly w g c) :
    Calls Try.prog 39 #[.pointer (some ⟨g, 0, none⟩), .int .i64 n, .bool e] w fun en w' => en = .returned (.int .i64 (max n 0)) ∧ w.setCell ⟨g, 0, none⟩ (.bool (c || !(e && decide (0 ≤ n)))) = w' := by
  have k := number_any g c (max n 0) (e && decide (0 ≤ n)) w h
  clear h
  cases e
  all_goals
    first | rw [Bool.true_and] at k ⊢ | rw [Bool.false_and] at k ⊢
    go_enter Try.func39, Try.ntmps39
    go_wp2_with (go_at_call 35; (with_reducible refine Calls.mono k ?_); rintro e w' ⟨rfl, ht⟩)
    subst ht
    go_ret
    exact ⟨rfl, rfl⟩
/-- What May has asked so far. -/
def upTo (r : Plc) : Nat → Bool
  | 0 => true
  | 1 => ok r.x
  | 2 => ok r.x && ok r.y
  | 3 => ok r.x && ok r.y && ok r.w
  | _ => ok r.x && ok r.y && ok r.w && ok r.h
theorem mayB_ok (r : Plc) : mayB r = (upTo r 4 && decide (0 ≤ r.w) && decide (0 ≤ r.h)) := by
  apply bool_ext
  rw [mayB_iff]
  unfold upTo
  simp only [Bool.and_eq_true, decide_eq_true_eq, ok_iff]
  omega
theorem may_any : MayC := by
  intro r w
  have cx := fun w => clamp_any r.x w
  have cy := fun w => clamp_any r.y w
  have cw := fun w => clamp_any r.w w
  have ch := fun w => clamp_any r.h w
  have e0 := mayB_ok r
  obtain ⟨x, y, W, H⟩ := r
  simp only at cx cy cw ch e0
  have e1 : ∀ k, upTo ⟨x, y, W, H⟩ k = true → k = 1 ∨ k = 2 ∨ k = 3 → True := fun _ _ _ => trivial
  unfold upTo at e0
  simp only at e0
  clear e1
  rw [e0]
  clear e0
  generalize ok x = ox at cx ⊢
  generalize ok y = oy at cy ⊢
  generalize ok W = oW at cw ⊢
  generalize ok H = oH at ch ⊢
  have i0 : ∀ w, (Instr.index 24 (.agg #[.int .i64 x, .int .i64 y, .int .i64 W, .int .i64 H]) (.int .i64 0)).run Try.prog w = .ok (.int .i64 x) w := fun _ => by kernel_rfl
  have i1 : ∀ w, (Instr.index 24 (.agg #[.int .i64 x, .int .i64 y, .int .i64 W, .int .i64 H]) (.int .i64 1)).run Try.prog w = .ok (.int .i64 y) w := fun _ => by kernel_rfl
  have i2 : ∀ w, (Instr.index 24 (.agg #[.int .i64 x, .int .i64 y, .int .i64 W, .int .i64 H]) (.int .i64 2)).run Try.prog w = .ok (.int .i64 W) w := fun _ => by kernel_rfl
  have i3 : ∀ w, (Instr.index 24 (.agg #[.int .i64 x, .int .i64 y, .int .i64 W, .int .i64 H]) (.int .i64 3)).run Try.prog w = .ok (.int .i64 H) w := fun _ => by kernel_rfl
  go_enter Try.func20, Try.ntmps20
  go_wp2
  go_loop [16] (fun i => i = .int .i64 0 ∨ (i = .int .i64 1 ∧ ox = true) ∨ (i = .int .i64 2 ∧ ox = true ∧ oy = true) ∨ (i = .int .i64 3 ∧ ox = true ∧ oy = true ∧ oW = true) ∨ (i = .int .i64 4 ∧ ox = true ∧ oy = true ∧ oW = true ∧ oH = true)) (fun i => 4 - (intOf i).toNat)
  case atStart => exact Or.inl rfl
  case round =>
    rcases hrel with rfl | ⟨rfl, rfl⟩ | ⟨rfl, rfl, rfl⟩ | ⟨rfl, rfl, rfl, rfl⟩ | ⟨rfl, rfl, rfl, rfl, rfl⟩
    · cases ox
      · go_wp2_with (go_at_call 42; (with_reducible refine (cx _).mono ?_); rintro e w' ⟨rfl, rfl⟩)
        go_ret
        exact ⟨rfl, (Below.refl _ _).alloc (Nat.le_refl _) _⟩
      · go_wp2_with (go_at_call 42; (with_reducible refine (cx _).mono ?_); rintro e w' ⟨rfl, rfl⟩)
        go_round
        case rel => exact Or.inr (Or.inl (by simp))
        case measure => decide
    · cases oy
      · go_wp2_with (go_at_call 42; (with_reducible refine (cy _).mono ?_); rintro e w' ⟨rfl, rfl⟩)
        go_ret
        exact ⟨rfl, (Below.refl _ _).alloc (Nat.le_refl _) _⟩
      · go_wp2_with (go_at_call 42; (with_reducible refine (cy _).mono ?_); rintro e w' ⟨rfl, rfl⟩)
        go_round
        case rel => exact Or.inr (Or.inr (Or.inl (by simp)))
        case measure => decide
    · cases oW
      · go_wp2_with (go_at_call 42; (with_reducible refine (cw _).mono ?_); rintro e w' ⟨rfl, rfl⟩)
        go_ret
        exact ⟨rfl, (Below.refl _ _).alloc (Nat.le_refl _) _⟩
      · go_wp2_with (go_at_call 42; (with_reducible refine (cw _).mono ?_); rintro e w' ⟨rfl, rfl⟩)
        go_round
        case rel => exact Or.inr (Or.inr (Or.inr (Or.inl (by simp))))
        case measure => decide
    · cases oH
      · go_wp2_with (go_at_call 42; (with_reducible refine (ch _).mono ?_); rintro e w' ⟨rfl, rfl⟩)
        go_ret
        exact ⟨rfl, (Below.refl _ _).alloc (Nat.le_refl _) _⟩
      · go_wp2_with (go_at_call 42; (with_reducible refine (ch _).mono ?_); rintro e w' ⟨rfl, rfl⟩)
        go_round
        case rel => exact Or.inr (Or.inr (Or.inr (Or.inr (by simp))))
        case measure => decide
    · by_cases h1 : 0 ≤ W
      · by_cases h2 : 0 ≤ H
        · go_wp2
          go_ret
          exact ⟨by simp, (Below.refl _ _).alloc (Nat.le_refl _) _⟩
        · go_wp2
          go_ret
          exact ⟨by simp [h2], (Below.refl _ _).alloc (Nat.le_refl _) _⟩
      · go_wp2
        go_ret
        exact ⟨by simp; omega, (Below.refl _ _).alloc (Nat.le_refl _) _⟩
theorem has_any : HasC := by
  intro r px py w
  have cm := fun w => may_any r w
  have e0 : hasB r px py = (mayB r && decide (r.x ≤ px) && decide (px < r.x + r.w) && decide (r.y ≤ py) && decide (py < r.y + r.h)) := by
    apply bool_ext
    rw [hasB_iff]
    simp only [Bool.and_eq_true, decide_eq_true_eq, and_assoc]
  rw [e0]
  clear e0
  have hm : mayB r = true → -1099511627776 ≤ r.x ∧ r.x ≤ 1099511627776 ∧ -1099511627776 ≤ r.y ∧ r.y ≤ 1099511627776 ∧ 0 ≤ r.w ∧ r.w ≤ 1099511627776 ∧ 0 ≤ r.h ∧ r.h ≤ 1099511627776 := mayB_iff.1
  generalize mayB r = m at cm hm ⊢
  obtain ⟨x, y, W, H⟩ := r
  simp only at hm ⊢
  cases m
  · clear hm
    go_enter Try.func22, Try.ntmps22
    go_wp2_with (go_at_call 20; (with_reducible refine (cm _).mono ?_); rintro e w' ⟨rfl, hb⟩)
    go_ret
    exact ⟨by simp, below_next (below_al (Below.refl _ _) _) hb⟩
  · obtain ⟨m1, m2, m3, m4, m5, m6, m7, m8⟩ := hm rfl
    clear hm
    go_enter Try.func22, Try.ntmps22
    go_wp2_with (go_at_call 20; (with_reducible refine (cm _).mono ?_); rintro e w' ⟨rfl, hb⟩; have K := (Blk.new w _ _).next hb; obtain ⟨c0, c1, c2, c3⟩ := blk4 K; clear K)
    all_goals
      go_ret
      exact ⟨by simp; try omega, below_next (below_al (Below.refl _ _) _) hb⟩
end Go.Proofs.Ytabijoohoofogaa
