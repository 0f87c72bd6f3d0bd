/- What the document's own New, Take and Bound of layer 3 answer. Conditions: none. -/
import Derived.Test.YtbcbjcdpcbjhnaaMeterSpec
namespace Go.Proofs.Ytbcbjcdpcbjhnaa
open Go.ChangeShapes Go.WideShapes Go.ChangeAt Go.RowKit
def encR (lim t : Int) (o : Bool) : Array Value := #[.int .i64 lim, .int .i64 (lim - t), .bool o]
theorem rnew_any (lim : Int) (w : World) (h1 : 0 ≤ lim) (h2 : lim ≤ 1099511627776) : Calls Try.prog 8 #[.int .i64 lim] w fun e w' =>
    e = .returned (.tuple #[.pointer (some ⟨w.heap.size, 0, none⟩), .int .i64 0]) ∧ Blk w' w.heap.size 35 (encR lim 0 false) ∧ Below w.heap.size w w' := by
  have e : encR lim 0 false = #[.int .i64 lim, .int .i64 lim, .bool false] := by unfold encR; rw [Int.sub_zero]
  rw [e]
  clear e
  go_enter Try.func8, Try.ntmps8
  go_wp2
  go_ret2
  exact ⟨rfl, Blk.new _ _ _, below_al (Below.refl _ _) _⟩
theorem rno_any (lim : Int) (w : World) (h : lim < 0 ∨ 1099511627776 < lim) : Calls Try.prog 8 #[.int .i64 lim] w fun e w' =>
    e = .returned (.tuple #[.pointer none, .int .i64 1]) ∧ Below w.heap.size w w' := by
  rcases h with h | h
  · go_enter Try.func8, Try.ntmps8
    go_wp2
    go_ret2
    exact ⟨rfl, Below.refl _ _⟩
  · have h' : 0 ≤ lim := by omega
    go_enter Try.func8, Try.ntmps8
    go_wp2
    go_ret2
    exact ⟨rfl, Below.refl _ _⟩
theorem grown_setR {w E : World} {g : Nat} (h : w.grownBy E (some g)) (i : Nat) (v : Value) : w.grownBy (E.setCell ⟨g, i, none⟩ v) (some g) :=
  ⟨h.os, h.tape, h.output, by simpa [World.setCell] using h.size, fun k hk hne => (Below.heap_setCell E ⟨g, i, none⟩ v k (fun e => hne (by rw [e]))).trans (h.block k hk hne)⟩
theorem blk3 {w : World} {g : Nat} {t : TypeId} {a b c : Value} (h : Blk w g t #[a, b, c]) :
    w.cell? ⟨g, 0, none⟩ = some a ∧ w.cell? ⟨g, 1, none⟩ = some b ∧ w.cell? ⟨g, 2, none⟩ = some c ∧ w.frozen? ⟨g, 0, none⟩ = false ∧ w.frozen? ⟨g, 1, none⟩ = false ∧ w.frozen? ⟨g, 2, none⟩ = false := ⟨h.cell 0, h.cell 1, h.cell 2, h.frozen 0, h.frozen 1, h.frozen 2⟩
set_option maxHeartbeats 1000000 in
theorem rtake_any (g : Nat) (lim t : Int) (o : Bool) (n : Int) (w : World) (hm : mtr lim t o) (K : Blk w g 35 (encR lim t o)) : Calls Try.prog 12 #[.pointer (some ⟨g, 0, none⟩), .int .i64 n] w fun e w' =>
    e = .returned (.bool (takeB lim t o n)) ∧ Blk w' g 35 (encR lim (takeT lim t o n) (takeO lim t o n)) ∧ w.grownBy w' (some g) := by
  obtain ⟨m1, m2, m3, m4⟩ := hm
  unfold encR at K ⊢
  obtain ⟨c0, c1, c2, f0, f1, f2⟩ := blk3 K
  have l0 : 0 ≤ lim - t := by omega
  have l1 : lim - t ≤ 1099511627776 := by omega
  rcases take_ways lim t o n with ⟨rfl, p, q, r⟩ | ⟨rfl, y1, p, q, r⟩ | ⟨rfl, y1, y2, p, q, r⟩ | ⟨rfl, y1, y2, p, q, r⟩
  · rw [p, q, r]
    clear p q r m4
    go_enter Try.func12, Try.ntmps12
    go_wp2
    go_ret
    exact ⟨rfl, K, World.grownBy.refl w _⟩
  · rw [p, q, r]
    clear p q r m4
    go_enter Try.func12, Try.ntmps12
    go_wp2
    go_ret
    exact ⟨rfl, K, World.grownBy.refl w _⟩
  · rw [p, q, r]
    have e : lim - lim = 0 := by omega
    rw [e]
    clear p q r m4 e
    go_enter Try.func12, Try.ntmps12
    go_wp2
    go_ret
    exact ⟨rfl, (K.set_ 2 (.bool true)).set_ 1 (.int .i64 0), grown_setR (grown_setR (World.grownBy.refl w _) _ _) _ _⟩
  · rw [p, q, r]
    have e : lim - (t + n) = lim - t - n := by omega
    rw [e]
    clear p q r m4 e
    have n1 : 0 ≤ lim - t - n := by omega
    have n2 : lim - t - n ≤ 1099511627776 := by omega
    go_enter Try.func12, Try.ntmps12
    go_wp2
    go_ret
    exact ⟨rfl, K.set_ 1 (.int .i64 (lim - t - n)), grown_setR (World.grownBy.refl w _) _ _⟩
set_option maxHeartbeats 2000000 in
theorem rbound_any (a b c : Int) (w : World) : Calls Try.prog 10 #[.int .i64 a, .int .i64 b, .int .i64 c] w fun e w' => e = .returned (.int .i64 (bound a b c)) ∧ w = w' := by
  obtain ⟨m, hm, hmc⟩ : ∃ m : Int, (∀ (w : World) (ts : Array TypeId) (t : TypeId), (Builtin.min_ ts t #[.int .i64 a, .int .i64 b, .int .i64 c]).run Try.prog w = .ok (.int .i64 m) w) ∧ ((m < 0 ∧ (a < 0 ∨ b < 0 ∨ c < 0)) ∨ (0 ≤ m ∧ 0 ≤ a ∧ 0 ≤ b ∧ 0 ≤ c)) := by
    refine ⟨if c < (if b < a then b else a) then c else (if b < a then b else a), fun w ts t => by simp [Builtin.min_, Builtin.min2], ?_⟩
    repeat' split
    all_goals omega
  obtain ⟨M, hM, hMc⟩ : ∃ m : Int, (∀ (w : World) (ts : Array TypeId) (t : TypeId), (Builtin.max_ ts t #[.int .i64 a, .int .i64 b, .int .i64 c]).run Try.prog w = .ok (.int .i64 m) w) ∧ ((1048576 < m ∧ (1048576 < a ∨ 1048576 < b ∨ 1048576 < c)) ∨ (m ≤ 1048576 ∧ a ≤ 1048576 ∧ b ≤ 1048576 ∧ c ≤ 1048576)) := by
    refine ⟨if c > (if b > a then b else a) then c else (if b > a then b else a), fun w ts t => by simp [Builtin.max_, Builtin.max2], ?_⟩
    repeat' split
    all_goals omega
  rcases hmc with ⟨h1, h2⟩ | ⟨h1, h2, h3, h4⟩
  · have e : bound a b c = 0 := by unfold bound; rw [if_neg (by omega)]
    rw [e]
    clear e h2 hMc
    go_enter Try.func10, Try.ntmps10
    go_wp2
    go_ret
    exact ⟨rfl, rfl⟩
  · rcases hMc with ⟨g1, g2⟩ | ⟨g1, g2, g3, g4⟩
    · have e : bound a b c = 0 := by unfold bound; rw [if_neg (by omega)]
      rw [e]
      clear e g2
      go_enter Try.func10, Try.ntmps10
      go_wp2
      go_ret
      exact ⟨rfl, rfl⟩
    · have e : bound a b c = a * (b + a) + c + 1 := by unfold bound; rw [if_pos ⟨h2, h3, h4, g2, g3, g4⟩]
      rw [e]
      have p0 : 0 ≤ a * (b + a) := Int.mul_nonneg h2 (by omega)
      have p1 : a * (b + a) ≤ 1048576 * 2097152 := Int.mul_le_mul g2 (by omega) (by omega) (by omega)
      have q0 : 0 ≤ b + a := by omega
      have q1 : b + a ≤ 2097152 := by omega
      have q2 : a * (b + a) + c ≤ 2199024304128 := by omega
      clear e
      go_enter Try.func10, Try.ntmps10
      go_wp2
      go_ret
      exact ⟨rfl, rfl⟩
end Go.Proofs.Ytbcbjcdpcbjhnaa
