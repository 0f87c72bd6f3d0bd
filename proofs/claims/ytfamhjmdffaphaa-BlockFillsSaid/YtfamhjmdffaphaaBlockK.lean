/- What may of the statements of layer 17 answers, from what value.May answers. Conditions: that. -/
import Derived.Test.YtfamhjmdffaphaaBlockD
import Derived.Test.YtfamhjmdffaphaaValMayW
namespace Go.Proofs.Ytfamhjmdffaphaa
open Go.ChangeShapes Go.WideShapes Go.ChangeAt Go.RowKit
theorem sty_cell (s : Nat → Int) (j : Nat) (h : j < 54) : (styF s)[j]? = some (.int .i64 (s j)) := by
  match j, h with
  | 0, _ | 1, _ | 2, _ | 3, _ | 4, _ | 5, _ | 6, _ | 7, _ | 8, _ | 9, _ | 10, _ | 11, _ | 12, _ | 13, _ | 14, _ | 15, _ | 16, _ | 17, _ | 18, _ | 19, _ | 20, _ | 21, _ | 22, _ | 23, _ | 24, _ | 25, _ | 26, _ => rfl
  | 27, _ | 28, _ | 29, _ | 30, _ | 31, _ | 32, _ | 33, _ | 34, _ | 35, _ | 36, _ | 37, _ | 38, _ | 39, _ | 40, _ | 41, _ | 42, _ | 43, _ | 44, _ | 45, _ | 46, _ | 47, _ | 48, _ | 49, _ | 50, _ | 51, _ | 52, _ | 53, _ => rfl
  | j + 54, h => omega
def mayTo (s : Nat → Int) (k : Nat) : Bool := (List.range k).all fun p => p == 0 || mayP (p : Int) (s (p * 2)) (s (p * 2 + 1))
def mayS (s : Nat → Int) : Bool := mayTo s 27 && (s 0 == 0 && s 1 == 0)
theorem mayTo_succ (s : Nat → Int) (k : Nat) (h : 0 < k) : mayTo s (k + 1) = (mayTo s k && mayP (k : Int) (s (k * 2)) (s (k * 2 + 1))) := by
  unfold mayTo
  rw [List.range_succ, List.all_append]
  have : (k == 0) = false := by simpa using (by omega : ¬ k = 0)
  simp [this]
theorem mayTo_false (s : Nat → Int) {k n : Nat} (h : mayTo s k = false) (hn : k ≤ n) : mayTo s n = false := by
  unfold mayTo at *
  rw [List.all_eq_false] at *
  obtain ⟨x, hx, h⟩ := h
  exact ⟨x, List.mem_range.2 (by have := List.mem_range.1 hx; omega), h⟩
theorem mayTo_at {s : Nat → Int} {n : Nat} (h : mayTo s n = true) {p : Nat} (h1 : 0 < p) (h2 : p < n) : mayP (p : Int) (s (p * 2)) (s (p * 2 + 1)) = true := by
  have := List.all_eq_true.1 h p (List.mem_range.2 h2)
  simp only [Bool.or_eq_true, beq_iff_eq] at this
  rcases this with h | h
  · omega
  · exact h
set_option maxHeartbeats 8000000 in
set_option maxRecDepth 100000 in
theorem may17_any (cMay : Val.MayC) (s : Nat → Int) (w : World) : Calls Try.prog 5 #[.agg (styF s)] w fun e w' => e = .returned (.bool (mayS s)) ∧ Below w.heap.size w w' := by
  have K0 := Blk.new w 25 (styF s)
  have hB0 := below_al (Below.refl w.heap.size w) (.cells (styF s) 25)
  go_enter Try.func5, Try.ntmps5
  go_wp2
  go_loopw [3] (fun i wr => ∃ k : Nat, 1 ≤ k ∧ k ≤ 27 ∧ i = .int .i64 k ∧ Hid (mayTo s k = true) ∧ Blk wr w.heap.size 25 (styF s) ∧ Below w.heap.size w wr) (fun i _ => 27 - (intOf i).toNat)
  case atStart => exact ⟨1, Nat.le_refl _, by omega, rfl, Lib.hid (by rfl), K0, hB0⟩
  case round =>
    clear K0 hB0
    obtain ⟨k, hk1, hk2, rfl, HM, K, hB⟩ := hrel
    by_cases hlt : k < 27
    · have e0 : wr.cell? ⟨w.heap.size, k * 2, none⟩ = some (.int .i64 (s (k * 2))) := (K.cell _).trans (sty_cell s _ (by omega))
      have e1 : wr.cell? ⟨w.heap.size, k * 2 + 1, none⟩ = some (.int .i64 (s (k * 2 + 1))) := (K.cell _).trans (sty_cell s _ (by omega))
      have c := cMay (k : Int) (s (k * 2)) (s (k * 2 + 1)) wr
      unfold vV at c
      have HS := Lib.hid (mayTo_succ s k (by omega))
      have ik : (k : Int) < 27 := by omega
      have ik0 : (0 : Int) ≤ (k : Int) := Int.natCast_nonneg _
      generalize s (k * 2) = a at *
      generalize s (k * 2 + 1) = b at *
      cases hm : mayP (k : Int) a b with
      | true =>
        rw [hm] at c
        have HMM := Lib.hid hm
        clear hm cMay
        go_wp2_with (go_at_call 15; (with_reducible refine c.mono ?_); rintro e w1 ⟨rfl, hb⟩)
        go_roundw
        case rel => exact ⟨k + 1, by omega, by omega, by go_num, Lib.hid (by rw [HS.out, HM.out, HMM.out]; rfl), K.next hb, below_next hB hb⟩
        case measure => simp [intOf]; omega
      | false =>
        rw [hm] at c
        have HF := Lib.hid (show mayS s = false by
          unfold mayS
          rw [mayTo_false s (k := k + 1) (n := 27) (by rw [HS.out, hm, Bool.and_false]) (by omega)]
          rfl)
        clear hm cMay
        go_wp2_with (go_at_call 15; (with_reducible refine c.mono ?_); rintro e w1 ⟨rfl, hb⟩)
        go_ret
        rw [HF.out]
        exact ⟨rfl, below_next hB hb⟩
    · obtain rfl : k = 27 := by omega
      have HS := Lib.hid (show mayS s = (s 0 == 0 && s 1 == 0) by unfold mayS; rw [HM.out, Bool.true_and])
      have e0 : wr.cell? ⟨w.heap.size, 0, none⟩ = some (.int .i64 (s 0)) := K.cell 0
      have e1 : wr.cell? ⟨w.heap.size, 1, none⟩ = some (.int .i64 (s 1)) := K.cell 1
      clear cMay HM
      generalize s 0 = a at *
      generalize s 1 = b at *
      by_cases ha : a = 0
      · by_cases hb : b = 0
        · have ha' : (a == 0) = true := by simpa using ha
          have hb' : (b == 0) = true := by simpa using hb
          rw [ha', hb'] at HS
          clear ha hb
          go_wp2
          go_ret
          rw [HS.out]
          exact ⟨rfl, hB⟩
        · have ha' : (a == 0) = true := by simpa using ha
          have hb' : (b == 0) = false := by simpa using hb
          rw [ha', hb'] at HS
          clear ha hb
          go_wp2
          go_ret
          rw [HS.out]
          exact ⟨rfl, hB⟩
      · have ha' : (a == 0) = false := by simpa using ha
        rw [ha'] at HS
        clear ha
        go_wp2
        all_goals
          go_ret
          rw [HS.out]
          exact ⟨rfl, hB⟩
end Go.Proofs.Ytfamhjmdffaphaa
