/- What layer 17's first answers: a style of what is at first. Conditions: none. -/
import Derived.Test.YtfamhjmdffaphaaBlockB
import Derived.Test.YtfamhjmdffaphaaValSortOf
namespace Go.Proofs.Ytfamhjmdffaphaa
open Go.ChangeShapes Go.WideShapes Go.ChangeAt Go.RowKit
namespace Val
/-- A style of which the first ones are set. -/
def firstL (k : Nat) : List Value := (List.range 27).flatMap fun i => if 1 ≤ i ∧ i < k then [.int .i64 (firstP (i : Int)).1, .int .i64 (firstP (i : Int)).2] else [.int .i64 0, .int .i64 0]
def firstA (k : Nat) : Array Value := (firstL k).toArray
theorem first_set (k : Nat) (h1 : 1 ≤ k) (h2 : k < 27) : ((firstA k).setIfInBounds (k * 2) (.int .i64 (firstP (k : Int)).1)).setIfInBounds (k * 2 + 1) (.int .i64 (firstP (k : Int)).2) = firstA (k + 1) := by
  match k, h1, h2 with
  | 1, _, _ | 2, _, _ | 3, _, _ | 4, _, _ | 5, _, _ | 6, _, _ | 7, _, _ | 8, _, _ | 9, _, _ | 10, _, _ | 11, _, _ | 12, _, _ | 13, _, _ | 14, _, _ | 15, _, _ | 16, _, _ | 17, _, _ | 18, _, _ | 19, _, _ | 20, _, _ | 21, _, _ | 22, _, _ | 23, _, _ | 24, _, _ | 25, _, _ | 26, _, _ => rfl
  | k + 27, _, h => omega
theorem first_size (k : Nat) (h1 : 1 ≤ k) (h2 : k ≤ 27) : (firstA k).size = 54 := by
  match k, h1, h2 with
  | 1, _, _ | 2, _, _ | 3, _, _ | 4, _, _ | 5, _, _ | 6, _, _ | 7, _, _ | 8, _, _ | 9, _, _ | 10, _, _ | 11, _, _ | 12, _, _ | 13, _, _ | 14, _, _ | 15, _, _ | 16, _, _ | 17, _, _ | 18, _, _ | 19, _, _ | 20, _, _ | 21, _, _ | 22, _, _ | 23, _, _ | 24, _, _ | 25, _, _ | 26, _, _ | 27, _, _ => rfl
  | k + 28, _, h => omega
theorem sty_one : ∀ v ∈ (firstA 27).toList, v.oneCell' = true := List.all_eq_true.1 (by kernel_rfl)
theorem store_sty (w1 : World) (g : Nat) {old : Array Value} (h : w1.heap[g]? = some (.cells old 25 (0, 0))) (hs : 0 + (firstA 27).toList.length = old.size) :
    (storeCells ⟨g, 0, none⟩ (firstA 27).toList).run Try.prog w1 = .ok () (w1.setRow g (firstA 27)) := by
  have hst := run_storeCells_from (P := Try.prog) g 25 (firstA 27).toList 0 _ w1 h hs sty_one
  rw [List.take_zero, List.nil_append, Array.toArray_toList] at hst
  exact hst
theorem zero_sty (w : World) : (zeroValue 25).run Try.prog w = .ok (.agg (firstA 1)) w := by kernel_rfl
set_option maxHeartbeats 4000000 in
set_option maxRecDepth 100000 in
theorem style_first (w : World) : Calls Try.prog 10 #[] w fun e w' => e = .returned (.agg (firstA 27)) ∧ Below w.heap.size w w' := by
  have hz := fun w => zero_sty w
  have cF := fun (p : Int) w => first_any p w
  unfold vV at cF
  go_enter Try.func10, Try.ntmps10
  go_wp2
  go_loopw [2] (fun i wr => ∃ k : Nat, 1 ≤ k ∧ k ≤ 27 ∧ i = .int .i64 k ∧ Blk wr (w.heap.size + 1) 25 (firstA k) ∧ Blk wr w.heap.size 25 (firstA 1) ∧ Below w.heap.size w wr) (fun i _ => 27 - (intOf i).toNat)
  case atStart =>
    have K1 := Blk.new (w.alloc (.cells (firstA 1) 25)) 25 (firstA 1)
    rw [size_al] at K1
    exact ⟨1, Nat.le_refl _, by omega, rfl, K1, (Blk.new w _ _).alloc _, below_al (below_al (Below.refl _ _) _) _⟩
  case round =>
    obtain ⟨k, hk1, hk2, rfl, K1, K0, hB⟩ := hrel
    by_cases hlt : k < 27
    · have c := cF (k : Int) wr
      have hS := first_set k hk1 hlt
      generalize (firstP (k : Int)).1 = a at *
      generalize (firstP (k : Int)).2 = b at *
      have ik : (k : Int) < 27 := by omega
      have ik0 : (0 : Int) ≤ (k : Int) := Int.natCast_nonneg _
      have hsz := first_size k hk1 (by omega)
      obtain ⟨u1, hu1⟩ : ∃ u, (firstA k)[k * 2]? = some u := ⟨_, Array.getElem?_eq_getElem (by omega)⟩
      obtain ⟨u2, hu2⟩ : ∃ u, ((firstA k).setIfInBounds (k * 2) (.int .i64 a))[k * 2 + 1]? = some u := ⟨_, Array.getElem?_eq_getElem (by rw [Array.size_setIfInBounds]; omega)⟩
      clear cF hsz
      go_wp2_with (first
        | (go_at_call 21; (with_reducible refine c.mono ?_); rintro e w1 ⟨rfl, hb⟩
           have J1 := K1.next hb
           have J0 := K0.next hb
           have hB1 := below_next hB hb
           have f1 := J1.frozen (k * 2)
           have J2 := J1.set_ (k * 2) (.int .i64 a)
           have f2 := J2.frozen (k * 2 + 1)
           have c1 : w1.cell? ⟨w.heap.size + 1, k * 2, none⟩ = some u1 := (J1.cell (k * 2)).trans hu1
           have c2 : (w1.setCell ⟨w.heap.size + 1, k * 2, none⟩ (.int .i64 a)).cell? ⟨w.heap.size + 1, k * 2 + 1, none⟩ = some u2 := (J2.cell (k * 2 + 1)).trans hu2))
      go_roundw
      case rel =>
        refine ⟨k + 1, by omega, by omega, by go_num, ?_, (J0.far (by simp) _).far (by simp) _, below_set (below_set hB1 (by simp) _) (by simp) _⟩
        rw [← hS]
        exact J2.set_ (k * 2 + 1) _
      case measure => simp [intOf]; omega
    · obtain rfl : k = 27 := by omega
      go_wp2_with (refine wpList_load_row rfl 25 _ rfl (w.heap.size + 1) rfl 25 (firstA 27) (0, 0) _ K1 Try.underlying25 rfl (by kernel_rfl) ?_)
      have hst := store_sty wr w.heap.size K0 (by kernel_rfl)
      rw [hst]
      go_wp2
      exact bodyPost_ret (v := .agg (firstA 27)) (results_cell_row Try.results10 _ _ w.heap.size 25 (firstA 27) _ _ rfl (setRow_heap K0) Try.underlying25 rfl (by kernel_rfl)) rfl ⟨rfl, below_setRow hB (Nat.le_refl _) _⟩
end Val
end Go.Proofs.Ytfamhjmdffaphaa
