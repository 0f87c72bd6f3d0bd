/- awake of the statements of layer 1 answers true, and what was in memory stays. Conditions: none. -/
import Derived.Test.YtlokmmhdoocmeaaFixE
namespace Go.Proofs.Ytlokmmhdoocmeaa
open Go.ChangeShapes Go.WideShapes Go.ChangeAt Go.RowKit
theorem Reads.made3 (w : World) (t : TypeId) (x y z : Value) : Reads (w.alloc (.cells #[x, y, z] t)) (w.heap.size + 1) 1 (some ⟨w.heap.size, 0, none⟩) 3 [x, y, z] := by
  refine ⟨rfl, fun _ => ⟨_, rfl, by show w.heap.size < _; omega, ?_⟩⟩
  intro j u hu
  have hj : j < 3 := by
    rcases Nat.lt_or_ge j 3 with h | h
    · exact h
    · rw [List.getElem?_eq_none (by simpa using h)] at hu; cases hu
  have hc : (w.alloc (.cells #[x, y, z] t)).cell? ⟨w.heap.size, j, none⟩ = #[x, y, z][j]? := by
    exact cell_of_row _ w.heap.size j _ t (0, 0) (heap_alloc_new w _)
  have ha : (⟨w.heap.size, 0, none⟩ : Addr).add j = ⟨w.heap.size, j, none⟩ := by
    unfold Addr.add
    split
    · subst_vars; rfl
    · simp
  rw [ha, hc, ← hu]
  simp
set_option maxHeartbeats 1000000 in
set_option maxRecDepth 100000 in
theorem awake_any (w : World) : Calls Try.prog 8 #[] w fun e w' => e = .returned (.bool true) ∧ Below w.heap.size w w' := by
  have h1 := fun w => mul_any 96 32 w
  rw [show mul2 96 32 = 48 from by decide, show mulOk 96 32 = true from by decide] at h1
  have h2 := fun w => add_any 1099511627776 1 w
  rw [show add2 1099511627776 1 = 1099511627776 from by decide, show addOk 1099511627776 1 = false from by decide] at h2
  have h3 := fun w => part_any (-10) 1 4 w
  rw [show part2 (-10) 1 4 = -2 from by decide, show partOk (-10) 1 4 = true from by decide] at h3
  have h4 := fun w => part_any 10 1 0 w
  rw [show part2 10 1 0 = 0 from by decide, show partOk 10 1 0 = false from by decide] at h4
  have h5 := fun w => px_any 3 w
  rw [show px2 3 = 192 from by decide, show pxOk 3 = true from by decide] at h5
  have h6 := fun w => sub_any 2 5 w
  rw [show sub2 2 5 = -3 from by decide, show subOk 2 5 = true from by decide] at h6
  have h7 := fun w => clamp_any 7 w
  rw [show cl 7 = 7 from by decide, show ok 7 = true from by decide] at h7
  have h8 := fun (w : World) => sum_any _ 3 3 _ [1, 2, -4] _ (Reads.made3 w 2 (.int .i64 1) (.int .i64 2) (.int .i64 (-4))) (by decide)
  rw [show (sumL [1, 2, -4]).1 = -1 from by decide, show (sumL [1, 2, -4]).2 = true from by decide] at h8
  go_enter Try.func8, Try.ntmps8
  go_wp2_with (first
    | (go_at_call 15; refine (h1 _).mono ?_; rintro e w' ⟨rfl, rfl⟩)
    | (go_at_call 11; refine (h2 _).mono ?_; rintro e w' ⟨rfl, rfl⟩)
    | (go_at_call 17; (first | (with_reducible refine (h3 _).mono ?_) | (with_reducible refine (h4 _).mono ?_)); rintro e w' ⟨rfl, hb⟩)
    | (go_at_call 21; refine (h5 _).mono ?_; rintro e w' ⟨rfl, rfl⟩)
    | (go_at_call 13; refine (h6 _).mono ?_; rintro e w' ⟨rfl, rfl⟩)
    | (go_at_call 9; refine (h7 _).mono ?_; rintro e w' ⟨rfl, rfl⟩)
    | (go_at_call 19; refine (h8 _).mono ?_; rintro e w' ⟨rfl, rfl⟩))
  go_ret
  rename_i wa hba
  exact ⟨rfl, (hba.trans (hb.mono hba.size)).alloc (Nat.le_trans hba.size hb.size) _⟩
end Go.Proofs.Ytlokmmhdoocmeaa
