/- Sorts' makers, of the landed code of package value. Conditions: none. -/
import Derived.Test.YtcacabpcobmgoaaGreatDoorValC
namespace Go.Proofs.YtcacabpcobmgoaaGreatDoor
open Go.ChangeShapes Go.WideShapes Go.ChangeAt Go.RowKit
namespace Val
set_option maxHeartbeats 4000000 in
set_option maxRecDepth 100000 in
theorem size_any (a : ByteArray) (w : World) : Calls Tryz.prog 47 #[.string a] w fun e w' => e = .returned (.agg #[.string a, .int .i64 14, .int .i64 0, .string ⟨#[]⟩, .int .i64 1, .int .i64 0]) ∧ Below w.heap.size w w' := by
  go_enter Tryz.func47, Tryz.ntmps47
  go_wp2
  exact bodyPost_ret (v := .agg #[.string a, .int .i64 14, .int .i64 0, .string ⟨#[]⟩, .int .i64 1, .int .i64 0]) (results_cell_row Tryz.results47 _ _ w.heap.size 44 #[.string a, .int .i64 14, .int .i64 0, .string ⟨#[]⟩, .int .i64 1, .int .i64 0] _ _ rfl (heap_alloc_new _ _) Tryz.underlying44 rfl (by kernel_rfl)) rfl ⟨rfl, below_al (Below.refl _ _) _⟩
set_option maxHeartbeats 4000000 in
set_option maxRecDepth 100000 in
theorem margin_any (a : ByteArray) (w : World) : Calls Tryz.prog 48 #[.string a] w fun e w' => e = .returned (.agg #[.string a, .int .i64 6, .int .i64 (-63999999999), .string ⟨#[]⟩, .int .i64 2, .int .i64 0]) ∧ Below w.heap.size w w' := by
  go_enter Tryz.func48, Tryz.ntmps48
  go_wp2
  exact bodyPost_ret (v := .agg #[.string a, .int .i64 6, .int .i64 (-63999999999), .string ⟨#[]⟩, .int .i64 2, .int .i64 0]) (results_cell_row Tryz.results48 _ _ w.heap.size 44 #[.string a, .int .i64 6, .int .i64 (-63999999999), .string ⟨#[]⟩, .int .i64 2, .int .i64 0] _ _ rfl (heap_alloc_new _ _) Tryz.underlying44 rfl (by kernel_rfl)) rfl ⟨rfl, below_al (Below.refl _ _) _⟩
set_option maxHeartbeats 4000000 in
set_option maxRecDepth 100000 in
theorem side_any (a : ByteArray) (n : Int) (w : World) : Calls Tryz.prog 49 #[.string a, .int .i64 n] w fun e w' => e = .returned (.agg #[.string a, .int .i64 4, .int .i64 0, .string ⟨#[]⟩, .int .i64 2, .int .i64 n]) ∧ Below w.heap.size w w' := by
  go_enter Tryz.func49, Tryz.ntmps49
  go_wp2
  exact bodyPost_ret (v := .agg #[.string a, .int .i64 4, .int .i64 0, .string ⟨#[]⟩, .int .i64 2, .int .i64 n]) (results_cell_row Tryz.results49 _ _ w.heap.size 44 #[.string a, .int .i64 4, .int .i64 0, .string ⟨#[]⟩, .int .i64 2, .int .i64 n] _ _ rfl (heap_alloc_new _ _) Tryz.underlying44 rfl (by kernel_rfl)) rfl ⟨rfl, below_al (Below.refl _ _) _⟩
set_option maxHeartbeats 4000000 in
set_option maxRecDepth 100000 in
theorem shift_any (a : ByteArray) (w : World) : Calls Tryz.prog 50 #[.string a] w fun e w' => e = .returned (.agg #[.string a, .int .i64 4, .int .i64 (-63999999999), .string ⟨#[]⟩, .int .i64 2, .int .i64 0]) ∧ Below w.heap.size w w' := by
  go_enter Tryz.func50, Tryz.ntmps50
  go_wp2
  exact bodyPost_ret (v := .agg #[.string a, .int .i64 4, .int .i64 (-63999999999), .string ⟨#[]⟩, .int .i64 2, .int .i64 0]) (results_cell_row Tryz.results50 _ _ w.heap.size 44 #[.string a, .int .i64 4, .int .i64 (-63999999999), .string ⟨#[]⟩, .int .i64 2, .int .i64 0] _ _ rfl (heap_alloc_new _ _) Tryz.underlying44 rfl (by kernel_rfl)) rfl ⟨rfl, below_al (Below.refl _ _) _⟩
set_option maxHeartbeats 4000000 in
set_option maxRecDepth 100000 in
theorem paint_any (a : ByteArray) (n : Int) (w : World) : Calls Tryz.prog 51 #[.string a, .int .i64 n] w fun e w' => e = .returned (.agg #[.string a, .int .i64 16, .int .i64 0, .string ⟨#[]⟩, .int .i64 4, .int .i64 n]) ∧ Below w.heap.size w w' := by
  go_enter Tryz.func51, Tryz.ntmps51
  go_wp2
  exact bodyPost_ret (v := .agg #[.string a, .int .i64 16, .int .i64 0, .string ⟨#[]⟩, .int .i64 4, .int .i64 n]) (results_cell_row Tryz.results51 _ _ w.heap.size 44 #[.string a, .int .i64 16, .int .i64 0, .string ⟨#[]⟩, .int .i64 4, .int .i64 n] _ _ rfl (heap_alloc_new _ _) Tryz.underlying44 rfl (by kernel_rfl)) rfl ⟨rfl, below_al (Below.refl _ _) _⟩
set_option maxHeartbeats 4000000 in
set_option maxRecDepth 100000 in
theorem choice_any (a : ByteArray) (b : ByteArray) (n : Int) (w : World) : Calls Tryz.prog 52 #[.string a, .string b, .int .i64 n] w fun e w' => e = .returned (.agg #[.string a, .int .i64 32, .int .i64 0, .string b, .int .i64 5, .int .i64 n]) ∧ Below w.heap.size w w' := by
  go_enter Tryz.func52, Tryz.ntmps52
  go_wp2
  exact bodyPost_ret (v := .agg #[.string a, .int .i64 32, .int .i64 0, .string b, .int .i64 5, .int .i64 n]) (results_cell_row Tryz.results52 _ _ w.heap.size 44 #[.string a, .int .i64 32, .int .i64 0, .string b, .int .i64 5, .int .i64 n] _ _ rfl (heap_alloc_new _ _) Tryz.underlying44 rfl (by kernel_rfl)) rfl ⟨rfl, below_al (Below.refl _ _) _⟩
set_option maxHeartbeats 4000000 in
set_option maxRecDepth 100000 in
theorem count_any (a : ByteArray) (m : Int) (n : Int) (w : World) : Calls Tryz.prog 53 #[.string a, .int .i64 m, .int .i64 n] w fun e w' => e = .returned (.agg #[.string a, .int .i64 64, .int .i64 m, .string ⟨#[]⟩, .int .i64 6, .int .i64 n]) ∧ Below w.heap.size w w' := by
  go_enter Tryz.func53, Tryz.ntmps53
  go_wp2
  exact bodyPost_ret (v := .agg #[.string a, .int .i64 64, .int .i64 m, .string ⟨#[]⟩, .int .i64 6, .int .i64 n]) (results_cell_row Tryz.results53 _ _ w.heap.size 44 #[.string a, .int .i64 64, .int .i64 m, .string ⟨#[]⟩, .int .i64 6, .int .i64 n] _ _ rfl (heap_alloc_new _ _) Tryz.underlying44 rfl (by kernel_rfl)) rfl ⟨rfl, below_al (Below.refl _ _) _⟩
end Val
end Go.Proofs.YtcacabpcobmgoaaGreatDoor
