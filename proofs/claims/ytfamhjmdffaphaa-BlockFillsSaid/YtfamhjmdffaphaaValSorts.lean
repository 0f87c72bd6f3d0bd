/- Sorts' makers, of the landed code of package value. Conditions: none. -/
import Derived.Test.YtfamhjmdffaphaaValC
namespace Go.Proofs.Ytfamhjmdffaphaa
open Go.ChangeShapes Go.WideShapes Go.ChangeAt Go.RowKit
namespace Val
set_option maxHeartbeats 4000000 in
set_option maxRecDepth 100000 in
theorem size_any (a : ByteArray) (w : World) : Calls Try.prog 35 #[.string a] w fun e w' => e = .returned (.agg #[.string a, .int .i64 14, .int .i64 0, .string ⟨#[]⟩, .int .i64 1, .int .i64 0]) ∧ Below w.heap.size w w' := by
  go_enter Try.func35, Try.ntmps35
  go_wp2
  exact bodyPost_ret (v := .agg #[.string a, .int .i64 14, .int .i64 0, .string ⟨#[]⟩, .int .i64 1, .int .i64 0]) (results_cell_row Try.results35 _ _ w.heap.size 57 #[.string a, .int .i64 14, .int .i64 0, .string ⟨#[]⟩, .int .i64 1, .int .i64 0] _ _ rfl (heap_alloc_new _ _) Try.underlying57 rfl (by kernel_rfl)) rfl ⟨rfl, below_al (Below.refl _ _) _⟩
set_option maxHeartbeats 4000000 in
set_option maxRecDepth 100000 in
theorem margin_any (a : ByteArray) (w : World) : Calls Try.prog 36 #[.string a] w fun e w' => e = .returned (.agg #[.string a, .int .i64 6, .int .i64 (-63999999999), .string ⟨#[]⟩, .int .i64 2, .int .i64 0]) ∧ Below w.heap.size w w' := by
  go_enter Try.func36, Try.ntmps36
  go_wp2
  exact bodyPost_ret (v := .agg #[.string a, .int .i64 6, .int .i64 (-63999999999), .string ⟨#[]⟩, .int .i64 2, .int .i64 0]) (results_cell_row Try.results36 _ _ w.heap.size 57 #[.string a, .int .i64 6, .int .i64 (-63999999999), .string ⟨#[]⟩, .int .i64 2, .int .i64 0] _ _ rfl (heap_alloc_new _ _) Try.underlying57 rfl (by kernel_rfl)) rfl ⟨rfl, below_al (Below.refl _ _) _⟩
set_option maxHeartbeats 4000000 in
set_option maxRecDepth 100000 in
theorem side_any (a : ByteArray) (n : Int) (w : World) : Calls Try.prog 37 #[.string a, .int .i64 n] w fun e w' => e = .returned (.agg #[.string a, .int .i64 4, .int .i64 0, .string ⟨#[]⟩, .int .i64 2, .int .i64 n]) ∧ Below w.heap.size w w' := by
  go_enter Try.func37, Try.ntmps37
  go_wp2
  exact bodyPost_ret (v := .agg #[.string a, .int .i64 4, .int .i64 0, .string ⟨#[]⟩, .int .i64 2, .int .i64 n]) (results_cell_row Try.results37 _ _ w.heap.size 57 #[.string a, .int .i64 4, .int .i64 0, .string ⟨#[]⟩, .int .i64 2, .int .i64 n] _ _ rfl (heap_alloc_new _ _) Try.underlying57 rfl (by kernel_rfl)) rfl ⟨rfl, below_al (Below.refl _ _) _⟩
set_option maxHeartbeats 4000000 in
set_option maxRecDepth 100000 in
theorem shift_any (a : ByteArray) (w : World) : Calls Try.prog 38 #[.string a] w fun e w' => e = .returned (.agg #[.string a, .int .i64 4, .int .i64 (-63999999999), .string ⟨#[]⟩, .int .i64 2, .int .i64 0]) ∧ Below w.heap.size w w' := by
  go_enter Try.func38, Try.ntmps38
  go_wp2
  exact bodyPost_ret (v := .agg #[.string a, .int .i64 4, .int .i64 (-63999999999), .string ⟨#[]⟩, .int .i64 2, .int .i64 0]) (results_cell_row Try.results38 _ _ w.heap.size 57 #[.string a, .int .i64 4, .int .i64 (-63999999999), .string ⟨#[]⟩, .int .i64 2, .int .i64 0] _ _ rfl (heap_alloc_new _ _) Try.underlying57 rfl (by kernel_rfl)) rfl ⟨rfl, below_al (Below.refl _ _) _⟩
set_option maxHeartbeats 4000000 in
set_option maxRecDepth 100000 in
theorem paint_any (a : ByteArray) (n : Int) (w : World) : Calls Try.prog 39 #[.string a, .int .i64 n] w fun e w' => e = .returned (.agg #[.string a, .int .i64 16, .int .i64 0, .string ⟨#[]⟩, .int .i64 4, .int .i64 n]) ∧ Below w.heap.size w w' := by
  go_enter Try.func39, Try.ntmps39
  go_wp2
  exact bodyPost_ret (v := .agg #[.string a, .int .i64 16, .int .i64 0, .string ⟨#[]⟩, .int .i64 4, .int .i64 n]) (results_cell_row Try.results39 _ _ w.heap.size 57 #[.string a, .int .i64 16, .int .i64 0, .string ⟨#[]⟩, .int .i64 4, .int .i64 n] _ _ rfl (heap_alloc_new _ _) Try.underlying57 rfl (by kernel_rfl)) rfl ⟨rfl, below_al (Below.refl _ _) _⟩
set_option maxHeartbeats 4000000 in
set_option maxRecDepth 100000 in
theorem choice_any (a : ByteArray) (b : ByteArray) (n : Int) (w : World) : Calls Try.prog 40 #[.string a, .string b, .int .i64 n] w fun e w' => e = .returned (.agg #[.string a, .int .i64 32, .int .i64 0, .string b, .int .i64 5, .int .i64 n]) ∧ Below w.heap.size w w' := by
  go_enter Try.func40, Try.ntmps40
  go_wp2
  exact bodyPost_ret (v := .agg #[.string a, .int .i64 32, .int .i64 0, .string b, .int .i64 5, .int .i64 n]) (results_cell_row Try.results40 _ _ w.heap.size 57 #[.string a, .int .i64 32, .int .i64 0, .string b, .int .i64 5, .int .i64 n] _ _ rfl (heap_alloc_new _ _) Try.underlying57 rfl (by kernel_rfl)) rfl ⟨rfl, below_al (Below.refl _ _) _⟩
set_option maxHeartbeats 4000000 in
set_option maxRecDepth 100000 in
theorem count_any (a : ByteArray) (m : Int) (n : Int) (w : World) : Calls Try.prog 41 #[.string a, .int .i64 m, .int .i64 n] w fun e w' => e = .returned (.agg #[.string a, .int .i64 64, .int .i64 m, .string ⟨#[]⟩, .int .i64 6, .int .i64 n]) ∧ Below w.heap.size w w' := by
  go_enter Try.func41, Try.ntmps41
  go_wp2
  exact bodyPost_ret (v := .agg #[.string a, .int .i64 64, .int .i64 m, .string ⟨#[]⟩, .int .i64 6, .int .i64 n]) (results_cell_row Try.results41 _ _ w.heap.size 57 #[.string a, .int .i64 64, .int .i64 m, .string ⟨#[]⟩, .int .i64 6, .int .i64 n] _ _ rfl (heap_alloc_new _ _) Try.underlying57 rfl (by kernel_rfl)) rfl ⟨rfl, below_al (Below.refl _ _) _⟩
end Val
end Go.Proofs.Ytfamhjmdffaphaa
