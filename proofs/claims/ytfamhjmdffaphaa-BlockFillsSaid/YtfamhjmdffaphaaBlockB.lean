/- What length, and (*pile).number, of package block answer. Conditions: none. -/
import Derived.Test.YtfamhjmdffaphaaBlockA
import Derived.Test.YtfamhjmdffaphaaBlk
namespace Go.Proofs.Ytfamhjmdffaphaa
open Go.ChangeShapes Go.WideShapes Go.ChangeAt Go.RowKit
def lenF (k n : Int) : Int := if k = 2 then n else 0
theorem vfield0 (k n : Int) (w : World) : (Instr.field 23 (.agg #[.int .i64 k, .int .i64 n]) 0).run Try.prog w = .ok (.int .i64 k) w := by kernel_rfl
theorem vfield1 (k n : Int) (w : World) : (Instr.field 23 (.agg #[.int .i64 k, .int .i64 n]) 1).run Try.prog w = .ok (.int .i64 n) w := by kernel_rfl
theorem length_any (k n : Int) (w : World) : Calls Try.prog 17 #[.agg #[.int .i64 k, .int .i64 n]] w fun e w' => e = .returned (.int .i64 (lenF k n)) ∧ Below w.heap.size w w' := by
  have f0 := fun w => vfield0 k n w
  have f1 := fun w => vfield1 k n w
  have hB := below_al (Below.refl w.heap.size w) (.cells #[.int .i64 k, .int .i64 n] 23)
  by_cases hk : k = 2
  · have e : lenF k n = n := by unfold lenF; rw [if_pos hk]
    have hk2 : (k == 2) = true := by simpa using hk
    rw [e]
    clear e hk
    go_enter Try.func17, Try.ntmps17
    go_wp2
    go_ret
    first
      | exact ⟨rfl, Below.refl _ _⟩
      | exact ⟨rfl, hB⟩
  · have e : lenF k n = 0 := by unfold lenF; rw [if_neg hk]
    have hk2 : (k == 2) = false := by simpa using hk
    rw [e]
    clear e
    go_enter Try.func17, Try.ntmps17
    go_wp2
    go_ret
    first
      | exact ⟨rfl, Below.refl _ _⟩
      | exact ⟨rfl, hB⟩
theorem numberB_any (g : Nat) (n : Int) (x c : Bool) (w : World) (hc : w.cell? ⟨g, 2, none⟩ = some (.bool c)) (hf : w.frozen? ⟨g, 2, none⟩ = false) :
    Calls Try.prog 22 #[.pointer (some ⟨g, 0, none⟩), .int .i64 n, .bool x] w fun e w' => e = .returned (.int .i64 n) ∧ w.setCell ⟨g, 2, none⟩ (.bool (c || !x)) = w' := by
  cases x <;> cases c
  all_goals
    go_enter Try.func22, Try.ntmps22
    go_wp2
    go_ret
    exact ⟨rfl, rfl⟩
end Go.Proofs.Ytfamhjmdffaphaa
