/- What Sum of package fixed answers. Conditions: the list lies in memory as it is read, and is no longer than a slice may be. -/
import Derived.Test.YtfamhjmdffaphaaFxAdd
namespace Go.Proofs.Ytfamhjmdffaphaa
open Go.ChangeShapes Go.WideShapes Go.ChangeAt Go.RowKit
/-! ### sums -/
theorem sum_any (A : Option Addr) (n c B : Nat) (l : List Int) (w : World) (hr : Reads w B 1 A n (l.map (Value.int .i64))) (hn : n ≤ 9223372036854775807) :
    Calls Try.prog 27 #[.slice A n c] w fun e w' => e = .returned (.tuple #[.int .i64 (sumL l).1, .bool (sumL l).2]) ∧ w = w' := by
  have hl : l.length = n := by have := hr.1; simpa using this
  go_enter Try.func27, Try.ntmps27
  go_wp2
  go_loop [4, 5, 12] (fun s e i => ∃ k : Nat, k ≤ n ∧ i = .int .i64 k ∧ s = .int .i64 (sumL (l.take k)).1 ∧ e = .bool (sumL (l.take k)).2) (fun _ _ i => n - (intOf i).toNat)
  case atStart => exact ⟨0, Nat.zero_le _, rfl, rfl, rfl⟩
  case round =>
    obtain ⟨k, hk, rfl, rfl, rfl⟩ := hrel
    by_cases hlt : k < n
    · obtain ⟨ad, u, rfl, hb, hx, hcell⟩ := hr.at_ hlt
      have hkl : k < l.length := by omega
      obtain rfl : u = .int .i64 l[k] := by
        rw [List.getElem?_map, List.getElem?_eq_getElem hkl] at hx
        simpa using hx.symm
      have HS : Hid (sumL (l.take (k + 1)) = sumStep (sumL (l.take k)) l[k]) := by
        rw [List.take_succ_eq_append_getElem hkl, sumL_snoc]; exact rfl
      clear hx hl
      have hadd := add_any (sumL (l.take k)).1 l[k] w
      cases he : (sumL (l.take k)).2 <;> have HE := Lib.hid he <;> clear he
      all_goals
        go_wp2_with (go_at_call 20; refine Calls.mono hadd ?_; rintro e w' ⟨rfl, rfl⟩)
        go_round
        case rel => exact ⟨k + 1, by omega, by go_num, by rw [HS.out]; rfl, by rw [HS.out]; unfold sumStep; rw [HE.out]; rfl⟩
        case measure => simp [intOf]; omega
    · go_wp2
      go_ret2
      have : l.take k = l := List.take_of_length_le (by omega)
      exact ⟨by rw [this]; rfl, rfl⟩
end Go.Proofs.Ytfamhjmdffaphaa
