/- ScanStays' walk, from what scan's functions answer. Conditions: those answers. -/
import Derived.Test.YthkofdleoigajaaDoorScanSpec
namespace Go.Proofs.YthkofdleoigajaaDoor
open Go.ChangeShapes Go.WideShapes Go.ChangeAt Go.RowKit
namespace scanStays
set_option maxHeartbeats 4000000 in
theorem walk (cAwake : ∀ w, Lens w → Calls Tryd.prog 7 #[] w fun e w' => e = .returned (.bool true) ∧ Below w.heap.size w w') (cStrip : StripC) (cTrim : TrimC) (cLower : LowerC)
    (s : ByteArray) (hs : s.size ≤ maxLen) (w : World) (hL : Lens w) :
    Calls Tryd.prog 4 #[.string s] w fun e w' => e = .returned (.bool true) ∧ Below w.heap.size w w' := by
  unfold maxLen at hs
  by_cases h5 : 1000 < s.size
  · go_enter Tryd.func4, Tryd.ntmps4
    go_wp2_with (go_at_call 7; refine (cAwake _ hL).mono ?_; rintro e w1 ⟨rfl, hb⟩)
    go_ret
    exact ⟨rfl, hb⟩
  · have h5' : s.size ≤ 1000 := by omega
    clear h5 hs
    have m1 : s.size ≤ mostB := by unfold mostB; omega
    have l1 : (onB stripL s).size ≤ s.size := by rw [onB_size, ← size_list s]; exact strip_len _
    have l2 : (onB trimL s).size ≤ s.size := by rw [onB_size, ← size_list s]; exact trim_len _
    have l3 : (onB lowL s).size = s.size := by rw [onB_size, ← size_list s]; exact low_len _
    have c1 := fun w hl => cStrip s w hl m1
    have c2 := fun w => cTrim s w m1
    have c3 := fun w => cLower s w m1
    have d1 := fun w hl => cStrip (onB stripL s) w hl (by omega)
    have d2 := fun w => cTrim (onB trimL s) w (by omega)
    have d3 := fun w => cLower (onB lowL s) w (by omega)
    rw [onB_twice strip_strip] at d1
    rw [onB_twice trim_trim] at d2
    rw [onB_twice low_low] at d3
    generalize onB stripL s = a at *
    generalize onB trimL s = b at *
    generalize onB lowL s = c at *
    clear m1
    have l3a : c.size ≤ s.size := by omega
    have l3b : ((c.size : Int) == s.size) = true := by rw [l3]; simp
    clear l3
    go_enter Tryd.func4, Tryd.ntmps4
    go_wp2_with (first
      | (go_at_call 7; refine (cAwake _ hL).mono ?_; rintro e w1 ⟨rfl, hb1⟩; have hB := hb1; clear hb1)
      | (go_at_call 10; (first | (with_reducible refine (c1 _ (hL.of hB)).mono ?_) | (with_reducible refine (d1 _ (hL.of hB)).mono ?_)); rintro e w2 ⟨rfl, hb2⟩; replace hB := below_next hB hb2; clear hb2)
      | (go_at_call 12; (first | (with_reducible refine (c2 _).mono ?_) | (with_reducible refine (d2 _).mono ?_)); rintro e w2 ⟨rfl, hb2⟩; replace hB := below_next hB hb2; clear hb2)
      | (go_at_call 19; (first | (with_reducible refine (c3 _).mono ?_) | (with_reducible refine (d3 _).mono ?_)); rintro e w2 ⟨rfl, hb2⟩; replace hB := below_next hB hb2; clear hb2))
    go_ret
    exact ⟨rfl, hB⟩
end scanStays
end Go.Proofs.YthkofdleoigajaaDoor
