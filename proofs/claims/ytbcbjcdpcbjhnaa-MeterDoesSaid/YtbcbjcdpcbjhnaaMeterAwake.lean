/- awake of the statements of layer 3 answers true, from what meter's functions answer. Conditions: those answers. -/
import Derived.Test.YtbcbjcdpcbjhnaaMeterSpec
namespace Go.Proofs.Ytbcbjcdpcbjhnaa
open Go.ChangeShapes Go.WideShapes Go.ChangeAt Go.RowKit
namespace meterAwake
set_option maxHeartbeats 4000000 in
set_option maxRecDepth 100000 in
theorem awake_of (cNew : NewC) (cNo : NoC) (cTake : TakeC) (cTaken : TakenC) (cLeft : LeftC) (cOver : OverC) (cBound : BoundC) (w : World) :
    Calls Try.prog 6 #[] w fun e w' => e = .returned (.bool true) ∧ Below w.heap.size w w' := by
  have h1 := fun w => cNew 5 w (by decide) (by decide)
  have h2 := fun w => cNo (-1) w (Or.inl (by decide))
  have m0 : mtr 5 0 false := mtr_new (by decide) (by decide)
  have m1 : mtr 5 3 false := mtr_take m0 3
  have m2 : mtr 5 5 true := mtr_take m1 3
  have h3 := fun g w K => cTake g 5 0 false 3 w m0 K
  rw [show takeB 5 0 false 3 = true from by decide, show takeT 5 0 false 3 = 3 from by decide, show takeO 5 0 false 3 = false from by decide] at h3
  have h4 := fun g w K => cLeft g 5 3 false w m1 K
  have h5 := fun g w K => cTake g 5 3 false 3 w m1 K
  rw [show takeB 5 3 false 3 = false from by decide, show takeT 5 3 false 3 = 5 from by decide, show takeO 5 3 false 3 = true from by decide] at h5
  have h6 := fun g w K => cTake g 5 5 true 0 w m2 K
  rw [show takeB 5 5 true 0 = false from by decide, show takeT 5 5 true 0 = 5 from by decide, show takeO 5 5 true 0 = true from by decide] at h6
  have h7 := fun g w K => cTaken g 5 5 true w m2 K
  have h8 := fun g w K => cLeft g 5 5 true w m2 K
  have h9 := fun g w K => cOver g 5 5 true w m2 K
  have h10 := fun w => cBound 2 3 4 w
  rw [show bound 2 3 4 = 15 from by decide] at h10
  have h11 := fun w => cBound (-1) 0 0 w
  rw [show bound (-1) 0 0 = 0 from by decide] at h11
  clear m0 m1 m2
  go_enter Try.func6, Try.ntmps6
  go_wp2_with (first
    | (go_at_call 7; (with_reducible refine (h1 _).mono ?_); rintro e w1 ⟨rfl, K1, hb1⟩)
    | (go_at_call 7; (with_reducible refine (h2 _).mono ?_); rintro e w2 ⟨rfl, hb2⟩; have hB2 := below_next hb1 hb2; have K2 := K1.next hb2; clear hb1 hb2 K1)
    | (go_at_call 11; (with_reducible refine (h3 _ _ K2).mono ?_); rintro e w3 ⟨rfl, K3, hg3⟩; have hB3 := below_only hB2 hg3 (Nat.le_refl _); clear hg3 K2)
    | (go_at_call 11; (with_reducible refine (h5 _ _ K3).mono ?_); rintro e w4 ⟨rfl, K4, hg4⟩; have hB4 := below_only hB3 hg4 (Nat.le_refl _); clear hg4 K3)
    | (go_at_call 11; (with_reducible refine (h6 _ _ K4).mono ?_); rintro e w5 ⟨rfl, K5, hg5⟩; have hB5 := below_only hB4 hg5 (Nat.le_refl _); clear hg5 K4)
    | (go_at_call 14; (with_reducible refine (h4 _ _ K3).mono ?_); rintro e w6 ⟨rfl, n6, rfl⟩; replace K3 := K3.drewN n6; replace hB3 := below_dr hB3 n6)
    | (go_at_call 14; (with_reducible refine (h8 _ _ K5).mono ?_); rintro e w6 ⟨rfl, n6, rfl⟩; replace K5 := K5.drewN n6; replace hB5 := below_dr hB5 n6)
    | (go_at_call 13; (with_reducible refine (h7 _ _ K5).mono ?_); rintro e w6 ⟨rfl, rfl⟩)
    | (go_at_call 15; (with_reducible refine (h9 _ _ K5).mono ?_); rintro e w6 ⟨rfl, rfl⟩)
    | (go_at_call 9; (with_reducible refine (h10 _).mono ?_); rintro e w7 ⟨rfl, hb7⟩; have hB7 := below_next hB5 hb7)
    | (go_at_call 9; (with_reducible refine (h11 _).mono ?_); rintro e w8 ⟨rfl, hb8⟩; have hB8 := below_next hB7 hb8))
  go_ret
  exact ⟨rfl, hB8⟩
end meterAwake
end Go.Proofs.Ytbcbjcdpcbjhnaa
