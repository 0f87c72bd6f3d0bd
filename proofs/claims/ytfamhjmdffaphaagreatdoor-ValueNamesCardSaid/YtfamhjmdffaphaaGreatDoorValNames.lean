/- ValueNames' walk, from what value's functions answer. Conditions: those answers. -/
import Derived.Test.YtfamhjmdffaphaaGreatDoorValAwake
namespace Go.Proofs.YtfamhjmdffaphaaGreatDoor
open Go.ChangeShapes Go.WideShapes Go.ChangeAt Go.RowKit
namespace valueNames
set_option maxHeartbeats 8000000 in
theorem walk (cAwake : ∀ w, Val.Tabs w → Calls Tryz.prog 7 #[] w fun e w' => e = .returned (.bool true) ∧ Below w.heap.size w w') (cMay : Val.MayC) (cName : Val.NameC) (cProp : Val.PropC) (cFirst : Val.FirstC) (cPassed : Val.PassedC)
    (p : Int) (s : ByteArray) (hs : s.size ≤ maxLen) (w : World) (hT : Val.Tabs w) :
    Calls Tryz.prog 5 #[.int .i64 p, .string s] w fun e w' => e = .returned (.bool true) ∧ Below w.heap.size w w' := by
  unfold maxLen at hs
  by_cases h5 : 200 < s.size
  · go_enter Tryz.func5, Tryz.ntmps5
    go_wp2_with (go_at_call 7; refine (cAwake _ (hT.at_ (by first | with_reducible assumption | with_reducible exact below_al (by with_reducible assumption) _ | with_reducible exact below_al (below_al (by with_reducible assumption) _) _ | with_reducible exact below_al (below_al (below_al (by with_reducible assumption) _) _) _ | with_reducible exact Below.refl _ _ | with_reducible exact below_al (Below.refl _ _) _ | with_reducible exact below_al (below_al (Below.refl _ _) _) _))).mono ?_; rintro e w1 ⟨rfl, hb⟩)
    go_ret
    exact ⟨rfl, hb⟩
  have h5' : s.size ≤ 200 := by omega
  clear h5 hs
  obtain ⟨n1, n2, n3⟩ := name_prop s.data.toList
  have c1 := fun w => cProp s w (by unfold mostB; omega)
  generalize hq : propP s.data.toList = q at *
  clear hq
  have c0 : ¬ q = 0 → ∀ w, Calls Tryz.prog 12 #[.int .i64 q] w fun e w' => e = .returned (.string s) ∧ Below w.heap.size w w' := by
    intro h w
    have := cName q w
    rwa [n3 h, show toB s.data.toList = s from bytes_inj rfl] at this
  have hB := Below.refl w.heap.size w
  by_cases hp : p < 1 ∨ 27 ≤ p
  · have c2 := fun w => cName p w
    rw [name_else hp, show toB [] = ⟨#[]⟩ from rfl] at c2
    have c3 := fun w => cFirst p w
    rw [first_else hp] at c3
    have c5 := fun w => cPassed p w
    rw [show decide (p = 16 ∨ p = 18 ∨ p = 19) = false from decide_eq_false (by omega)] at c5
    have c4 := c3
    have c6 := c3
    unfold vV at *
    clear cName cProp cFirst cPassed cMay n3
    rcases hp with hp | hp
    all_goals
      by_cases hq0 : q = 0
      · clear c0
        subst hq0
        have c0 := c2
        go_enter Tryz.func5, Tryz.ntmps5
        go_wp2_with (first
          | (go_at_call 7; refine (cAwake _ (hT.at_ (by first | with_reducible assumption | with_reducible exact below_al (by with_reducible assumption) _ | with_reducible exact below_al (below_al (by with_reducible assumption) _) _ | with_reducible exact below_al (below_al (below_al (by with_reducible assumption) _) _) _ | with_reducible exact Below.refl _ _ | with_reducible exact below_al (Below.refl _ _) _ | with_reducible exact below_al (below_al (Below.refl _ _) _) _))).mono ?_; rintro e w1 ⟨rfl, hb⟩; replace hB := below_next hB hb; clear hb)
          | (go_at_call 10; (first | (with_reducible refine (c1 _).mono ?_) | (with_reducible refine (c6 _).mono ?_)); rintro e w1 ⟨rfl, hb⟩; replace hB := below_next hB hb; clear hb)
          | (go_at_call 12; (first | (with_reducible refine (c2 _).mono ?_) | (with_reducible refine (c0 _).mono ?_)); rintro e w1 ⟨rfl, hb⟩; replace hB := below_next hB hb; clear hb)
          | (go_at_call 18; (with_reducible refine (c3 _).mono ?_); rintro e w1 ⟨rfl, hb⟩; replace hB := below_next hB hb; clear hb)
          | (go_at_call 14; (with_reducible refine (c4 _).mono ?_); rintro e w1 ⟨rfl, hb⟩; replace hB := below_next hB hb; clear hb)
          | (go_at_call 20; (with_reducible refine (c5 _).mono ?_); rintro e w1 ⟨rfl, hb⟩; replace hB := below_next hB hb; clear hb))
        go_ret
        exact ⟨rfl, hB⟩
      · replace c0 := c0 hq0
        go_enter Tryz.func5, Tryz.ntmps5
        go_wp2_with (first
          | (go_at_call 7; refine (cAwake _ (hT.at_ (by first | with_reducible assumption | with_reducible exact below_al (by with_reducible assumption) _ | with_reducible exact below_al (below_al (by with_reducible assumption) _) _ | with_reducible exact below_al (below_al (below_al (by with_reducible assumption) _) _) _ | with_reducible exact Below.refl _ _ | with_reducible exact below_al (Below.refl _ _) _ | with_reducible exact below_al (below_al (Below.refl _ _) _) _))).mono ?_; rintro e w1 ⟨rfl, hb⟩; replace hB := below_next hB hb; clear hb)
          | (go_at_call 10; (first | (with_reducible refine (c1 _).mono ?_) | (with_reducible refine (c6 _).mono ?_)); rintro e w1 ⟨rfl, hb⟩; replace hB := below_next hB hb; clear hb)
          | (go_at_call 12; (first | (with_reducible refine (c2 _).mono ?_) | (with_reducible refine (c0 _).mono ?_)); rintro e w1 ⟨rfl, hb⟩; replace hB := below_next hB hb; clear hb)
          | (go_at_call 18; (with_reducible refine (c3 _).mono ?_); rintro e w1 ⟨rfl, hb⟩; replace hB := below_next hB hb; clear hb)
          | (go_at_call 14; (with_reducible refine (c4 _).mono ?_); rintro e w1 ⟨rfl, hb⟩; replace hB := below_next hB hb; clear hb)
          | (go_at_call 20; (with_reducible refine (c5 _).mono ?_); rintro e w1 ⟨rfl, hb⟩; replace hB := below_next hB hb; clear hb))
        go_ret
        exact ⟨rfl, hB⟩
  · have hp1 : 1 ≤ p := by omega
    have hp2 : p < 27 := by omega
    have c2 := fun w => cName p w
    have c3 := fun w => cFirst p w
    have c4 := fun w => cMay p (firstP p).1 (firstP p).2 w
    rw [first_may hp1 (by omega)] at c4
    have hl : (nameP p).length ≤ 30 := by
      unfold nameP
      rw [if_pos (by omega)]
      have : ∀ i : Fin 27, (namesP.getD i.val []).length ≤ 30 := by decide
      exact this ⟨p.toNat, by omega⟩
    have c6 := fun w => cProp (toB (nameP p)) w (by rw [toB_size]; unfold mostB; omega)
    rw [show (toB (nameP p)).data.toList = nameP p from rfl, prop_name hp1 (by omega)] at c6
    generalize (firstP p).1 = k0 at *
    generalize (firstP p).2 = n0 at *
    generalize toB (nameP p) = nb at *
    have c5 := c3
    unfold vV at *
    clear cName cProp cFirst cPassed cMay n3 hp hl
    by_cases hq0 : q = 0
    · clear c0
      subst hq0
      have c0 := c2
      go_enter Tryz.func5, Tryz.ntmps5
      go_wp2_with (first
        | (go_at_call 7; refine (cAwake _ (hT.at_ (by first | with_reducible assumption | with_reducible exact below_al (by with_reducible assumption) _ | with_reducible exact below_al (below_al (by with_reducible assumption) _) _ | with_reducible exact below_al (below_al (below_al (by with_reducible assumption) _) _) _ | with_reducible exact Below.refl _ _ | with_reducible exact below_al (Below.refl _ _) _ | with_reducible exact below_al (below_al (Below.refl _ _) _) _))).mono ?_; rintro e w1 ⟨rfl, hb⟩; replace hB := below_next hB hb; clear hb)
        | (go_at_call 10; (first | (with_reducible refine (c1 _).mono ?_) | (with_reducible refine (c6 _).mono ?_)); rintro e w1 ⟨rfl, hb⟩; replace hB := below_next hB hb; clear hb)
        | (go_at_call 12; (first | (with_reducible refine (c2 _).mono ?_) | (with_reducible refine (c0 _).mono ?_)); rintro e w1 ⟨rfl, hb⟩; replace hB := below_next hB hb; clear hb)
        | (go_at_call 18; (with_reducible refine (c3 _).mono ?_); rintro e w1 ⟨rfl, hb⟩; replace hB := below_next hB hb; clear hb)
        | (go_at_call 14; (with_reducible refine (c4 _).mono ?_); rintro e w1 ⟨rfl, hb⟩; replace hB := below_next hB hb; clear hb)
        | (go_at_call 20; (with_reducible refine (c5 _).mono ?_); rintro e w1 ⟨rfl, hb⟩; replace hB := below_next hB hb; clear hb))
      go_ret
      exact ⟨rfl, hB⟩
    · replace c0 := c0 hq0
      go_enter Tryz.func5, Tryz.ntmps5
      go_wp2_with (first
        | (go_at_call 7; refine (cAwake _ (hT.at_ (by first | with_reducible assumption | with_reducible exact below_al (by with_reducible assumption) _ | with_reducible exact below_al (below_al (by with_reducible assumption) _) _ | with_reducible exact below_al (below_al (below_al (by with_reducible assumption) _) _) _ | with_reducible exact Below.refl _ _ | with_reducible exact below_al (Below.refl _ _) _ | with_reducible exact below_al (below_al (Below.refl _ _) _) _))).mono ?_; rintro e w1 ⟨rfl, hb⟩; replace hB := below_next hB hb; clear hb)
        | (go_at_call 10; (first | (with_reducible refine (c1 _).mono ?_) | (with_reducible refine (c6 _).mono ?_)); rintro e w1 ⟨rfl, hb⟩; replace hB := below_next hB hb; clear hb)
        | (go_at_call 12; (first | (with_reducible refine (c2 _).mono ?_) | (with_reducible refine (c0 _).mono ?_)); rintro e w1 ⟨rfl, hb⟩; replace hB := below_next hB hb; clear hb)
        | (go_at_call 18; (with_reducible refine (c3 _).mono ?_); rintro e w1 ⟨rfl, hb⟩; replace hB := below_next hB hb; clear hb)
        | (go_at_call 14; (with_reducible refine (c4 _).mono ?_); rintro e w1 ⟨rfl, hb⟩; replace hB := below_next hB hb; clear hb)
        | (go_at_call 20; (with_reducible refine (c5 _).mono ?_); rintro e w1 ⟨rfl, hb⟩; replace hB := below_next hB hb; clear hb))
      go_ret
      exact ⟨rfl, hB⟩
end valueNames
end Go.Proofs.YtfamhjmdffaphaaGreatDoor
