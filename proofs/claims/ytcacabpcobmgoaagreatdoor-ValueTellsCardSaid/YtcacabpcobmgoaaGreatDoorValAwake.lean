/- Layer 8's awake, from what value's functions answer. Conditions: those answers. -/
import Derived.Test.YtcacabpcobmgoaaGreatDoorValC
import Derived.Test.YtcacabpcobmgoaaGreatDoorBlk
namespace Go.Proofs.YtcacabpcobmgoaaGreatDoor
open Go.ChangeShapes Go.WideShapes Go.ChangeAt Go.RowKit
theorem blk2 {w : World} {g : Nat} {t : TypeId} {a b : Value} (h : Blk w g t #[a, b]) : w.cell? ⟨g, 0, none⟩ = some a ∧ w.cell? ⟨g, 1, none⟩ = some b := ⟨h.cell 0, h.cell 1⟩
theorem field_of (k n : Int) (w : World) : (Instr.field 23 (.agg #[.int .i64 k, .int .i64 n]) 1).run Tryz.prog w = .ok (.int .i64 n) w := by
  kernel_rfl
namespace valAwake
theorem bytes_lt (n : Nat) (h : n ≤ 100) : n ≤ mostB := by unfold mostB; omega
set_option maxHeartbeats 8000000 in
set_option maxRecDepth 100000 in
theorem awake_of (cRead : Val.ReadC) (cMay : Val.MayC) (cPrint : Val.PrintC) (cName : Val.NameC) (cProp : Val.PropC) (cFirst : Val.FirstC) (cPassed : Val.PassedC) (w : World) (hT : Val.Tabs w) :
    Calls Tryz.prog 7 #[] w fun e w' => e = .returned (.bool true) ∧ Below w.heap.size w w' := by
  have h1 := fun w => cRead 2 ⟨#[32, 49, 46, 53, 80, 88, 32]⟩ w (bytes_lt _ (by decide))
  rw [show readF 2 (⟨#[32, 49, 46, 53, 80, 88, 32]⟩ : ByteArray).data.toList = some (2, 96) from by decide +kernel] at h1
  have h2 := fun w => cRead 2 ⟨#[53, 48, 37]⟩ w (bytes_lt _ (by decide))
  rw [show readF 2 (⟨#[53, 48, 37]⟩ : ByteArray).data.toList = some (3, 3200) from by decide +kernel] at h2
  have h3 := fun w => cRead 2 ⟨#[45, 49, 112, 120]⟩ w (bytes_lt _ (by decide))
  rw [show readF 2 (⟨#[45, 49, 112, 120]⟩ : ByteArray).data.toList = none from by decide +kernel] at h3
  have h4 := fun w => cRead 16 ⟨#[103, 114, 101, 101, 110]⟩ w (bytes_lt _ (by decide))
  rw [show readF 16 (⟨#[103, 114, 101, 101, 110]⟩ : ByteArray).data.toList = some (4, 32768) from by decide +kernel] at h4
  simp only [vO, Option.isSome_some, Option.isSome_none] at h1 h2 h3 h4
  have h5 := fun w => cProp ⟨#[111, 114, 100, 101, 114]⟩ w (bytes_lt _ (by decide))
  rw [show propP (⟨#[111, 114, 100, 101, 114]⟩ : ByteArray).data.toList = 24 from by decide +kernel] at h5
  have h6 := fun w => cName 7 w
  rw [show toB (nameP 7) = ⟨#[109, 97, 114, 103, 105, 110, 45, 108, 101, 102, 116]⟩ from by decide +kernel] at h6
  have h7 := fun w => cMay 26 2 (-1) w
  rw [show mayP 26 2 (-1) = true from by decide +kernel] at h7
  have h8 := fun w => cPrint 2 2 96 w
  rw [show toB (printP 2 2 96) = ⟨#[49, 46, 53, 112, 120]⟩ from by decide +kernel] at h8
  have h9 := fun w => cFirst 18 w
  rw [show (firstP 18).1 = 2 from by decide, show (firstP 18).2 = 1024 from by decide] at h9
  have h10 := fun w => cPassed 16 w
  rw [show decide ((16 : Int) = 16 ∨ (16 : Int) = 18 ∨ (16 : Int) = 19) = true from by decide] at h10
  have h11 := fun w => cPassed 2 w
  rw [show decide ((2 : Int) = 16 ∨ (2 : Int) = 18 ∨ (2 : Int) = 19) = false from by decide] at h11
  unfold vV at *
  clear cRead cMay cPrint cName cProp cFirst cPassed
  have hB := Below.refl w.heap.size w
  have hfield : ∀ w, (Instr.field 23 (.agg #[.int .i64 2, .int .i64 1024]) 1).run Tryz.prog w = .ok (.int .i64 1024) w := field_of 2 1024
  go_enter Tryz.func7, Tryz.ntmps7
  go_wp2_with (first
    | (go_at_call 8; (with_reducible refine (h1 _ (hT.at_ (by first | with_reducible assumption | with_reducible exact below_al (by with_reducible assumption) _ | with_reducible exact below_al (below_al (by with_reducible assumption) _) _ | with_reducible exact below_al (below_al (below_al (by with_reducible assumption) _) _) _ | with_reducible exact Below.refl _ _ | with_reducible exact below_al (Below.refl _ _) _ | with_reducible exact below_al (below_al (Below.refl _ _) _) _))).mono ?_); rintro e w1 ⟨rfl, hb⟩
       have hB1 := below_next hB hb
       clear hb)
    | (go_at_call 8; (with_reducible refine (h2 _ (hT.at_ (by first | with_reducible assumption | with_reducible exact below_al (by with_reducible assumption) _ | with_reducible exact below_al (below_al (by with_reducible assumption) _) _ | with_reducible exact below_al (below_al (below_al (by with_reducible assumption) _) _) _ | with_reducible exact Below.refl _ _ | with_reducible exact below_al (Below.refl _ _) _ | with_reducible exact below_al (below_al (Below.refl _ _) _) _))).mono ?_); rintro e w2 ⟨rfl, hb⟩
       have hB2 := below_next (below_al hB1 _) hb
       have Ka2 := (Blk.new w1 23 #[.int .i64 2, .int .i64 96]).next hb
       obtain ⟨ka0, ka1⟩ := blk2 Ka2
       have za := Ka2.lt
       have na := Nat.ne_of_lt za
       clear hb)
    | (go_at_call 8; (with_reducible refine (h3 _ (hT.at_ (by first | with_reducible assumption | with_reducible exact below_al (by with_reducible assumption) _ | with_reducible exact below_al (below_al (by with_reducible assumption) _) _ | with_reducible exact below_al (below_al (below_al (by with_reducible assumption) _) _) _ | with_reducible exact Below.refl _ _ | with_reducible exact below_al (Below.refl _ _) _ | with_reducible exact below_al (below_al (Below.refl _ _) _) _))).mono ?_); rintro e w3 ⟨rfl, hb⟩
       have hB3 := below_next (below_al hB2 _) hb
       have Ka3 := (Ka2.alloc _).next hb
       clear ka0 ka1 za na
       have Kb3 := (Blk.new w2 23 #[.int .i64 3, .int .i64 3200]).next hb
       obtain ⟨ka0, ka1⟩ := blk2 Ka3
       have za := Ka3.lt
       have na := Nat.ne_of_lt za
       obtain ⟨kb0, kb1⟩ := blk2 Kb3
       have zb := Kb3.lt
       have nb := Nat.ne_of_lt zb
       clear hb)
    | (go_at_call 8; (with_reducible refine (h4 _ (hT.at_ (by first | with_reducible assumption | with_reducible exact below_al (by with_reducible assumption) _ | with_reducible exact below_al (below_al (by with_reducible assumption) _) _ | with_reducible exact below_al (below_al (below_al (by with_reducible assumption) _) _) _ | with_reducible exact Below.refl _ _ | with_reducible exact below_al (Below.refl _ _) _ | with_reducible exact below_al (below_al (Below.refl _ _) _) _))).mono ?_); rintro e w4 ⟨rfl, hb⟩
       have hB4 := below_next (below_al hB3 _) hb
       have Ka4 := (Ka3.alloc _).next hb
       clear ka0 ka1 za na
       have Kb4 := (Kb3.alloc _).next hb
       clear kb0 kb1 zb nb
       obtain ⟨ka0, ka1⟩ := blk2 Ka4
       have za := Ka4.lt
       have na := Nat.ne_of_lt za
       obtain ⟨kb0, kb1⟩ := blk2 Kb4
       have zb := Kb4.lt
       have nb := Nat.ne_of_lt zb
       clear hb)
    | (go_at_call 10; (with_reducible refine (h5 _).mono ?_); rintro e w5 ⟨rfl, hb⟩
       have hB5 := below_next (below_al hB4 _) hb
       have Ka5 := (Ka4.alloc _).next hb
       clear ka0 ka1 za na
       have Kb5 := (Kb4.alloc _).next hb
       clear kb0 kb1 zb nb
       have Kc5 := (Blk.new w4 23 #[.int .i64 4, .int .i64 32768]).next hb
       obtain ⟨ka0, ka1⟩ := blk2 Ka5
       have za := Ka5.lt
       have na := Nat.ne_of_lt za
       obtain ⟨kb0, kb1⟩ := blk2 Kb5
       have zb := Kb5.lt
       have nb := Nat.ne_of_lt zb
       obtain ⟨kc0, kc1⟩ := blk2 Kc5
       have zc := Kc5.lt
       have nc := Nat.ne_of_lt zc
       clear hb)
    | (go_at_call 12; (with_reducible refine (h6 _).mono ?_); rintro e w6 ⟨rfl, hb⟩
       have hB6 := below_next hB5 hb
       have Ka6 := Ka5.next hb
       clear ka0 ka1 za na
       have Kb6 := Kb5.next hb
       clear kb0 kb1 zb nb
       have Kc6 := Kc5.next hb
       clear kc0 kc1 zc nc
       obtain ⟨ka0, ka1⟩ := blk2 Ka6
       have za := Ka6.lt
       have na := Nat.ne_of_lt za
       obtain ⟨kb0, kb1⟩ := blk2 Kb6
       have zb := Kb6.lt
       have nb := Nat.ne_of_lt zb
       obtain ⟨kc0, kc1⟩ := blk2 Kc6
       have zc := Kc6.lt
       have nc := Nat.ne_of_lt zc
       clear hb)
    | (go_at_call 14; (with_reducible refine (h7 _).mono ?_); rintro e w7 ⟨rfl, hb⟩
       have hB7 := below_next hB6 hb
       have Ka7 := Ka6.next hb
       clear ka0 ka1 za na
       have Kb7 := Kb6.next hb
       clear kb0 kb1 zb nb
       have Kc7 := Kc6.next hb
       clear kc0 kc1 zc nc
       obtain ⟨ka0, ka1⟩ := blk2 Ka7
       have za := Ka7.lt
       have na := Nat.ne_of_lt za
       obtain ⟨kb0, kb1⟩ := blk2 Kb7
       have zb := Kb7.lt
       have nb := Nat.ne_of_lt zb
       obtain ⟨kc0, kc1⟩ := blk2 Kc7
       have zc := Kc7.lt
       have nc := Nat.ne_of_lt zc
       clear hb)
    | (go_at_call 16; (with_reducible refine (h8 _ (hT.at_ (by first | with_reducible assumption | with_reducible exact below_al (by with_reducible assumption) _ | with_reducible exact below_al (below_al (by with_reducible assumption) _) _ | with_reducible exact below_al (below_al (below_al (by with_reducible assumption) _) _) _ | with_reducible exact Below.refl _ _ | with_reducible exact below_al (Below.refl _ _) _ | with_reducible exact below_al (below_al (Below.refl _ _) _) _))).mono ?_); rintro e w8 ⟨rfl, hb⟩
       have hB8 := below_next hB7 hb
       have Ka8 := Ka7.next hb
       clear ka0 ka1 za na
       have Kb8 := Kb7.next hb
       clear kb0 kb1 zb nb
       have Kc8 := Kc7.next hb
       clear kc0 kc1 zc nc
       obtain ⟨ka0, ka1⟩ := blk2 Ka8
       have za := Ka8.lt
       have na := Nat.ne_of_lt za
       obtain ⟨kb0, kb1⟩ := blk2 Kb8
       have zb := Kb8.lt
       have nb := Nat.ne_of_lt zb
       obtain ⟨kc0, kc1⟩ := blk2 Kc8
       have zc := Kc8.lt
       have nc := Nat.ne_of_lt zc
       clear hb)
    | (go_at_call 18; (with_reducible refine (h9 _).mono ?_); rintro e w9 ⟨rfl, hb⟩
       have hB9 := below_next hB8 hb
       have Ka9 := Ka8.next hb
       clear ka0 ka1 za na
       have Kb9 := Kb8.next hb
       clear kb0 kb1 zb nb
       have Kc9 := Kc8.next hb
       clear kc0 kc1 zc nc
       obtain ⟨ka0, ka1⟩ := blk2 Ka9
       have za := Ka9.lt
       have na := Nat.ne_of_lt za
       obtain ⟨kb0, kb1⟩ := blk2 Kb9
       have zb := Kb9.lt
       have nb := Nat.ne_of_lt zb
       obtain ⟨kc0, kc1⟩ := blk2 Kc9
       have zc := Kc9.lt
       have nc := Nat.ne_of_lt zc
       clear hb)
    | (go_at_call 20; (with_reducible refine (h10 _).mono ?_); rintro e w10 ⟨rfl, hb⟩
       have hB10 := below_next hB9 hb
       have Ka10 := Ka9.next hb
       clear ka0 ka1 za na
       have Kb10 := Kb9.next hb
       clear kb0 kb1 zb nb
       have Kc10 := Kc9.next hb
       clear kc0 kc1 zc nc
       obtain ⟨ka0, ka1⟩ := blk2 Ka10
       have za := Ka10.lt
       have na := Nat.ne_of_lt za
       obtain ⟨kb0, kb1⟩ := blk2 Kb10
       have zb := Kb10.lt
       have nb := Nat.ne_of_lt zb
       obtain ⟨kc0, kc1⟩ := blk2 Kc10
       have zc := Kc10.lt
       have nc := Nat.ne_of_lt zc
       clear hb)
    | (go_at_call 20; (with_reducible refine (h11 _).mono ?_); rintro e w11 ⟨rfl, hb⟩
       have hB11 := below_next hB10 hb
       have Ka11 := Ka10.next hb
       clear ka0 ka1 za na
       have Kb11 := Kb10.next hb
       clear kb0 kb1 zb nb
       have Kc11 := Kc10.next hb
       clear kc0 kc1 zc nc
       obtain ⟨ka0, ka1⟩ := blk2 Ka11
       have za := Ka11.lt
       have na := Nat.ne_of_lt za
       obtain ⟨kb0, kb1⟩ := blk2 Kb11
       have zb := Kb11.lt
       have nb := Nat.ne_of_lt zb
       obtain ⟨kc0, kc1⟩ := blk2 Kc11
       have zc := Kc11.lt
       have nc := Nat.ne_of_lt zc
       clear hb))
  go_ret
  exact ⟨rfl, hB11⟩
end valAwake
end Go.Proofs.YtcacabpcobmgoaaGreatDoor
