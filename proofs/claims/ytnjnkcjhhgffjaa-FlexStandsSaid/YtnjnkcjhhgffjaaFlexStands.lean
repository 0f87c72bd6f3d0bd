/- Rows.FlexStandsSaid: whatever lengths, room and word, FlexStands returns true, and the arguments read as they did. Conditions: none beyond the row's own. -/
import Derived.Test.YtnjnkcjhhgffjaaFlexAwake
import Derived.Test.YtnjnkcjhhgffjaaFlexMathS
namespace Go.Proofs.Ytnjnkcjhhgffjaa
open Go.ChangeShapes Go.WideShapes Go.ChangeAt Go.RowKit
namespace flexStands
set_option maxHeartbeats 32000000 in
set_option maxRecDepth 100000 in
theorem walk (A : Option Addr) (n c : Nat) (l : List Int) (room how : Int) (w : World) (hn : n ≤ 4611686018427387904) (hr : Reads w w.heap.size 1 A n (l.map (Value.int .i64))) :
    Calls Try.prog 9 #[.slice A n c, .int .i64 room, .int .i64 how] w fun e w' => e = .returned (.bool true) ∧ Below w.heap.size w w' := by
  have hlen : l.length = n := by have := hr.1; simpa using this
  have c0 := flexAwake w
  by_cases hbig : 120 < n
  · have hb2 : (120 : Int) < (n : Int) := by omega
    clear hlen hr
    go_enter Try.func9, Try.ntmps9
    go_wp2_with (go_at_call 20; (with_reducible refine c0.mono ?_); rintro e w1 ⟨rfl, hB1⟩)
    go_ret
    exact ⟨rfl, hB1⟩
  · have hb2 : ¬ (120 : Int) < (n : Int) := by omega
    have hn120 : n ≤ 120 := by omega
    have c2 := fun (w1 : World) (h : Below w.heap.size w w1) => justify_any A n c l room how w1 ((hr.below h).more h.size) (by omega)
    have HL := Lib.hid hlen
    have hpack := Lib.hid (fun (La : Nat) (hl : n = La + 1) => just_pack (l := l) (room := room) (how := how) (La := La) (hlen.trans hl))
    clear hlen
    generalize (justL l room how).1 = Z at *
    generalize hex : (justL l room how).2 = ex at *
    have HEX := Lib.hid hex
    clear hex
    go_enter Try.func9, Try.ntmps9
    go_wp2_with (first
      | (go_at_call 20; (with_reducible refine c0.mono ?_); rintro e w1 ⟨rfl, hB1⟩)
      | (go_at_call 24; (with_reducible refine (c2 _ hB1).mono ?_); rintro e w3 ⟨A3, c3, rfl, hr3, hb⟩
         have hB3 := below_next hB1 hb))
    have hr0 := (hr.below hB3).more hB3.size
    clear c0 c2 hb hB1 hr
    go_loopw [36, 9] (fun i s wr => ∃ (k : Nat), k ≤ n ∧ i = .int .i64 k ∧ s = .int .i64 ((l.take k).map capM).sum ∧ Hid (∀ x ∈ l.take k, 0 ≤ x) ∧ w3 = wr) (fun i _ _ => n - (intOf i).toNat)
    case atStart => exact ⟨0, Nat.zero_le _, rfl, by simp, Lib.hid (fun x hx => by simp at hx), rfl⟩
    case round =>
      obtain ⟨k, hk, rfl, rfl, hK, hw⟩ := hrel
      subst hw
      have hcb := cap_bd hK.out
      have hlk : (l.take k).length ≤ k := List.length_take_le _ _
      by_cases hlt : k < n
      · have hkl : k < l.length := by rw [HL.out]; exact hlt
        obtain ⟨ad, u, rfl, hab, hx, hc1⟩ := hr0.at_ hlt
        obtain rfl : u = .int .i64 l[k] := by rw [List.getElem?_map, List.getElem?_eq_getElem hkl] at hx; simpa using hx.symm
        have HS := Lib.hid (show ((l.take (k + 1)).map capM).sum = ((l.take k).map capM).sum + capM l[k] by rw [List.take_add_one, List.getElem?_eq_getElem hkl, List.map_append, List.sum_append]; simp)
        have hyes := Lib.hid (show 0 ≤ l[k] → ∀ x ∈ l.take (k + 1), 0 ≤ x from fun h x hx => by
          rw [List.take_add_one, List.getElem?_eq_getElem hkl] at hx
          rcases List.mem_append.1 hx with hx | hx
          · exact hK.out x hx
          · simp at hx; rw [hx]; exact h)
        obtain ⟨cb1, cb2⟩ := hcb
        have cb3 : ((l.take k).map capM).sum ≤ 140737488355328 := by omega
        clear hx hab hK hlk cb2
        generalize ((l.take k).map capM).sum = SC at *
        generalize l[k] = x at *
        by_cases hx0 : x < 0
        · go_wp2
          go_ret
          exact ⟨rfl, hB3⟩
        · have hY := Lib.hid (hyes.out (by omega))
          clear hyes
          by_cases hxM : x ≤ 1099511627776
          · have HC := Lib.hid (show capM x = x by unfold capM; exact if_pos hxM)
            go_wp2
            go_roundw
            case rel => exact ⟨k + 1, by omega, by go_num, by rw [HS.out, HC.out], hY, (by simp)⟩
            case measure => simp [intOf]; omega
          · have HC := Lib.hid (show capM x = 0 by unfold capM; exact if_neg hxM)
            go_wp2
            go_roundw
            case rel => exact ⟨k + 1, by omega, by go_num, by rw [HS.out, HC.out, Int.add_zero], hY, (by simp)⟩
            case measure => simp [intOf]; omega
      · obtain rfl : k = n := by omega
        have hT : l.take k = l := List.take_of_length_le (by rw [HL.out]; omega)
        rw [hT] at hcb hK ⊢
        clear hT hlk
        cases hex : ex
        · subst hex
          clear hcb
          generalize (l.map capM).sum = SC at *
          go_wp2
          go_ret
          exact ⟨rfl, hB3⟩
        · subst hex
          cases k with
          | zero =>
            generalize (l.map capM).sum = SC at *
            go_wp2
            go_ret
            exact ⟨rfl, hB3⟩
          | succ La =>
            obtain ⟨p1, ⟨p2, p3⟩, ⟨p4, p5⟩, p6, p7, p8, p9, p10⟩ := hpack.out La rfl rfl hK.out
            rw [cap_same p1]
            rw [p6] at p7 p8 p9 p10
            have HX := Lib.hid (fun (k : Nat) (hk : k < La + 1) => hK.out (l.getD k 0) (by rw [List.getD_eq_getElem?_getD, List.getElem?_eq_getElem (by rw [HL.out]; exact hk)]; exact List.getElem_mem _))
            have HXM := Lib.hid (fun (k : Nat) (hk : k < La + 1) => p1 (l.getD k 0) (by rw [List.getD_eq_getElem?_getD, List.getElem?_eq_getElem (by rw [HL.out]; exact hk)]; exact List.getElem_mem _))
            have hov0 : 0 ≤ max (room - l.sum) 0 := by omega
            have hov1 : max (room - l.sum) 0 ≤ 2199023255552 := by omega
            have HOV := Lib.hid (show max (room - l.sum) 0 = 0 ∨ room - l.sum = max (room - l.sum) 0 by omega)
            have wov : IntKind.i64.wrap (room - l.sum) = room - l.sum := by rw [IntKind.wrap_i64]; omega
            obtain ⟨f0, hf0⟩ : ∃ f0, f0 = firstJ (max (room - l.sum) 0) how := ⟨_, rfl⟩
            obtain ⟨b0, hb0⟩ : ∃ b0, b0 = betweenJ (max (room - l.sum) 0) (La + 1) how := ⟨_, rfl⟩
            rw [← hf0, ← hb0] at p7 p8 p9 p10
            have HF := Lib.hid hf0
            have HB := Lib.hid hb0
            have HP7 := Lib.hid p7
            have HP8 := Lib.hid p8
            have HP9 := Lib.hid p9
            have HEND := Lib.hid p10
            have hA0 := HP7.out 0 (by omega)
            have hAL := HP7.out La (by omega)
            have bL := HP9.out La (by omega)
            have xL0 := HX.out La (by omega)
            have xL1 := HXM.out La (by omega)
            have hf9 := HP9.out 0 (by omega)
            have e00 : begAt f0 b0 l 0 = f0 := rfl
            rw [e00] at hA0 hf9
            obtain ⟨az, u0, rfl, haz, hu0, hz0⟩ := hr3.at_ (k := 0) (by omega)
            obtain rfl : u0 = .int .i64 f0 := by rw [List.getElem?_map, hA0] at hu0; simpa using hu0.symm
            obtain ⟨az', uL, e', _, huL, hzL⟩ := hr3.at_ (k := La) (by omega)
            obtain rfl : az = az' := by injection e'
            obtain rfl : uL = .int .i64 (begAt f0 b0 l La) := by rw [List.getElem?_map, hAL] at huL; simpa using huL.symm
            obtain ⟨ad, v, rfl, hab, hv, hxL⟩ := hr0.at_ (k := La) (by omega)
            obtain rfl : v = .int .i64 (l.getD La 0) := by
              rw [List.getElem?_map, List.getElem?_eq_getElem (by rw [HL.out]; omega)] at hv
              rw [List.getD_eq_getElem?_getD, List.getElem?_eq_getElem (by rw [HL.out]; omega)]
              simpa using hv.symm
            have z0 : az.add 0 = az := by unfold Addr.add; rw [if_pos rfl]
            rw [z0] at hz0
            have n1 : IntKind.i64.wrap ((La : Int) + 1 - 1) = (La : Int) := by rw [IntKind.wrap_i64]; omega
            have n2 : IntKind.i64.wrap (((La + 1 : Nat) : Int) - 1) = (La : Int) := by rw [IntKind.wrap_i64]; omega
            have n3 : (La : Int) < (La : Int) + 1 := by omega
            have n4 : (0 : Int) ≤ (La : Int) := Int.natCast_nonneg _
            have n5 := Int.toNat_natCast La
            clear p1 p6 p7 p8 p9 p10 hf0 hb0 hu0 huL hv hA0 hAL e' hcb e00 z0 haz hab
            have wE : IntKind.i64.wrap (begAt f0 b0 l La + l.getD La 0) = begAt f0 b0 l La + l.getD La 0 := by rw [IntKind.wrap_i64]; omega
            have hE0 := HEND.out
            generalize l.sum = S at *
            generalize hov : max (room - S) 0 = ov at *
            generalize hB : begAt f0 b0 l La = BL at *
            clear hB
            generalize hXL : l.getD La 0 = XL at *
            clear hXL HEND
            have EB1 : -4398046511104 ≤ BL + XL := by omega
            have EB2 : BL + XL ≤ 4398046511104 := by omega
            have HE := Lib.hid hE0
            clear hE0
            by_cases h3 : how = 3
            · subst h3
              obtain rfl : f0 = 0 := by have e := HF.out; unfold firstJ at e; rwa [if_neg (by decide), if_neg (by decide)] at e
              have hbd := HB.out
              unfold betweenJ at hbd
              rw [if_pos rfl] at hbd
              have HBD := Lib.hid hbd
              clear hbd
              go_wp2
              go_quiet (fail)
              go_wp2
              clear hov
              go_loopw [15] (fun s15 wr => ∃ (j m q' : Nat), Hid (j = m + 1) ∧ m ≤ La ∧ s15 = .int .i64 (j : Int) ∧ wr = w3.drewN q') (fun s15 _ => La + 1 - (intOf s15).toNat)
              case atStart => exact ⟨1, 0, _, Lib.hid rfl, Nat.zero_le _, rfl, rfl⟩
              case round =>
                obtain ⟨j, m, q', hj, hm, rfl, rfl⟩ := hrel
                have hj1 : j ≤ m + 1 := Nat.le_of_eq hj.out
                have hj2 : m + 1 ≤ j := Nat.le_of_eq hj.out.symm
                by_cases hlt2 : m < La
                · have h1 := HP7.out j (by omega)
                  have h0 := HP7.out m (by omega)
                  have hst := HP8.out m hlt2
                  rw [← hj.out] at hst
                  have bm0 := HP9.out m (by omega)
                  have bm1 := HP9.out j (by omega)
                  have xm0 := HX.out m (by omega)
                  have xm1 := HXM.out m (by omega)
                  obtain ⟨az', u1, e1, _, hu1, hz1⟩ := hr3.at_ (k := j) (by omega)
                  obtain rfl : az = az' := by injection e1
                  obtain rfl : u1 = .int .i64 (begAt 0 b0 l j) := by rw [List.getElem?_map, h1] at hu1; simpa using hu1.symm
                  obtain ⟨az', u0, e2, _, hu0, hzm⟩ := hr3.at_ (k := m) (by omega)
                  obtain rfl : az = az' := by injection e2
                  obtain rfl : u0 = .int .i64 (begAt 0 b0 l m) := by rw [List.getElem?_map, h0] at hu0; simpa using hu0.symm
                  obtain ⟨ad', v, e3, _, hv, hxm⟩ := hr0.at_ (k := m) (by omega)
                  obtain rfl : ad = ad' := by injection e3
                  obtain rfl : v = .int .i64 (l.getD m 0) := by
                    rw [List.getElem?_map, List.getElem?_eq_getElem (by rw [HL.out]; omega)] at hv
                    rw [List.getD_eq_getElem?_getD, List.getElem?_eq_getElem (by rw [HL.out]; omega)]
                    simpa using hv.symm
                  generalize begAt 0 b0 l j = a1 at *
                  generalize begAt 0 b0 l m = a0 at *
                  generalize l.getD m 0 = xm at *
                  have m1 : IntKind.i64.wrap ((j : Int) - 1) = (m : Int) := by rw [IntKind.wrap_i64]; omega
                  have m3 : (j : Int) < (La : Int) + 1 := by omega
                  have m4 : (0 : Int) ≤ (m : Int) := Int.natCast_nonneg _
                  have m5 : (0 : Int) ≤ (j : Int) := Int.natCast_nonneg _
                  have m6 := Int.toNat_natCast m
                  have m7 := Int.toNat_natCast j
                  have m9 : (m : Int) < (La : Int) + 1 := by omega
                  have m10 : (j : Int) ≤ (La : Int) := by omega
                  have g1 : IntKind.i64.wrap (a1 - a0) = a1 - a0 := by rw [IntKind.wrap_i64]; omega
                  have g2 : IntKind.i64.wrap (a1 - a0 - xm) = b0 := by rw [IntKind.wrap_i64]; omega
                  have hla : max (((La + 1 : Nat) : Int) - 1) 1 = (La : Int) := by omega
                  have hq : ov / (La : Int) = b0 := by rw [HBD.out, hla]
                  have hla0 : 0 < (La : Int) := by omega
                  clear h1 h0 hst hu1 hu0 hv e1 e2 e3
                  go_wp2
                  go_quiet (fail)
                  go_wp2
                  go_roundw
                  case rel => exact ⟨j + 1, m + 1, q' + nq, Lib.hid (by omega), by omega, by go_num, rfl⟩
                  case measure => simp [intOf]; omega
                · have hn : ¬ (j : Int) ≤ (La : Int) := by omega
                  rcases HOV.out with h0 | h0
                  · have z1 := h0
                    subst z1
                    go_wp2
                    go_ret
                    exact ⟨by simp, bdn hB3 _⟩
                  · by_cases hz : ov = 0
                    · subst hz
                      go_wp2
                      go_ret
                      exact ⟨by simp, bdn hB3 _⟩
                    · have z1 : (ov == 0) = false := by simpa using hz
                      have hE := HE.out
                      have hle : (La : Int) * b0 ≤ ov := by
                        by_cases hL0 : La = 0
                        · subst hL0; simp; omega
                        · have e : max (((La + 1 : Nat) : Int) - 1) 1 = (La : Int) := by omega
                          rw [HBD.out, e]
                          exact Int.mul_ediv_self_le (by omega)
                      have y2 : BL + XL ≤ room := by omega
                      have y3 : decide (BL + XL ≤ room) = true := decide_eq_true y2
                      clear hE hle
                      clear h0
                      go_wp2
                      go_ret
                      exact ⟨by simp, bdn hB3 _⟩
            · have d3 : (how == 3) = false := by simpa using h3
              by_cases h1 : how = 1
              · subst h1
                obtain rfl : b0 = 0 := by have e := HB.out; unfold betweenJ at e; rwa [if_neg h3] at e
                have hf := HF.out
                unfold firstJ at hf
                rw [if_pos rfl] at hf
                have HFF := Lib.hid hf
                clear hf
                go_wp2
                go_quiet (fail)
                go_wp2
                clear hov
                go_loopw [15] (fun s15 wr => ∃ (j m q' : Nat), Hid (j = m + 1) ∧ m ≤ La ∧ s15 = .int .i64 (j : Int) ∧ wr = w3.drewN q') (fun s15 _ => La + 1 - (intOf s15).toNat)
                case atStart => exact ⟨1, 0, _, Lib.hid rfl, Nat.zero_le _, rfl, rfl⟩
                case round =>
                  obtain ⟨j, m, q', hj, hm, rfl, rfl⟩ := hrel
                  have hj1 : j ≤ m + 1 := Nat.le_of_eq hj.out
                  have hj2 : m + 1 ≤ j := Nat.le_of_eq hj.out.symm
                  by_cases hlt2 : m < La
                  · have h1 := HP7.out j (by omega)
                    have h0 := HP7.out m (by omega)
                    have hst := HP8.out m hlt2
                    rw [← hj.out] at hst
                    have bm0 := HP9.out m (by omega)
                    have bm1 := HP9.out j (by omega)
                    have xm0 := HX.out m (by omega)
                    have xm1 := HXM.out m (by omega)
                    obtain ⟨az', u1, e1, _, hu1, hz1⟩ := hr3.at_ (k := j) (by omega)
                    obtain rfl : az = az' := by injection e1
                    obtain rfl : u1 = .int .i64 (begAt f0 0 l j) := by rw [List.getElem?_map, h1] at hu1; simpa using hu1.symm
                    obtain ⟨az', u0, e2, _, hu0, hzm⟩ := hr3.at_ (k := m) (by omega)
                    obtain rfl : az = az' := by injection e2
                    obtain rfl : u0 = .int .i64 (begAt f0 0 l m) := by rw [List.getElem?_map, h0] at hu0; simpa using hu0.symm
                    obtain ⟨ad', v, e3, _, hv, hxm⟩ := hr0.at_ (k := m) (by omega)
                    obtain rfl : ad = ad' := by injection e3
                    obtain rfl : v = .int .i64 (l.getD m 0) := by
                      rw [List.getElem?_map, List.getElem?_eq_getElem (by rw [HL.out]; omega)] at hv
                      rw [List.getD_eq_getElem?_getD, List.getElem?_eq_getElem (by rw [HL.out]; omega)]
                      simpa using hv.symm
                    generalize begAt f0 0 l j = a1 at *
                    generalize begAt f0 0 l m = a0 at *
                    generalize l.getD m 0 = xm at *
                    have m1 : IntKind.i64.wrap ((j : Int) - 1) = (m : Int) := by rw [IntKind.wrap_i64]; omega
                    have m3 : (j : Int) < (La : Int) + 1 := by omega
                    have m4 : (0 : Int) ≤ (m : Int) := Int.natCast_nonneg _
                    have m5 : (0 : Int) ≤ (j : Int) := Int.natCast_nonneg _
                    have m6 := Int.toNat_natCast m
                    have m7 := Int.toNat_natCast j
                    have m9 : (m : Int) < (La : Int) + 1 := by omega
                    have m10 : (j : Int) ≤ (La : Int) := by omega
                    have g1 : IntKind.i64.wrap (a1 - a0) = a1 - a0 := by rw [IntKind.wrap_i64]; omega
                    have g2 : IntKind.i64.wrap (a1 - a0 - xm) = 0 := by rw [IntKind.wrap_i64]; omega
                    clear h1 h0 hst hu1 hu0 hv e1 e2 e3
                    go_wp2
                    go_quiet (fail)
                    go_wp2
                    go_roundw
                    case rel => exact ⟨j + 1, m + 1, q' + nq, Lib.hid (by omega), by omega, by go_num, rfl⟩
                    case measure => simp [intOf]; omega
                  · have hn : ¬ (j : Int) ≤ (La : Int) := by omega
                    rcases HOV.out with h0 | h0
                    · have z1 := h0
                      subst z1
                      have hf := HFF.out
                      obtain rfl : f0 = 0 := by rw [hf]; decide
                      clear hf
                      go_wp2
                      go_ret
                      exact ⟨by simp, bdn hB3 _⟩
                    · by_cases hz : ov = 0
                      · subst hz
                        have hf := HFF.out
                        obtain rfl : f0 = 0 := by rw [hf]; decide
                        clear hf
                        go_wp2
                        go_ret
                        exact ⟨by simp, bdn hB3 _⟩
                      · have z1 : (ov == 0) = false := by simpa using hz
                        have hf := HFF.out
                        have hE := HE.out
                        have y2 : BL + XL ≤ room := by omega
                        have y3 : decide (BL + XL ≤ room) = true := decide_eq_true y2
                        have y4 : IntKind.i64.wrap (room - (BL + XL)) = room - (BL + XL) := by rw [IntKind.wrap_i64]; omega
                        have y5 : IntKind.i64.wrap (room - (BL + XL) - f0) = room - (BL + XL) - f0 := by rw [IntKind.wrap_i64]; omega
                        have y6 : room - (BL + XL) - f0 ≤ 1 := by omega
                        have y7 : decide (room - (BL + XL) - f0 ≤ 1) = true := decide_eq_true y6
                        have y8 : (f0 == ov / 2) = true := by rw [hf]; simp
                        clear hE hf
                        clear h0
                        go_wp2
                        go_ret
                        exact ⟨by simp, bdn hB3 _⟩
              · by_cases h2 : how = 2
                · subst h2
                  obtain rfl : b0 = 0 := by have e := HB.out; unfold betweenJ at e; rwa [if_neg h3] at e
                  obtain rfl : ov = f0 := by have e := HF.out; unfold firstJ at e; rw [if_neg (by decide), if_pos rfl] at e; exact e.symm
                  go_wp2
                  go_quiet (fail)
                  go_wp2
                  clear hov
                  go_loopw [15] (fun s15 wr => ∃ (j m q' : Nat), Hid (j = m + 1) ∧ m ≤ La ∧ s15 = .int .i64 (j : Int) ∧ wr = w3.drewN q') (fun s15 _ => La + 1 - (intOf s15).toNat)
                  case atStart => exact ⟨1, 0, _, Lib.hid rfl, Nat.zero_le _, rfl, rfl⟩
                  case round =>
                    obtain ⟨j, m, q', hj, hm, rfl, rfl⟩ := hrel
                    have hj1 : j ≤ m + 1 := Nat.le_of_eq hj.out
                    have hj2 : m + 1 ≤ j := Nat.le_of_eq hj.out.symm
                    by_cases hlt2 : m < La
                    · have h1 := HP7.out j (by omega)
                      have h0 := HP7.out m (by omega)
                      have hst := HP8.out m hlt2
                      rw [← hj.out] at hst
                      have bm0 := HP9.out m (by omega)
                      have bm1 := HP9.out j (by omega)
                      have xm0 := HX.out m (by omega)
                      have xm1 := HXM.out m (by omega)
                      obtain ⟨az', u1, e1, _, hu1, hz1⟩ := hr3.at_ (k := j) (by omega)
                      obtain rfl : az = az' := by injection e1
                      obtain rfl : u1 = .int .i64 (begAt ov 0 l j) := by rw [List.getElem?_map, h1] at hu1; simpa using hu1.symm
                      obtain ⟨az', u0, e2, _, hu0, hzm⟩ := hr3.at_ (k := m) (by omega)
                      obtain rfl : az = az' := by injection e2
                      obtain rfl : u0 = .int .i64 (begAt ov 0 l m) := by rw [List.getElem?_map, h0] at hu0; simpa using hu0.symm
                      obtain ⟨ad', v, e3, _, hv, hxm⟩ := hr0.at_ (k := m) (by omega)
                      obtain rfl : ad = ad' := by injection e3
                      obtain rfl : v = .int .i64 (l.getD m 0) := by
                        rw [List.getElem?_map, List.getElem?_eq_getElem (by rw [HL.out]; omega)] at hv
                        rw [List.getD_eq_getElem?_getD, List.getElem?_eq_getElem (by rw [HL.out]; omega)]
                        simpa using hv.symm
                      generalize begAt ov 0 l j = a1 at *
                      generalize begAt ov 0 l m = a0 at *
                      generalize l.getD m 0 = xm at *
                      have m1 : IntKind.i64.wrap ((j : Int) - 1) = (m : Int) := by rw [IntKind.wrap_i64]; omega
                      have m3 : (j : Int) < (La : Int) + 1 := by omega
                      have m4 : (0 : Int) ≤ (m : Int) := Int.natCast_nonneg _
                      have m5 : (0 : Int) ≤ (j : Int) := Int.natCast_nonneg _
                      have m6 := Int.toNat_natCast m
                      have m7 := Int.toNat_natCast j
                      have m9 : (m : Int) < (La : Int) + 1 := by omega
                      have m10 : (j : Int) ≤ (La : Int) := by omega
                      have g1 : IntKind.i64.wrap (a1 - a0) = a1 - a0 := by rw [IntKind.wrap_i64]; omega
                      have g2 : IntKind.i64.wrap (a1 - a0 - xm) = 0 := by rw [IntKind.wrap_i64]; omega
                      clear h1 h0 hst hu1 hu0 hv e1 e2 e3
                      go_wp2
                      go_quiet (fail)
                      go_wp2
                      go_roundw
                      case rel => exact ⟨j + 1, m + 1, q' + nq, Lib.hid (by omega), by omega, by go_num, rfl⟩
                      case measure => simp [intOf]; omega
                    · have hn : ¬ (j : Int) ≤ (La : Int) := by omega
                      rcases HOV.out with h0 | h0
                      · have z1 := h0
                        subst z1
                        go_wp2
                        go_ret
                        exact ⟨by simp, bdn hB3 _⟩
                      · by_cases hz : ov = 0
                        · subst hz
                          go_wp2
                          go_ret
                          exact ⟨by simp, bdn hB3 _⟩
                        · have z1 : (ov == 0) = false := by simpa using hz
                          have hE := HE.out
                          have y9 : BL + XL = room := by omega
                          have y10 : (BL + XL == room) = true := by rw [y9]; simp
                          have y2 : BL + XL ≤ room := by omega
                          have y3 : decide (BL + XL ≤ room) = true := decide_eq_true y2
                          clear hE y9
                          clear h0
                          go_wp2
                          go_ret
                          exact ⟨by simp, bdn hB3 _⟩
                · obtain rfl : f0 = 0 := by have e := HF.out; unfold firstJ at e; rwa [if_neg h1, if_neg h2] at e
                  have d1 : (how == 1) = false := by simpa using h1
                  have d2 : (how == 2) = false := by simpa using h2
                  obtain rfl : b0 = 0 := by have e := HB.out; unfold betweenJ at e; rwa [if_neg h3] at e
                  go_wp2
                  go_quiet (fail)
                  go_wp2
                  clear hov
                  go_loopw [15] (fun s15 wr => ∃ (j m q' : Nat), Hid (j = m + 1) ∧ m ≤ La ∧ s15 = .int .i64 (j : Int) ∧ wr = w3.drewN q') (fun s15 _ => La + 1 - (intOf s15).toNat)
                  case atStart => exact ⟨1, 0, _, Lib.hid rfl, Nat.zero_le _, rfl, rfl⟩
                  case round =>
                    obtain ⟨j, m, q', hj, hm, rfl, rfl⟩ := hrel
                    have hj1 : j ≤ m + 1 := Nat.le_of_eq hj.out
                    have hj2 : m + 1 ≤ j := Nat.le_of_eq hj.out.symm
                    by_cases hlt2 : m < La
                    · have h1 := HP7.out j (by omega)
                      have h0 := HP7.out m (by omega)
                      have hst := HP8.out m hlt2
                      rw [← hj.out] at hst
                      have bm0 := HP9.out m (by omega)
                      have bm1 := HP9.out j (by omega)
                      have xm0 := HX.out m (by omega)
                      have xm1 := HXM.out m (by omega)
                      obtain ⟨az', u1, e1, _, hu1, hz1⟩ := hr3.at_ (k := j) (by omega)
                      obtain rfl : az = az' := by injection e1
                      obtain rfl : u1 = .int .i64 (begAt 0 0 l j) := by rw [List.getElem?_map, h1] at hu1; simpa using hu1.symm
                      obtain ⟨az', u0, e2, _, hu0, hzm⟩ := hr3.at_ (k := m) (by omega)
                      obtain rfl : az = az' := by injection e2
                      obtain rfl : u0 = .int .i64 (begAt 0 0 l m) := by rw [List.getElem?_map, h0] at hu0; simpa using hu0.symm
                      obtain ⟨ad', v, e3, _, hv, hxm⟩ := hr0.at_ (k := m) (by omega)
                      obtain rfl : ad = ad' := by injection e3
                      obtain rfl : v = .int .i64 (l.getD m 0) := by
                        rw [List.getElem?_map, List.getElem?_eq_getElem (by rw [HL.out]; omega)] at hv
                        rw [List.getD_eq_getElem?_getD, List.getElem?_eq_getElem (by rw [HL.out]; omega)]
                        simpa using hv.symm
                      generalize begAt 0 0 l j = a1 at *
                      generalize begAt 0 0 l m = a0 at *
                      generalize l.getD m 0 = xm at *
                      have m1 : IntKind.i64.wrap ((j : Int) - 1) = (m : Int) := by rw [IntKind.wrap_i64]; omega
                      have m3 : (j : Int) < (La : Int) + 1 := by omega
                      have m4 : (0 : Int) ≤ (m : Int) := Int.natCast_nonneg _
                      have m5 : (0 : Int) ≤ (j : Int) := Int.natCast_nonneg _
                      have m6 := Int.toNat_natCast m
                      have m7 := Int.toNat_natCast j
                      have m9 : (m : Int) < (La : Int) + 1 := by omega
                      have m10 : (j : Int) ≤ (La : Int) := by omega
                      have g1 : IntKind.i64.wrap (a1 - a0) = a1 - a0 := by rw [IntKind.wrap_i64]; omega
                      have g2 : IntKind.i64.wrap (a1 - a0 - xm) = 0 := by rw [IntKind.wrap_i64]; omega
                      clear h1 h0 hst hu1 hu0 hv e1 e2 e3
                      go_wp2
                      go_quiet (fail)
                      go_wp2
                      go_roundw
                      case rel => exact ⟨j + 1, m + 1, q' + nq, Lib.hid (by omega), by omega, by go_num, rfl⟩
                      case measure => simp [intOf]; omega
                    · have hn : ¬ (j : Int) ≤ (La : Int) := by omega
                      rcases HOV.out with h0 | h0
                      · have z1 := h0
                        subst z1
                        go_wp2
                        go_ret
                        exact ⟨by simp, bdn hB3 _⟩
                      · by_cases hz : ov = 0
                        · subst hz
                          go_wp2
                          go_ret
                          exact ⟨by simp, bdn hB3 _⟩
                        · have z1 : (ov == 0) = false := by simpa using hz
                          have hE := HE.out
                          have y2 : BL + XL ≤ room := by omega
                          have y3 : decide (BL + XL ≤ room) = true := decide_eq_true y2
                          clear hE
                          clear h0
                          go_wp2
                          go_ret
                          exact ⟨by simp, bdn hB3 _⟩
end flexStands
end Go.Proofs.Ytnjnkcjhhgffjaa
