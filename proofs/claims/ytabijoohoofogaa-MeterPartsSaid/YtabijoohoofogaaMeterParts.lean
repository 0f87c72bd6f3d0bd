/- MeterParts' walk, from what meter's functions answer. Conditions: those answers; the list lies in memory as it is read. -/
import Derived.Test.YtabijoohoofogaaMeterSpec
namespace Go.Proofs.Ytabijoohoofogaa
open Go.ChangeShapes Go.WideShapes Go.ChangeAt Go.RowKit
namespace meterParts
set_option maxHeartbeats 4000000 in
set_option maxRecDepth 100000 in
theorem walk (cAwake : ∀ w, Calls Try.prog 24 #[] w fun e w' => e = .returned (.bool true) ∧ Below w.heap.size w w') (cNew : NewC) (cNo : NoC) (cTake : TakeC) (cTaken : TakenC) (cLeft : LeftC) (cOver : OverC)
    (lim : Int) (A : Option Addr) (n c : Nat) (l : List Int) (w : World) (hn : n ≤ 17592186043904) (hr : Reads w w.heap.size 1 A n (l.map (Value.int .i64))) :
    Calls Try.prog 10 #[.int .i64 lim, .slice A n c] w fun e w' => e = .returned (.bool true) ∧ Below w.heap.size w w' := by
  by_cases h5 : 200 < n
  · go_enter Try.func10, Try.ntmps10
    go_wp2_with (go_at_call 24; refine (cAwake _).mono ?_; rintro e w1 ⟨rfl, hb⟩)
    go_ret
    exact ⟨rfl, hb⟩
  have h5' : n ≤ 200 := by omega
  clear h5
  by_cases hl : lim < 0 ∨ 1099511627776 < lim
  · have c1 := fun w => cNo lim w hl
    clear hl
    go_enter Try.func10, Try.ntmps10
    go_wp2_with (first
      | (go_at_call 24; refine (cAwake _).mono ?_; rintro e w1 ⟨rfl, hb1⟩; have hB := hb1; clear hb1)
      | (go_at_call 25; (with_reducible refine (c1 _).mono ?_); rintro e w2 ⟨rfl, hb2⟩; have hB := below_next hB hb2; clear hb2))
    go_ret
    exact ⟨rfl, by assumption⟩
  · have l1 : 0 ≤ lim := by omega
    have l2 : lim ≤ 1099511627776 := by omega
    have c1 := fun w => cNew lim w l1 l2
    clear hl
    go_enter Try.func10, Try.ntmps10
    go_wp2_with (first
      | (go_at_call 24; refine (cAwake _).mono ?_; rintro e w1 ⟨rfl, hb1⟩)
      | (go_at_call 25; (with_reducible refine (c1 _).mono ?_); rintro e w2 ⟨rfl, K2, hb2⟩; have tok := hb1.size; have hB2 := below_next hb1 hb2; clear hb1)
      | (go_at_call 25; (with_reducible refine (c1 _).mono ?_); rintro e w3 ⟨rfl, L3, hb3⟩; have hB3 := below_next hB2 hb3; have K3 := K2.next hb3; have hne := K2.lt; clear hb3))
    have hle := hB2.size
    have hlen : l.length = n := by have := hr.1; simpa using this
    have hr3 := hr.below hB3
    clear K2 hB2
    generalize w1.heap.size = g at *
    generalize w2.heap.size = h at *
    have hm0 := mtr_new l1 l2
    go_loopw [9, 41] (fun q i wr => ∃ (k : Nat) (s : Int), k ≤ n ∧ i = .int .i64 k ∧ q = .int .i64 s ∧ 0 ≤ s ∧ s ≤ 1000000 * k ∧ Below w.heap.size w wr ∧ Blk wr g 65 (enc lim (takeT lim 0 false s) (takeO lim 0 false s)) ∧ Blk wr h 65 (enc lim 0 false)) (fun _ i _ => n - (intOf i).toNat)
    case atStart =>
      have e : takeT lim 0 false 0 = 0 ∧ takeO lim 0 false 0 = false := by
        rcases take_ways lim 0 false 0 with ⟨a, _⟩ | ⟨_, b, _⟩ | ⟨_, b, c, _, e, f⟩ | ⟨_, b, c, _, e, f⟩
        · cases a
        · omega
        · omega
        · exact ⟨e, f⟩
      exact ⟨0, 0, Nat.zero_le _, rfl, rfl, by omega, by omega, hB3, by rw [e.1, e.2]; exact K3, L3⟩
    case round =>
      obtain ⟨k, s, hk, rfl, rfl, s0, s1, hBr, Kr, Lr⟩ := hrel
      have mk := mtr_take hm0 s
      by_cases hlt : k < n
      · have hkl : k < l.length := by omega
        obtain ⟨ad, u, rfl, hb, hx, hcell⟩ := (hr.below hBr).at_ hlt
        obtain ⟨x, hxe⟩ : ∃ x, l[k]? = some x := ⟨l[k], List.getElem?_eq_getElem hkl⟩
        rw [List.getElem?_map, hxe] at hx
        obtain rfl : .int .i64 x = u := by simpa using hx
        clear hx hxe hr3
        by_cases x0 : x < 0
        · clear c1
          go_wp2
          go_ret
          exact ⟨rfl, hBr⟩
        · by_cases x1 : 1000000 < x
          · have x0' : 0 ≤ x := by omega
            clear c1
            go_wp2
            go_ret
            exact ⟨rfl, hBr⟩
          · have x0' : 0 ≤ x := by omega
            have x1' : x ≤ 1000000 := by omega
            have ct := fun w K => cTake g lim (takeT lim 0 false s) (takeO lim 0 false s) x w mk K
            have hp := take_parts (lim := lim) s0 x0' rfl rfl
            rw [hp.1, hp.2] at ct
            clear hp x0 x1 mk
            have s2 : s + x ≤ 201000000 := by omega
            have s3 : 0 ≤ s + x := by omega
            have KK := Lib.hid Kr
            generalize takeB lim (takeT lim 0 false s) (takeO lim 0 false s) x = tb at *
            go_wp2_with (first
              | (go_at_call 29; (with_reducible refine (ct _ Kr).mono ?_); rintro e w4 ⟨rfl, K4, hg4⟩))
            go_roundw
            case rel => exact ⟨k + 1, s + x, by omega, by go_num, rfl, s3, by omega, below_only hBr hg4 (by omega), K4, Lr.only hg4 (by omega)⟩
            case measure => simp [intOf]; omega
      · have ct := fun w K => cTake h lim 0 false s w hm0 K
        have mt := mk
        have d1 := fun w K => cTaken g lim (takeT lim 0 false s) (takeO lim 0 false s) w mk K
        have d2 := fun w K => cTaken h lim (takeT lim 0 false s) (takeO lim 0 false s) w mk K
        have d3 := fun w K => cOver g lim (takeT lim 0 false s) (takeO lim 0 false s) w mk K
        have d4 := fun w K => cOver h lim (takeT lim 0 false s) (takeO lim 0 false s) w mk K
        have d5 := fun w K => cLeft g lim (takeT lim 0 false s) (takeO lim 0 false s) w mk K
        have d6 := fun w K => cLeft h lim (takeT lim 0 false s) (takeO lim 0 false s) w mk K
        obtain ⟨m1, m2, m3, _⟩ := mk
        generalize takeB lim 0 false s = tb at *
        generalize takeT lim 0 false s = tt at *
        generalize takeO lim 0 false s = to at *
        clear mt hm0 hr3 hr
        go_wp2_with (first
          | (go_at_call 29; (with_reducible refine (ct _ Lr).mono ?_); rintro e w4 ⟨rfl, L4, hg4⟩
             have K4 := Kr.only hg4 (by omega)
             have hB4 := below_only hBr hg4 (by omega))
          | (go_at_call 31; (first | (with_reducible refine (d1 _ K4).mono ?_) | (with_reducible refine (d2 _ L4).mono ?_)); rintro e w5 ⟨rfl, rfl⟩)
          | (go_at_call 33; (first | (with_reducible refine (d3 _ K4).mono ?_) | (with_reducible refine (d4 _ L4).mono ?_)); rintro e w5 ⟨rfl, rfl⟩)
          | (go_at_call 32; (first | (with_reducible refine (d5 _ K4).mono ?_) | (with_reducible refine (d6 _ L4).mono ?_)); rintro e w5 ⟨rfl, n5, rfl⟩; replace K4 := K4.drewN n5; replace L4 := L4.drewN n5))
        go_ret
        exact ⟨rfl, below_dr hB4 _⟩
end meterParts
end Go.Proofs.Ytabijoohoofogaa
