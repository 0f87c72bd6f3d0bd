/- MeterRises' walk, from what meter's functions answer. Conditions: those answers; the list lies in memory as it is read. -/
import Derived.Test.YtabijoohoofogaaMeterSpec
namespace Go.Proofs.Ytabijoohoofogaa
open Go.ChangeShapes Go.WideShapes Go.ChangeAt Go.RowKit
namespace meterRises
set_option maxHeartbeats 4000000 in
set_option maxRecDepth 100000 in
theorem walk (cAwake : ∀ w, Calls Try.prog 24 #[] w fun e w' => e = .returned (.bool true) ∧ Below w.heap.size w w') (cNew : NewC) (cNo : NoC) (cTake : TakeC) (cTaken : TakenC) (cLeft : LeftC) (cOver : OverC)
    (lim : Int) (A : Option Addr) (n c : Nat) (l : List Int) (w : World) (hn : n ≤ 17592186043904) (hr : Reads w w.heap.size 1 A n (l.map (Value.int .i64))) (h64 : ∀ x ∈ l, -9223372036854775808 ≤ x ∧ x ≤ 9223372036854775807) :
    Calls Try.prog 9 #[.int .i64 lim, .slice A n c] w fun e w' => e = .returned (.bool true) ∧ Below w.heap.size w w' := by
  by_cases h5 : 200 < n
  · go_enter Try.func9, Try.ntmps9
    go_wp2_with (go_at_call 24; refine (cAwake _).mono ?_; rintro e w1 ⟨rfl, hb⟩)
    go_ret
    exact ⟨rfl, hb⟩
  have h5' : n ≤ 200 := by omega
  clear h5
  by_cases hl : lim < 0 ∨ 1099511627776 < lim
  · have c1 := fun w => cNo lim w hl
    clear hl
    go_enter Try.func9, Try.ntmps9
    go_wp2_with (first
      | (go_at_call 24; refine (cAwake _).mono ?_; rintro e w1 ⟨rfl, hb1⟩; have hB := hb1; clear hb1)
      | (go_at_call 25; (with_reducible refine (c1 _).mono ?_); rintro e w2 ⟨rfl, hb2⟩; have hB := below_next hB hb2; clear hb2))
    go_ret
    exact ⟨rfl, by assumption⟩
  · have l1 : 0 ≤ lim := by omega
    have l2 : lim ≤ 1099511627776 := by omega
    have c1 := fun w => cNew lim w l1 l2
    clear hl
    go_enter Try.func9, Try.ntmps9
    go_wp2_with (first
      | (go_at_call 24; refine (cAwake _).mono ?_; rintro e w1 ⟨rfl, hb1⟩)
      | (go_at_call 25; (with_reducible refine (c1 _).mono ?_); rintro e w2 ⟨rfl, K2, hb2⟩; have hle := hb1.size; have hB2 := below_next hb1 hb2; clear hb1 hb2))
    have hlen : l.length = n := by have := hr.1; simpa using this
    clear c1
    generalize w1.heap.size = g at *
    have hm0 := mtr_new l1 l2
    go_loopw [28] (fun i wr => ∃ (k : Nat) (t : Int) (o : Bool), k ≤ n ∧ i = .int .i64 k ∧ mtr lim t o ∧ Below w.heap.size w wr ∧ Blk wr g 65 (enc lim t o)) (fun i _ => n - (intOf i).toNat)
    case atStart => exact ⟨0, 0, false, Nat.zero_le _, rfl, hm0, hB2, K2⟩
    case round =>
      obtain ⟨k, t, o, hk, rfl, mk, hBr, Kr⟩ := hrel
      by_cases hlt : k < n
      · have hkl : k < l.length := by omega
        obtain ⟨ad, u, rfl, hb, hx, hcell⟩ := (hr.below hBr).at_ hlt
        obtain ⟨x, hxe⟩ : ∃ x, l[k]? = some x := ⟨l[k], List.getElem?_eq_getElem hkl⟩
        rw [List.getElem?_map, hxe] at hx
        obtain rfl : .int .i64 x = u := by simpa using hx
        have hx64 := h64 x (List.mem_of_getElem? hxe)
        obtain ⟨x1, x2⟩ := hx64
        clear hx hxe
        have mk' := mtr_take mk x
        have ct := fun w K => cTake g lim t o x w mk K
        have d1 := fun w K => cTaken g lim t o w mk K
        have d2 := fun w K => cOver g lim t o w mk K
        have e1 := fun w K => cTaken g lim (takeT lim t o x) (takeO lim t o x) w mk' K
        have e2 := fun w K => cOver g lim (takeT lim t o x) (takeO lim t o x) w mk' K
        have e3 := fun w K => cLeft g lim (takeT lim t o x) (takeO lim t o x) w mk' K
        obtain ⟨m1, m2, m3, m4⟩ := mk
        rcases take_ways lim t o x with ⟨rfl, p, q, r⟩ | ⟨rfl, y1, p, q, r⟩ | ⟨rfl, y1, y2, p, q, r⟩ | ⟨rfl, y1, y2, p, q, r⟩
        all_goals
          rw [p, q, r] at ct
          rw [q, r] at e1 e2 e3 mk'
          clear p q r
          (try obtain rfl := m4 rfl)
          clear m4
          go_wp2_with (first
            | (go_at_call 29; (with_reducible refine (ct _ Kr).mono ?_); rintro e w4 ⟨rfl, K4, hg4⟩; have hB4 := below_only hBr hg4 hle; clear Kr)
            | (go_at_call 31; (first | (with_reducible refine (e1 _ K4).mono ?_) | (with_reducible refine (d1 _ Kr).mono ?_)); rintro e w5 ⟨rfl, rfl⟩)
            | (go_at_call 33; (first | (with_reducible refine (e2 _ K4).mono ?_) | (with_reducible refine (d2 _ Kr).mono ?_)); rintro e w5 ⟨rfl, rfl⟩)
            | (go_at_call 32; (with_reducible refine (e3 _ K4).mono ?_); rintro e w5 ⟨rfl, n5, rfl⟩; replace K4 := K4.drewN n5; replace hB4 := below_dr hB4 n5))
          go_roundw
          case rel => exact ⟨k + 1, _, _, by omega, by go_num, mk', hB4, K4⟩
          case measure => simp [intOf]; omega
      · go_wp2
        go_ret
        exact ⟨rfl, hBr⟩
end meterRises
end Go.Proofs.Ytabijoohoofogaa
