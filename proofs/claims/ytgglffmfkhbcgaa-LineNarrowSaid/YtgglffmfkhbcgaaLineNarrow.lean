/- Rows.LineNarrowSaid: the law's walk. Conditions: none beyond the row's own. -/
import Derived.Test.YtgglffmfkhbcgaaLineI
import Derived.Test.YtgglffmfkhbcgaaLineR
namespace Go.Proofs.Ytgglffmfkhbcgaa
open Go.ChangeShapes Go.WideShapes Go.ChangeAt Go.RowKit
namespace lineNarrow
set_option maxHeartbeats 16000000 in
set_option maxRecDepth 100000 in
theorem walk (A : Option Addr) (n c : Nat) (l : List Pc) (room more : Int) (W : World) (hn : n ≤ 17592186043904) (hnc : n ≤ c) (hr : Reads W W.heap.size 6 A n (flatP l)) :
    Calls Try.prog 6 #[.slice A n c, .int .i64 room, .int .i64 more] W fun e W' => e = .returned (.bool true) ∧ Below W.heap.size W W' := by
  have HL := Lib.hid (len_P hr)
  have cA := fun w => lineAwake w
  by_cases h200 : n ≤ 200
  · have i200 : (n : Int) ≤ 200 := by omega
    by_cases hrm : room ≤ more
    · have cF := fun w' (hb : Below W.heap.size W w') => rowsL.fill_any A n c l room 0 w' (hr.onward hb) h200 hnc
      have cG := fun w' (hb : Below W.heap.size W w') => rowsL.fill_any A n c l more 0 w' (hr.onward hb) h200 hnc
      have la := len_of (l := l) (room := room) (align := 0)
      have lb := len_of (l := l) (room := more) (align := 0)
      by_cases hab : fillOk l room = true ∧ fillOk l more = true ∧ 0 < n
      · obtain ⟨ha, hb, hn0⟩ := hab
        rw [if_pos ha, HL.out] at la
        rw [if_pos hb, HL.out] at lb
        have hNar := Lib.hid (fun (i : Nat) (hi : i < n) (p q : Pl) (hp : (fillP l room 0)[i]? = some p) (hq : (fillP l more 0)[i]? = some q) => narrow ha hb hrm (by rw [HL.out]; exact hi) hp hq)
        have LA := Lib.hid la
        have LB := Lib.hid lb
        clear la lb ha hb
        generalize fillP l room 0 = P at *
        generalize fillP l more 0 = Q at *
        generalize fillH l room 0 = H1 at *
        generalize fillH l more 0 = H2 at *
        generalize fillE l room 0 = E1 at *
        generalize fillE l more 0 = E2 at *
        have n0 : (n : Int) ≠ 0 := by omega
        have n1 : ((n : Int) == 0) = false := by simpa using n0
        go_enter Try.func6, Try.ntmps6
        go_wp2_with (first
          | (go_at_call 10; (with_reducible refine (cA _).mono ?_); rintro e w1 ⟨rfl, hb1⟩)
          | (go_at_call 11; (first
              | ((with_reducible refine (cF _ (by with_reducible assumption)).mono ?_); rintro e w2 ⟨v, rfl, hp2, hb⟩
                 have hB2 := below_next hb1 hb
                 obtain ⟨A1, c1, rfl, hrP⟩ := pls_reads hp2 LA.out
                 clear hb hp2 cF)
              | ((with_reducible refine (cG _ (by with_reducible assumption)).mono ?_); rintro e w3 ⟨v, rfl, hp3, hb⟩
                 have hB3 := below_next hB2 hb
                 have hrP3 := hrP.onward hb
                 obtain ⟨A2, c2, rfl, hrQ⟩ := pls_reads hp3 LB.out
                 clear hb hp3 cG hrP))))
        clear cA
        go_loopw [60] (fun i wr => ∃ (k q : Nat), k ≤ n ∧ i = .int .i64 k ∧ wr = w3.drewN q) (fun i _ => n - (intOf i).toNat)
        case atStart => exact ⟨0, 0, Nat.zero_le _, rfl, rfl⟩
        case round =>
          obtain ⟨k, q, hk, rfl, rfl⟩ := hrel
          by_cases hlt : k < n
          · obtain ⟨p, hp⟩ : ∃ p, P[k]? = some p := ⟨P[k]'(by rw [LA.out]; exact hlt), List.getElem?_eq_getElem _⟩
            obtain ⟨p', hp'⟩ : ∃ p', Q[k]? = some p' := ⟨Q[k]'(by rw [LB.out]; exact hlt), List.getElem?_eq_getElem _⟩
            obtain ⟨ad, rfl, _, e0, e1, e2, e3, e4, e5⟩ := pl_of hrP3 hp
            obtain ⟨bd, rfl, _, f0, f1, f2, f3, f4, f5⟩ := pl_of hrQ hp'
            have hle := hNar.out k hlt p p' hp hp'
            have ik : (k : Int) < (n : Int) := by omega
            have ik0 : (0 : Int) ≤ (k : Int) := Int.natCast_nonneg _
            obtain ⟨pp, pn, px, py, pw, ph⟩ := p
            obtain ⟨qp, qn, qx, qy, qw, qh⟩ := p'
            simp only at e1 f1 hle
            have nlt : ¬ pn < qn := by omega
            clear hp hp' e0 e2 e3 e4 e5 f0 f2 f3 f4 f5
            go_wp2
            go_quiet (fail)
            go_wp2
            go_roundw
            case rel => exact ⟨k + 1, _, by omega, by go_num, rfl⟩
            case measure => simp [intOf]; omega
          · go_wp2
            go_ret
            exact ⟨rfl, below_dr hB3 _⟩
      · have hz : (fillP l room 0).length = 0 ∨ (fillP l more 0).length = 0 := by
          rw [la, lb, HL.out]
          by_cases ha : fillOk l room = true
          · by_cases hb : fillOk l more = true
            · left; rw [if_pos ha]; rcases Nat.eq_zero_or_pos n with e | e
              · exact e
              · exact absurd ⟨ha, hb, e⟩ hab
            · right; rw [if_neg hb]
          · left; rw [if_neg ha]
        clear la lb hab
        generalize fillP l room 0 = P at *
        generalize fillP l more 0 = Q at *
        generalize fillH l room 0 = H1 at *
        generalize fillH l more 0 = H2 at *
        generalize fillE l room 0 = E1 at *
        generalize fillE l more 0 = E2 at *
        obtain ⟨m1, hm1⟩ : ∃ m, P.length = m := ⟨_, rfl⟩
        obtain ⟨m2, hm2⟩ : ∃ m, Q.length = m := ⟨_, rfl⟩
        rw [hm1, hm2] at hz
        have LA := Lib.hid hm1
        have LB := Lib.hid hm2
        clear hm1 hm2
        by_cases hz1 : m1 = 0
        · subst hz1
          clear hz
          go_enter Try.func6, Try.ntmps6
          go_wp2_with (first
            | (go_at_call 10; (with_reducible refine (cA _).mono ?_); rintro e w1 ⟨rfl, hb1⟩)
            | (go_at_call 11; (first
                | ((with_reducible refine (cF _ (by with_reducible assumption)).mono ?_); rintro e w2 ⟨v, rfl, hp2, hb⟩
                   have hB2 := below_next hb1 hb
                   obtain ⟨A1, c1, rfl, hrP⟩ := pls_reads hp2 LA.out
                   clear hb hp2 cF)
                | ((with_reducible refine (cG _ (by with_reducible assumption)).mono ?_); rintro e w3 ⟨v, rfl, hp3, hb⟩
                   have hB3 := below_next hB2 hb
                   obtain ⟨A2, c2, rfl, hrQ⟩ := pls_reads hp3 LB.out
                   clear hb hp3 cG))))
          go_ret
          exact ⟨rfl, hB3⟩
        · obtain rfl : m2 = 0 := by omega
          have n0 : (m1 : Int) ≠ 0 := by omega
          have n1 : ((m1 : Int) == 0) = false := by simpa using n0
          clear hz hz1
          go_enter Try.func6, Try.ntmps6
          go_wp2_with (first
            | (go_at_call 10; (with_reducible refine (cA _).mono ?_); rintro e w1 ⟨rfl, hb1⟩)
            | (go_at_call 11; (first
                | ((with_reducible refine (cF _ (by with_reducible assumption)).mono ?_); rintro e w2 ⟨v, rfl, hp2, hb⟩
                   have hB2 := below_next hb1 hb
                   obtain ⟨A1, c1, rfl, hrP⟩ := pls_reads hp2 LA.out
                   clear hb hp2 cF)
                | ((with_reducible refine (cG _ (by with_reducible assumption)).mono ?_); rintro e w3 ⟨v, rfl, hp3, hb⟩
                   have hB3 := below_next hB2 hb
                   obtain ⟨A2, c2, rfl, hrQ⟩ := pls_reads hp3 LB.out
                   clear hb hp3 cG))))
          go_ret
          exact ⟨rfl, hB3⟩
    · have hrm2 : more < room := by omega
      go_enter Try.func6, Try.ntmps6
      go_wp2_with (go_at_call 10; (with_reducible refine (cA _).mono ?_); rintro e w1 ⟨rfl, hb1⟩)
      go_ret
      exact ⟨rfl, hb1⟩
  · have i200 : ¬ (n : Int) ≤ 200 := by omega
    have i201 : (200 : Int) < (n : Int) := by omega
    go_enter Try.func6, Try.ntmps6
    go_wp2_with (go_at_call 10; (with_reducible refine (cA _).mono ?_); rintro e w1 ⟨rfl, hb1⟩)
    go_ret
    exact ⟨rfl, hb1⟩
end lineNarrow
end Go.Proofs.Ytgglffmfkhbcgaa
