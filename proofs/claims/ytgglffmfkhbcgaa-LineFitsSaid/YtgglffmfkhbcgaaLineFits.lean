/- Rows.LineFitsSaid: the law's walk. Conditions: none beyond the row's own. -/
import Derived.Test.YtgglffmfkhbcgaaLineI
import Derived.Test.YtgglffmfkhbcgaaLineV
namespace Go.Proofs.Ytgglffmfkhbcgaa
open Go.ChangeShapes Go.WideShapes Go.ChangeAt Go.RowKit
namespace lineFits
set_option maxHeartbeats 16000000 in
set_option maxRecDepth 100000 in
theorem walk (A : Option Addr) (n c : Nat) (l : List Pc) (room : Int) (W : World) (hn : n ≤ 17592186043904) (hnc : n ≤ c) (hr : Reads W W.heap.size 6 A n (flatP l)) :
    Calls Try.prog 7 #[.slice A n c, .int .i64 room] W fun e W' => e = .returned (.bool true) ∧ Below W.heap.size W W' := by
  have HL := Lib.hid (len_P hr)
  have cA := fun w => lineAwake w
  by_cases h200 : n ≤ 200
  · have i200 : (n : Int) ≤ 200 := by omega
    have cF := fun w' (hb : Below W.heap.size W w') => rowsL.fill_any A n c l room 0 w' (hr.onward hb) h200 hnc
    have cMin := fun w' (hb : Below W.heap.size W w') => meas.min_any A n c l w' (hr.onward hb) h200 hnc
    have cMax := fun w' (hb : Below W.heap.size W w') => meas.max_any A n c l w' (hr.onward hb) (by omega)
    by_cases hall : fillE l room 0 = true ∧ (meas.minP l).2 = true ∧ (sumL (gwP l)).2 = true
    · obtain ⟨ea, eb, ec⟩ := hall
      obtain ⟨hm, hro1, hro2, hPA, -, -, -⟩ := fill_exact ea
      have hF := Lib.hid (fun (i : Nat) (p : Pc) (hp : l[i]? = some p) => meas.fits_of hm (lines_ok l room) hPA eb ec hp)
      have LA := Lib.hid (hPA.len.trans HL.out)
      clear hPA hm
      rw [ea] at cF
      generalize fillH l room 0 = H at *
      generalize fillP l room 0 = P at *
      generalize meas.minP l = S2 at *
      generalize sumL (gwP l) = S3 at *
      obtain ⟨mn, F⟩ := S2
      obtain ⟨mx, G⟩ := S3
      simp only at eb ec hF cMin cMax
      subst eb
      subst ec
      clear ea
      go_enter Try.func7, Try.ntmps7
      go_wp2_with (first
        | (go_at_call 10; (with_reducible refine (cA _).mono ?_); rintro e w1 ⟨rfl, hb1⟩)
        | (go_at_call 11; (with_reducible refine (cF _ (by with_reducible assumption)).mono ?_); rintro e w2 ⟨v, rfl, hp2, hb⟩
           have hB2 := below_next hb1 hb
           obtain ⟨A1, c1, rfl, hrP⟩ := pls_reads hp2 LA.out
           clear hb hp2 cF)
        | (go_at_call 12; (with_reducible refine (cMin _ (by with_reducible assumption)).mono ?_); rintro e w3 ⟨rfl, hb⟩
           have hB3 := below_next hB2 hb
           have hrP3 := hrP.onward hb
           clear hb cMin hrP)
        | (go_at_call 13; (with_reducible refine (cMax _ (by with_reducible assumption)).mono ?_); rintro e w4 ⟨rfl, hb⟩
           have hB4 := below_next hB3 hb
           have hrP4 := hrP3.onward hb
           clear hb cMax hrP3))
      clear cA
      go_loopw [48] (fun i wr => ∃ (k : Nat), k ≤ n ∧ i = .int .i64 k ∧ Below w4.heap.size w4 wr) (fun i _ => n - (intOf i).toNat)
      case atStart => exact ⟨0, Nat.zero_le _, rfl, Below.refl _ _⟩
      case round =>
        obtain ⟨k, hk, rfl, hBr⟩ := hrel
        have hrP1 := hrP4.onward hBr
        by_cases hlt : k < n
        · obtain ⟨p, hp⟩ : ∃ p, l[k]? = some p := ⟨l[k]'(by rw [HL.out]; exact hlt), List.getElem?_eq_getElem _⟩
          obtain ⟨j, X, Y, d1, d2, d3, d4, d5, d6⟩ := hF.out k p hp
          obtain ⟨ad1, rfl, hab, e0, e1, e2, e3, e4, e5⟩ := pl_of hrP1 d1
          have ik : (k : Int) < (n : Int) := by omega
          have ik0 : (0 : Int) ≤ (k : Int) := Int.natCast_nonneg _
          have ij0 : (0 : Int) ≤ (j : Int) := Int.natCast_nonneg _
          clear d1 hp hab hrP1
          obtain ⟨pb, pw, ph, pg, pt, pk⟩ := p
          simp only at e0 e1 e2 e3 e4 e5 d3 d4 d6
          have xw : IntKind.i64.wrap (X + pw) = X + pw := by rw [IntKind.wrap_i64]; omega
          by_cases hmx : mx ≤ room
          · have hj := d5 hmx
            have dj : ¬ (0 : Int) < (j : Int) := by omega
            clear d5 hj
            by_cases hmn : mn ≤ room
            · have dx : ¬ room < X + pw := by have := d6 hmn; omega
              clear d6
              go_wp2
              go_roundw
              case rel => exact ⟨k + 1, by omega, by go_num, below_al hBr _⟩
              case measure => simp [intOf]; omega
            · have dx : room < mn := by omega
              clear d6
              go_wp2
              go_roundw
              case rel => exact ⟨k + 1, by omega, by go_num, below_al hBr _⟩
              case measure => simp [intOf]; omega
          · have dj : room < mx := by omega
            clear d5
            by_cases hmn : mn ≤ room
            · have dx : ¬ room < X + pw := by have := d6 hmn; omega
              clear d6
              go_wp2
              go_roundw
              case rel => exact ⟨k + 1, by omega, by go_num, below_al hBr _⟩
              case measure => simp [intOf]; omega
            · have dx : room < mn := by omega
              clear d6
              go_wp2
              go_roundw
              case rel => exact ⟨k + 1, by omega, by go_num, below_al hBr _⟩
              case measure => simp [intOf]; omega
        · go_wp2
          go_ret
          exact ⟨rfl, below_next hB4 hBr⟩
    · generalize fillH l room 0 = H at *
      generalize fillE l room 0 = E at *
      generalize meas.minP l = S2 at *
      generalize sumL (gwP l) = S3 at *
      obtain ⟨mn, F⟩ := S2
      obtain ⟨mx, G⟩ := S3
      simp only at hall cMin cMax
      obtain ⟨m1, hm1⟩ : ∃ m, (fillP l room 0).length = m := ⟨_, rfl⟩
      have LA := Lib.hid hm1
      clear hm1
      generalize fillP l room 0 = P at *
      rcases E with _ | _ <;> rcases F with _ | _ <;> rcases G with _ | _
      case true.true.true => exact absurd ⟨rfl, rfl, rfl⟩ hall
      all_goals
        clear hall
        go_enter Try.func7, Try.ntmps7
        go_wp2_with (first
          | (go_at_call 10; (with_reducible refine (cA _).mono ?_); rintro e w1 ⟨rfl, hb1⟩)
          | (go_at_call 11; (with_reducible refine (cF _ (by with_reducible assumption)).mono ?_); rintro e w2 ⟨v, rfl, hp2, hb⟩
             have hB2 := below_next hb1 hb
             obtain ⟨A1, c1, rfl, hrP⟩ := pls_reads hp2 LA.out
             clear hb hp2 cF)
          | (go_at_call 12; (with_reducible refine (cMin _ (by with_reducible assumption)).mono ?_); rintro e w3 ⟨rfl, hb⟩
             have hB3 := below_next hB2 hb
             have hrP3 := hrP.onward hb
             clear hb cMin hrP)
          | (go_at_call 13; (with_reducible refine (cMax _ (by with_reducible assumption)).mono ?_); rintro e w4 ⟨rfl, hb⟩
             have hB4 := below_next hB3 hb
             have hrP4 := hrP3.onward hb
             clear hb cMax hrP3))
        go_ret
        exact ⟨rfl, hB4⟩
  · have i200 : ¬ (n : Int) ≤ 200 := by omega
    have i201 : (200 : Int) < (n : Int) := by omega
    go_enter Try.func7, Try.ntmps7
    go_wp2_with (go_at_call 10; (with_reducible refine (cA _).mono ?_); rintro e w1 ⟨rfl, hb1⟩)
    go_ret
    exact ⟨rfl, hb1⟩
end lineFits
end Go.Proofs.Ytgglffmfkhbcgaa
