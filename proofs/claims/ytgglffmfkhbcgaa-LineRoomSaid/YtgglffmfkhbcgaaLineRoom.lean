/- Rows.LineRoomSaid: the law's walk. Conditions: none beyond the row's own. -/
import Derived.Test.YtgglffmfkhbcgaaLineI
import Derived.Test.YtgglffmfkhbcgaaLineS
import Derived.Deep.Cut
import Derived.Deep.CutRange
import Derived.Deep.DeepCutAuto
namespace Go.Proofs.Ytgglffmfkhbcgaa
open Go.ChangeShapes Go.WideShapes Go.ChangeAt Go.RowKit
namespace lineRoom
set_option maxHeartbeats 16000000 in
set_option maxRecDepth 100000 in
theorem walk (A : Option Addr) (n c : Nat) (l : List Pc) (room align : Int) (W : World) (hn : n ≤ 17592186043904) (hnc : n ≤ c) (hr : Reads W W.heap.size 6 A n (flatP l)) :
    Calls Try.prog 3 #[.slice A n c, .int .i64 room, .int .i64 align] W fun e W' => e = .returned (.bool true) ∧ Below W.heap.size W W' := by
  have HL := Lib.hid (len_P hr)
  have cA := fun w => lineAwake w
  by_cases h200 : n ≤ 200
  · have i200 : (n : Int) ≤ 200 := by omega
    have cF := fun w' (hb : Below W.heap.size W w') => rowsL.fill_any A n c l room align w' (hr.onward hb) h200 hnc
    cases he : fillE l room align
    · rw [he] at cF
      go_enter Try.func3, Try.ntmps3
      go_wp2_with (first
        | (go_at_call 10; (with_reducible refine (cA _).mono ?_); rintro e w1 ⟨rfl, hb1⟩)
        | (go_at_call 11; (with_reducible refine (cF _ (by with_reducible assumption)).mono ?_); rintro e w2 ⟨v, rfl, hp2, hb⟩
           have hB2 := below_next hb1 hb))
      go_ret
      exact ⟨rfl, hB2⟩
    · obtain ⟨hm, hro1, hro2, hPl, hH, -, -⟩ := fill_exact he
      have hC := lines_ok l room
      rw [he] at cF
      clear hH he
      generalize fillP l room align = P at *
      generalize fillH l room align = H at *
      generalize linesP l room = C at *
      have HC := Lib.hid hC
      have HPl := Lib.hid hPl
      have HM := Lib.hid hm
      have hpl := Lib.hid (hPl.len.trans HL.out)
      clear hC hPl hm
      go_enter Try.func3, Try.ntmps3
      go_wp2_with (first
        | (go_at_call 10; (with_reducible refine (cA _).mono ?_); rintro e w1 ⟨rfl, hb1⟩)
        | (go_at_call 11; (with_reducible refine (cF _ (by with_reducible assumption)).mono ?_); rintro e w2 ⟨v, rfl, hp2, hb⟩
           have hB2 := below_next hb1 hb
           obtain ⟨A1, c1, rfl, hrP⟩ := pls_reads hp2 hpl.out
           have hr2 := hr.onward hB2
           clear hb hp2 hb1))
      clear cA cF
      go_loopw [11, 10] (fun i s wr => ∃ (t f : Nat), t ≤ n + 1 ∧ 1 ≤ t ∧ i = .int .i64 t ∧ s = .int .i64 f ∧ Hid (t ≤ n → ∃ (j b : Nat), C[j]? = some (f, b) ∧ f < t ∧ t ≤ b) ∧ Below w2.heap.size w2 wr) (fun i _ _ => n + 1 - (intOf i).toNat)
      case atStart => exact ⟨1, 0, by omega, Nat.le_refl _, rfl, rfl, Lib.hid (fun h => by
        obtain ⟨j, a, b, h1, h2, h3⟩ := line_of HC.out 0 (by rw [HL.out]; omega)
        obtain rfl : a = 0 := by omega
        exact ⟨j, b, h1, by omega, by omega⟩), Below.refl _ _⟩
      case round =>
        obtain ⟨t, f, ht1, ht2, rfl, rfl, HR, hBr⟩ := hrel
        by_cases htn1 : t ≤ n
        · obtain ⟨j, b, hj, hft, htb⟩ := HR.out htn1
          have hrP1 := hrP.onward hBr
          have hrl1 := hr2.onward hBr
          have hbn : b ≤ n := by rw [← HL.out]; exact (HC.out.chain j f b hj).2.1
          obtain ⟨pf, hpf⟩ : ∃ pf, l[f]? = some pf := ⟨l[f]'(by rw [HL.out]; omega), List.getElem?_eq_getElem _⟩
          have df := place_x HPl.out hj (Nat.le_refl f) (by omega) hpf
          rw [off_zero, Int.add_zero] at df
          have it1 : (t : Int) ≤ (n : Int) := by omega
          have it0 : (0 : Int) ≤ (t : Int) := Int.natCast_nonneg _
          have if6 : (0 : Int) ≤ (f : Int) := Int.natCast_nonneg _
          have if5 : (f : Int) < (n : Int) := by omega
          by_cases htb2 : t < b
          · obtain ⟨pt, hpt⟩ : ∃ pt, l[t]? = some pt := ⟨l[t]'(by rw [HL.out]; omega), List.getElem?_eq_getElem _⟩
            have dt := place_x HPl.out hj (Nat.le_of_lt hft) htb2 hpt
            obtain ⟨ad1, rfl, _, e0, e1, e2, e3, e4, e5⟩ := pl_of hrP1 df
            obtain ⟨ad1', hd, _, s0, s1, s2, s3, s4, s5⟩ := pl_of hrP1 dt
            injection hd with hd
            subst hd
            simp only at e1 s1
            have itn : (t : Int) < (n : Int) := by omega
            have hj2 := Lib.hid hj
            clear df dt hpf hpt e0 e2 e3 e4 e5 s0 s2 s3 s4 s5 hj HR
            go_wp2
            go_quiet (fail)
            go_wp2
            go_roundw
            case rel => exact ⟨t + 1, f, by omega, by omega, by go_num, rfl, Lib.hid (fun _ => ⟨j, b, hj2.out, by omega, by omega⟩), below_dr hBr _⟩
            case measure => simp [intOf]; omega
          · obtain rfl : t = b := by omega
            obtain ⟨m, hm⟩ : ∃ m, m + 1 = t := ⟨t - 1, by omega⟩
            obtain ⟨pm, hpm⟩ : ∃ pm, l[m]? = some pm := ⟨l[m]'(by rw [HL.out]; omega), List.getElem?_eq_getElem _⟩
            obtain ⟨dm, m2, m3, m4, m5, m6, m7⟩ := HPl.out.at_ j f t m pm hj (by omega) (by omega) hpm
            obtain ⟨y1, y2, y3, y4, y5, y6⟩ := may_at HM.out hpm
            obtain ⟨Wd, hWd⟩ : ∃ Wd, Wd = wOf l f t := ⟨_, rfl⟩
            have hoe := off_end (a := f) hpm
            rw [hm, ← hWd] at hoe
            have hff := HC.out.fits j f t hj
            have hfk := Lib.hid (fun (h : 0 < f) => show true = pf.k by rw [← brk_of hpf]; exact (hff.1 h).symm)
            have hfit := Lib.hid (show Wd ≤ room ∨ ∀ i, f < i → i < t → rowEnd l i = false by
              rcases hff.2.2.1 with h | h
              · left; rw [← hWd] at h; omega
              · right; exact h)
            have hnx := Lib.hid (show t < n → ∃ (b' eE : Nat), C[j + 1]? = some (t, b') ∧ t < eE ∧ eE ≤ l.length ∧ (∀ i, t < i → i < eE → rowEnd l i = false) ∧ rowEnd l eE = true ∧ ¬ min (wOf l f eE) 1099511627776 ≤ room from fun h => by
              have hjl := (List.getElem?_eq_some_iff.1 hj).1
              have hj1 : j + 1 < C.length := by
                rcases Nat.lt_or_ge (j + 1) C.length with h2 | h2
                · exact h2
                · have := (HC.out.chain j f t hj).2.2.2.2 (by omega); rw [HL.out] at this; omega
              obtain ⟨x, y, hxy⟩ : ∃ x y, C[j + 1]? = some (x, y) := ⟨_, _, List.getElem?_eq_getElem hj1⟩
              have := (HC.out.chain j f t hj).2.2.2.1 x y hxy
              subst this
              obtain ⟨eE, h3, h4, h5, h6, h7⟩ := hff.2.2.2 hj1
              exact ⟨y, eE, hxy, h3, h4, h5, h6, h7⟩)
            obtain ⟨X, hX⟩ : ∃ X, X = moveF room (wOf l f t) align + offL l f m := ⟨_, rfl⟩
            obtain ⟨Xf, hXf⟩ : ∃ Xf, Xf = moveF room (wOf l f t) align := ⟨_, rfl⟩
            obtain ⟨Y, hY⟩ : ∃ Y, Y = highs l C j + (hiP (sub l f t) - pm.h) := ⟨_, rfl⟩
            rw [← hX, ← hY] at dm
            rw [← hXf] at df
            have HWd := Lib.hid hWd
            have x0 : 0 ≤ Xf := by rw [hXf]; exact m2
            have x1 : X = Xf + offL l f m := by rw [hX, hXf]
            have x2 : X + pm.w ≤ 1099511627776 := by rw [hX]; exact m4
            have xw : IntKind.i64.wrap (X + pm.w) = X + pm.w := by rw [IntKind.wrap_i64]; omega
            have xw2 : IntKind.i64.wrap (X + pm.w - Xf) = Wd := by rw [IntKind.wrap_i64]; omega
            obtain ⟨ad1, rfl, _, -, z1, -, -, -, -⟩ := pl_of hrP1 df
            obtain ⟨ad, rfl, _, -, -, -, -, -, -⟩ := pc_of hrl1 hpf
            simp only at z1
            have hj2 := Lib.hid hj
            have hdm := Lib.hid dm
            have hdf := Lib.hid df
            have hHpf := Lib.hid hpf
            clear df dm hpf hpm hj HR hff m2 m3 m4 m5 m6 m7 hoe hX hXf hY hWd x1 htb htb2
            by_cases htn : t < n
            · -- not the last line
              obtain ⟨b0, _, hj0, _⟩ := hnx.out htn
              obtain ⟨pt, hpt⟩ : ∃ pt, l[t]? = some pt := ⟨l[t]'(by rw [HL.out]; omega), List.getElem?_eq_getElem _⟩
              have dt := place_x HPl.out hj0 (Nat.le_refl t) (HC.out.chain _ _ _ hj0).1 hpt
              obtain ⟨ad1', hd, _, t0, t1, t2, t3, t4, t5⟩ := pl_of hrP1 dt
              injection hd with hd
              subst hd
              simp only at t1
              have itn : (t : Int) < (n : Int) := by omega
              have hjj : (((j + 1 : Nat) : Int) == (j : Int)) = false := by simp; omega
              have hj1i : (0 : Int) ≤ ((j + 1 : Nat) : Int) := Int.natCast_nonneg _
              obtain ⟨j1, hj1⟩ : ∃ j1 : Nat, j1 = j + 1 := ⟨_, rfl⟩
              rw [← hj1] at t1 hjj
              have HJ1 := Lib.hid hj1
              clear dt hpt t0 t2 t3 t4 t5 hj0 hj1 hj1i
              go_wp2
              go_quiet (fail)
              have hmt : m + 1 = t := hm
              have e1 : IntKind.i64.wrap ((t : Int) - 1) = (m : Int) := by rw [IntKind.wrap_i64]; omega
              have im : (m : Int) < (n : Int) := by omega
              have im0 : (0 : Int) ≤ (m : Int) := Int.natCast_nonneg _
              have if5 : (f : Int) < (n : Int) := by omega
              have if6 : (0 : Int) ≤ (f : Int) := Int.natCast_nonneg _
              have if7 : IntKind.i64.wrap ((f : Int) + 1) = ((f + 1 : Nat) : Int) := by rw [IntKind.wrap_i64]; omega
              obtain ⟨wq, hwq⟩ : ∃ wq, wq = wr.drewN nq := ⟨_, rfl⟩
              rw [← hwq]
              have hrPq : Reads wq wq.heap.size 6 (some ad1) n (flatL P) := by rw [hwq]; exact hrP1
              have hrlq : Reads wq wq.heap.size 6 (some ad) n (flatP l) := by rw [hwq]; exact hrl1
              have hBq : Below w2.heap.size w2 wq := by rw [hwq]; exact below_dr hBr _
              clear hwq hrP1 hrl1 hBr z1 t1
              obtain ⟨ad1', hd, _, e0, e1', e2, e3, e4, e5⟩ := pl_of hrPq hdm.out
              injection hd with hd
              subst hd
              obtain ⟨pb, pw, ph, pg, ptt, pk⟩ := pm
              simp only at e0 e1' e2 e3 e4 e5 xw xw2 x2 hdm
              have hrP2 := hrPq.alloc' (.cells #[.int .i64 (m : Int), .int .i64 (j : Int), .int .i64 X, .int .i64 Y, .int .i64 pw, .int .i64 ph] 30)
              have hrl2 := hrlq.alloc' (.cells #[.int .i64 (m : Int), .int .i64 (j : Int), .int .i64 X, .int .i64 Y, .int .i64 pw, .int .i64 ph] 30)
              have hBa := below_al hBq (.cells #[.int .i64 (m : Int), .int .i64 (j : Int), .int .i64 X, .int .i64 Y, .int .i64 pw, .int .i64 ph] 30)
              obtain ⟨ad1', hd, _, s0, s1, s2, s3, s4, s5⟩ := pl_of hrP2 hdf.out
              injection hd with hd
              subst hd
              obtain ⟨ad', hd, _, r0, r1, r2, r3, r4, r5⟩ := pc_of hrl2 hHpf.out
              injection hd with hd
              subst hd
              obtain ⟨fb, fw, fh, fg, ft, fk⟩ := pf
              simp only at s1 s2 r5 hfk hdf hHpf
              clear hdm hdf hHpf s0 s3 s4 s5 r0 r1 r2 r3 r4 hrPq hrlq
              go_wp2
              go_quiet (fail)
              go_wp2
              go_loopw [15, 14] (fun i s wx => ∃ (k q : Nat) (br : Bool), f + 1 ≤ k ∧ k ≤ t ∧ i = .int .i64 k ∧ s = .bool br ∧ Hid (br = true → ∃ i, f < i ∧ i < k ∧ rowEnd l i = true) ∧ wx = (wq.alloc (.cells #[.int .i64 (m : Int), .int .i64 (j : Int), .int .i64 X, .int .i64 Y, .int .i64 pw, .int .i64 ph] 30)).drewN q) (fun i _ _ => t - (intOf i).toNat)
              case atStart => exact ⟨f + 1, _, false, Nat.le_refl _, by omega, by go_num, rfl, Lib.hid (fun h => by cases h), rfl⟩
              case round =>
                obtain ⟨k, q, br, hk1, hk2, rfl, rfl, HBR, rfl⟩ := hrel
                by_cases hkt : k < t
                · obtain ⟨pk, hpk⟩ : ∃ pk, l[k]? = some pk := ⟨l[k]'(by rw [HL.out]; omega), List.getElem?_eq_getElem _⟩
                  obtain ⟨adk, hdk, hblk, r0, r1, r2, r3, r4, r5⟩ := pc_of hrl2 hpk
                  injection hdk with hdk
                  subst hdk
                  have hbk := brk_of hpk
                  have ik : (k : Int) < (n : Int) := by omega
                  have ik0 : (0 : Int) ≤ (k : Int) := Int.natCast_nonneg _
                  obtain ⟨kb, kw, kh, kg, kt, kk⟩ := pk
                  simp only at r5 hbk
                  have HB2 := Lib.hid (show (br || kk) = true → ∃ i, f < i ∧ i < k + 1 ∧ rowEnd l i = true from fun h => by
                    cases br
                    · exact ⟨k, by omega, by omega, by rw [hbk]; simpa using h⟩
                    · obtain ⟨i, i1, i2, i3⟩ := HBR.out rfl; exact ⟨i, i1, by omega, i3⟩)
                  clear hpk hbk r0 r1 r2 r3 r4 HBR
                  cases br
                  · go_wp2
                    go_roundw
                    case rel => exact ⟨k + 1, _, kk, by omega, by omega, by go_num, rfl, by simpa using HB2, rfl⟩
                    case measure => simp [intOf]; omega
                  · go_wp2
                    go_roundw
                    case rel => exact ⟨k + 1, _, true, by omega, by omega, by go_num, rfl, by simpa using HB2, rfl⟩
                    case measure => simp [intOf]; omega
                · obtain rfl : t = k := by omega
                  clear hkt hk1 hk2
                  go_upto_region 22 with (fail)
                  go_cut [112] (fun s wx => s = .bool false ∧ wx = (wq.alloc (.cells #[.int .i64 (m : Int), .int .i64 (j : Int), .int .i64 X, .int .i64 Y, .int .i64 pw, .int .i64 ph] 30)).drewN q)
                  case first =>
                    rcases br with _ | _
                    · cases hcb : decide (room < Wd)
                      · have hcb2 : ¬ room < Wd := of_decide_eq_false hcb
                        by_cases hf0 : f = 0
                        · have if0 : ¬ (0 : Int) < (f : Int) := by omega
                          have if1 : ¬ 0 < f := by omega
                          have if3 : decide ((0 : Int) < (f : Int)) = false := by simp; omega
                          clear hf0
                          go_wp2_with (fail)
                          go_meet
                          exact ⟨rfl, rfl⟩
                        · have if0 : (0 : Int) < (f : Int) := by omega
                          have if1 : 0 < f := by omega
                          have hfk := hfk.out if1
                          subst hfk
                          clear hf0
                          go_wp2_with (fail)
                          go_meet
                          exact ⟨rfl, rfl⟩
                      · have hcb2 : room < Wd := of_decide_eq_true hcb
                        by_cases hf0 : f = 0
                        · have if0 : ¬ (0 : Int) < (f : Int) := by omega
                          have if1 : ¬ 0 < f := by omega
                          have if3 : decide ((0 : Int) < (f : Int)) = false := by simp; omega
                          clear hf0
                          go_wp2_with (fail)
                          go_meet
                          exact ⟨rfl, rfl⟩
                        · have if0 : (0 : Int) < (f : Int) := by omega
                          have if1 : 0 < f := by omega
                          have hfk := hfk.out if1
                          subst hfk
                          clear hf0
                          go_wp2_with (fail)
                          go_meet
                          exact ⟨rfl, rfl⟩
                    · have hcb2 : ¬ room < Wd := by
                        rcases hfit.out with h | h
                        · have := h; omega
                        · obtain ⟨i, i1, i2, i3⟩ := HBR.out rfl; rw [h i i1 (by omega)] at i3; cases i3
                      have hcb : decide (room < Wd) = false := decide_eq_false hcb2
                      by_cases hf0 : f = 0
                      · have if0 : ¬ (0 : Int) < (f : Int) := by omega
                        have if1 : ¬ 0 < f := by omega
                        have if3 : decide ((0 : Int) < (f : Int)) = false := by simp; omega
                        clear hf0
                        go_wp2_with (fail)
                        go_meet
                        exact ⟨rfl, rfl⟩
                      · have if0 : (0 : Int) < (f : Int) := by omega
                        have if1 : 0 < f := by omega
                        have hfk := hfk.out if1
                        subst hfk
                        clear hf0
                        go_wp2_with (fail)
                        go_meet
                        exact ⟨rfl, rfl⟩
                  case rest =>
                    obtain ⟨rfl, rfl⟩ := hcut
                    obtain ⟨b', eE, hj', he1, he2, he3, he4, he5⟩ := hnx.out htn
                    obtain ⟨pt2, hpt2⟩ : ∃ pt2, l[t]? = some pt2 := ⟨l[t]'(by rw [HL.out]; exact htn), List.getElem?_eq_getElem _⟩
                    have htb' := (HC.out.chain (j + 1) t b' hj').1
                    have u0 := place_x HPl.out hj' (Nat.le_refl t) htb' hpt2
                    obtain ⟨adt, hdt, hblt, v0, v1, v2, v3, v4, v5⟩ := pl_of hrP2 u0
                    injection hdt with hdt
                    subst hdt
                    simp only at v1
                    have it2 : (t : Int) < (n : Int) := by omega
                    have hjle := line_le HC.out hj2.out
                    have ijn : IntKind.i64.wrap ((j : Int) + 1) = ((j + 1 : Nat) : Int) := by rw [IntKind.wrap_i64]; omega
                    have HE3 := Lib.hid he3
                    have HE4 := Lib.hid he4
                    have hE5 : room < wOf l f eE := by omega
                    have heN : eE ≤ n := by rw [← HL.out]; exact he2
                    have HNX2 := Lib.hid hj'
                    clear hnx he3 he4 he5 he2 hj' hpt2 u0 v0 v2 v3 v4 v5
                    go_wp2
                    go_loopw [17, 16] (fun i s wx => ∃ (k q : Nat) (mo : Int), t ≤ k ∧ k ≤ eE ∧ i = .int .i64 k ∧ Hid (mo = wOf l f k) ∧ s = .int .i64 mo ∧ wx = (wq.alloc (.cells #[.int .i64 (m : Int), .int .i64 (j : Int), .int .i64 X, .int .i64 Y, .int .i64 pw, .int .i64 ph] 30)).drewN q) (fun i _ _ => eE - (intOf i).toNat)
                    case atStart => exact ⟨t, _, Wd, Nat.le_refl _, Nat.le_of_lt he1, rfl, HWd, rfl, rfl⟩
                    case round =>
                      obtain ⟨k, q, mo, hk1, hk2, rfl, HMO, rfl, rfl⟩ := hrel
                      have hbd := wOf_bd HM.out (show f < k by omega) (by omega)
                      rw [← HMO.out] at hbd
                      by_cases hke : k < eE
                      · obtain ⟨pk, hpk⟩ : ∃ pk, l[k]? = some pk := ⟨l[k]'(by rw [HL.out]; omega), List.getElem?_eq_getElem _⟩
                        obtain ⟨z1, z2, z3, z4, z5, z6⟩ := may_at HM.out hpk
                        obtain ⟨adk, hdk, hblk, r0, r1, r2, r3, r4, r5⟩ := pc_of hrl2 hpk
                        injection hdk with hdk
                        subst hdk
                        have hst := Lib.hid (show wOf l f (k + 1) = mo + (pk.g + pk.w) by rw [wOf_step hpk, HMO.out])
                        have hbk := brk_of hpk
                        have hbr := HE3.out k
                        obtain ⟨kb, kw, kh, kg, kt, kk⟩ := pk
                        simp only at r1 r3 r5 z1 z2 z5 z6 hst hbk
                        have g1 : IntKind.i64.wrap (kg + kw) = kg + kw := by rw [IntKind.wrap_i64]; omega
                        have g2 : IntKind.i64.wrap (mo + (kg + kw)) = mo + (kg + kw) := by rw [IntKind.wrap_i64]; omega
                        have ik : (k : Int) < (n : Int) := by omega
                        have ik0 : (0 : Int) ≤ (k : Int) := Int.natCast_nonneg _
                        by_cases hkt : k = t
                        · have ekt : ((k : Int) == (t : Int)) = true := by rw [hkt]; simp
                          clear hpk hbr hbk hkt r0 r2 r4
                          go_wp2
                          go_quiet (fail)
                          go_wp2
                          go_roundw
                          case rel => exact ⟨k + 1, _, mo + (kg + kw), by omega, by omega, by go_num, Lib.hid hst.out.symm, rfl, rfl⟩
                          case measure => simp [intOf]; omega
                        · have ekt : ((k : Int) == (t : Int)) = false := by simp; omega
                          have hkk : kk = false := by rw [← hbk]; exact hbr (by omega) hke
                          subst hkk
                          clear hpk hbr hbk r0 r2 r4
                          go_wp2
                          go_quiet (fail)
                          go_wp2
                          go_roundw
                          case rel => exact ⟨k + 1, _, mo + (kg + kw), by omega, by omega, by go_num, Lib.hid hst.out.symm, rfl, rfl⟩
                          case measure => simp [intOf]; omega
                      · obtain rfl : k = eE := by omega
                        have hmo : ¬ mo ≤ room := by rw [HMO.out]; omega
                        have hrel2 : Hid (t + 1 ≤ n → ∃ (j b : Nat), C[j]? = some (t, b) ∧ t < t + 1 ∧ t + 1 ≤ b) := Lib.hid (fun _ => ⟨j + 1, b', HNX2.out, by omega, by omega⟩)
                        have ik0 : (0 : Int) ≤ (k : Int) := Int.natCast_nonneg _
                        rcases (show k = n ∨ k < n by omega) with hkn | hkn
                        · have ikn : ¬ (k : Int) < (n : Int) := by omega
                          clear hkn HE4 HNX2
                          go_wp2
                          go_quiet (fail)
                          go_wp2
                          go_roundw
                          case rel => exact ⟨t + 1, t, by omega, by omega, by go_num, rfl, hrel2, below_dr hBa _⟩
                          case measure => simp [intOf]; omega
                        · obtain ⟨pk, hpk⟩ : ∃ pk, l[k]? = some pk := ⟨l[k]'(by rw [HL.out]; omega), List.getElem?_eq_getElem _⟩
                          obtain ⟨adk, hdk, hblk, r0, r1, r2, r3, r4, r5⟩ := pc_of hrl2 hpk
                          injection hdk with hdk
                          subst hdk
                          have hkk : pk.k = true := by rw [← brk_of hpk]; exact HE4.out
                          rw [hkk] at r5
                          have ikn : (k : Int) < (n : Int) := by omega
                          have ekt : ((k : Int) == (t : Int)) = false := by simp; omega
                          clear hkk hpk HE4 HNX2 r0 r1 r2 r3 r4
                          go_wp2
                          go_quiet (fail)
                          go_wp2
                          go_roundw
                          case rel => exact ⟨t + 1, t, by omega, by omega, by go_num, rfl, hrel2, below_dr hBa _⟩
                          case measure => simp [intOf]; omega
            · have itn : ¬ (t : Int) < (n : Int) := by omega
              go_wp2
              go_quiet (fail)
              have hmt : m + 1 = t := hm
              have e1 : IntKind.i64.wrap ((t : Int) - 1) = (m : Int) := by rw [IntKind.wrap_i64]; omega
              have im : (m : Int) < (n : Int) := by omega
              have im0 : (0 : Int) ≤ (m : Int) := Int.natCast_nonneg _
              have if5 : (f : Int) < (n : Int) := by omega
              have if6 : (0 : Int) ≤ (f : Int) := Int.natCast_nonneg _
              have if7 : IntKind.i64.wrap ((f : Int) + 1) = ((f + 1 : Nat) : Int) := by rw [IntKind.wrap_i64]; omega
              obtain ⟨wq, hwq⟩ : ∃ wq, wq = wr.drewN nq := ⟨_, rfl⟩
              rw [← hwq]
              have hrPq : Reads wq wq.heap.size 6 (some ad1) n (flatL P) := by rw [hwq]; exact hrP1
              have hrlq : Reads wq wq.heap.size 6 (some ad) n (flatP l) := by rw [hwq]; exact hrl1
              have hBq : Below w2.heap.size w2 wq := by rw [hwq]; exact below_dr hBr _
              clear hwq hrP1 hrl1 hBr z1
              obtain ⟨ad1', hd, _, e0, e1', e2, e3, e4, e5⟩ := pl_of hrPq hdm.out
              injection hd with hd
              subst hd
              obtain ⟨pb, pw, ph, pg, ptt, pk⟩ := pm
              simp only at e0 e1' e2 e3 e4 e5 xw xw2 x2 hdm
              have hrP2 := hrPq.alloc' (.cells #[.int .i64 (m : Int), .int .i64 (j : Int), .int .i64 X, .int .i64 Y, .int .i64 pw, .int .i64 ph] 30)
              have hrl2 := hrlq.alloc' (.cells #[.int .i64 (m : Int), .int .i64 (j : Int), .int .i64 X, .int .i64 Y, .int .i64 pw, .int .i64 ph] 30)
              have hBa := below_al hBq (.cells #[.int .i64 (m : Int), .int .i64 (j : Int), .int .i64 X, .int .i64 Y, .int .i64 pw, .int .i64 ph] 30)
              obtain ⟨ad1', hd, _, s0, s1, s2, s3, s4, s5⟩ := pl_of hrP2 hdf.out
              injection hd with hd
              subst hd
              obtain ⟨ad', hd, _, r0, r1, r2, r3, r4, r5⟩ := pc_of hrl2 hHpf.out
              injection hd with hd
              subst hd
              obtain ⟨fb, fw, fh, fg, ft, fk⟩ := pf
              simp only at s1 s2 r5 hfk hdf hHpf
              clear hdm hdf hHpf s0 s3 s4 s5 r0 r1 r2 r3 r4 hrPq hrlq
              go_wp2
              go_quiet (fail)
              go_wp2
              go_loopw [15, 14] (fun i s wx => ∃ (k q : Nat) (br : Bool), f + 1 ≤ k ∧ k ≤ t ∧ i = .int .i64 k ∧ s = .bool br ∧ Hid (br = true → ∃ i, f < i ∧ i < k ∧ rowEnd l i = true) ∧ wx = (wq.alloc (.cells #[.int .i64 (m : Int), .int .i64 (j : Int), .int .i64 X, .int .i64 Y, .int .i64 pw, .int .i64 ph] 30)).drewN q) (fun i _ _ => t - (intOf i).toNat)
              case atStart => exact ⟨f + 1, _, false, Nat.le_refl _, by omega, by go_num, rfl, Lib.hid (fun h => by cases h), rfl⟩
              case round =>
                obtain ⟨k, q, br, hk1, hk2, rfl, rfl, HBR, rfl⟩ := hrel
                by_cases hkt : k < t
                · obtain ⟨pk, hpk⟩ : ∃ pk, l[k]? = some pk := ⟨l[k]'(by rw [HL.out]; omega), List.getElem?_eq_getElem _⟩
                  obtain ⟨adk, hdk, hblk, r0, r1, r2, r3, r4, r5⟩ := pc_of hrl2 hpk
                  injection hdk with hdk
                  subst hdk
                  have hbk := brk_of hpk
                  have ik : (k : Int) < (n : Int) := by omega
                  have ik0 : (0 : Int) ≤ (k : Int) := Int.natCast_nonneg _
                  obtain ⟨kb, kw, kh, kg, kt, kk⟩ := pk
                  simp only at r5 hbk
                  have HB2 := Lib.hid (show (br || kk) = true → ∃ i, f < i ∧ i < k + 1 ∧ rowEnd l i = true from fun h => by
                    cases br
                    · exact ⟨k, by omega, by omega, by rw [hbk]; simpa using h⟩
                    · obtain ⟨i, i1, i2, i3⟩ := HBR.out rfl; exact ⟨i, i1, by omega, i3⟩)
                  clear hpk hbk r0 r1 r2 r3 r4 HBR
                  cases br
                  · go_wp2
                    go_roundw
                    case rel => exact ⟨k + 1, _, kk, by omega, by omega, by go_num, rfl, by simpa using HB2, rfl⟩
                    case measure => simp [intOf]; omega
                  · go_wp2
                    go_roundw
                    case rel => exact ⟨k + 1, _, true, by omega, by omega, by go_num, rfl, by simpa using HB2, rfl⟩
                    case measure => simp [intOf]; omega
                · obtain rfl : t = k := by omega
                  clear hkt hk1 hk2
                  go_upto_region 22 with (fail)
                  go_cut [112] (fun s wx => s = .bool false ∧ wx = (wq.alloc (.cells #[.int .i64 (m : Int), .int .i64 (j : Int), .int .i64 X, .int .i64 Y, .int .i64 pw, .int .i64 ph] 30)).drewN q)
                  case first =>
                    rcases br with _ | _
                    · cases hcb : decide (room < Wd)
                      · have hcb2 : ¬ room < Wd := of_decide_eq_false hcb
                        by_cases hf0 : f = 0
                        · have if0 : ¬ (0 : Int) < (f : Int) := by omega
                          have if1 : ¬ 0 < f := by omega
                          have if3 : decide ((0 : Int) < (f : Int)) = false := by simp; omega
                          clear hf0
                          go_wp2_with (fail)
                          go_meet
                          exact ⟨rfl, rfl⟩
                        · have if0 : (0 : Int) < (f : Int) := by omega
                          have if1 : 0 < f := by omega
                          have hfk := hfk.out if1
                          subst hfk
                          clear hf0
                          go_wp2_with (fail)
                          go_meet
                          exact ⟨rfl, rfl⟩
                      · have hcb2 : room < Wd := of_decide_eq_true hcb
                        by_cases hf0 : f = 0
                        · have if0 : ¬ (0 : Int) < (f : Int) := by omega
                          have if1 : ¬ 0 < f := by omega
                          have if3 : decide ((0 : Int) < (f : Int)) = false := by simp; omega
                          clear hf0
                          go_wp2_with (fail)
                          go_meet
                          exact ⟨rfl, rfl⟩
                        · have if0 : (0 : Int) < (f : Int) := by omega
                          have if1 : 0 < f := by omega
                          have hfk := hfk.out if1
                          subst hfk
                          clear hf0
                          go_wp2_with (fail)
                          go_meet
                          exact ⟨rfl, rfl⟩
                    · have hcb2 : ¬ room < Wd := by
                        rcases hfit.out with h | h
                        · have := h; omega
                        · obtain ⟨i, i1, i2, i3⟩ := HBR.out rfl; rw [h i i1 (by omega)] at i3; cases i3
                      have hcb : decide (room < Wd) = false := decide_eq_false hcb2
                      by_cases hf0 : f = 0
                      · have if0 : ¬ (0 : Int) < (f : Int) := by omega
                        have if1 : ¬ 0 < f := by omega
                        have if3 : decide ((0 : Int) < (f : Int)) = false := by simp; omega
                        clear hf0
                        go_wp2_with (fail)
                        go_meet
                        exact ⟨rfl, rfl⟩
                      · have if0 : (0 : Int) < (f : Int) := by omega
                        have if1 : 0 < f := by omega
                        have hfk := hfk.out if1
                        subst hfk
                        clear hf0
                        go_wp2_with (fail)
                        go_meet
                        exact ⟨rfl, rfl⟩
                  case rest =>
                    obtain ⟨rfl, rfl⟩ := hcut
                    -- the last line
                    have it2 : ¬ (t : Int) < (n : Int) := by omega
                    clear hnx
                    go_wp2
                    go_roundw
                    case rel => exact ⟨t + 1, t, by omega, by omega, by go_num, rfl, Lib.hid (fun h => by omega), below_dr hBa _⟩
                    case measure => simp [intOf]; omega
        · have htz : ¬ (t : Int) ≤ (n : Int) := by omega
          go_wp2
          go_ret
          exact ⟨rfl, below_next hB2 hBr⟩
  · have i200 : ¬ (n : Int) ≤ 200 := by omega
    have i201 : (200 : Int) < (n : Int) := by omega
    go_enter Try.func3, Try.ntmps3
    go_wp2_with (go_at_call 10; (with_reducible refine (cA _).mono ?_); rintro e w1 ⟨rfl, hb1⟩)
    go_ret
    exact ⟨rfl, hb1⟩
end lineRoom
end Go.Proofs.Ytgglffmfkhbcgaa
