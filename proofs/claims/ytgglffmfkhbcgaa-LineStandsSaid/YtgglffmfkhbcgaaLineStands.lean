/- Rows.LineStandsSaid: the law's walk. Conditions: none beyond the row's own. -/
import Derived.Test.YtgglffmfkhbcgaaLineI
import Derived.Test.YtgglffmfkhbcgaaLineQ
namespace Go.Proofs.Ytgglffmfkhbcgaa
open Go.ChangeShapes Go.WideShapes Go.ChangeAt Go.RowKit
namespace lineStands
/-- The end of the line ahead, behind so many pieces. -/
def EndOk (l : List Pc) (C : List (Nat × Nat)) (P : List Pl) (k : Nat) (en : Int) : Prop :=
  (k = 0 → en = 0) ∧ ∀ (m j : Nat) (X Y w h : Int), k = m + 1 → P[m]? = some ⟨m, j, X, Y, w, h⟩ → en = highs l C j
set_option maxHeartbeats 16000000 in
set_option maxRecDepth 100000 in
theorem walk (A : Option Addr) (n c : Nat) (l : List Pc) (room align : Int) (W : World) (hn : n ≤ 17592186043904) (hnc : n ≤ c) (hr : Reads W W.heap.size 6 A n (flatP l)) :
    Calls Try.prog 4 #[.slice A n c, .int .i64 room, .int .i64 align] W fun e W' => e = .returned (.bool true) ∧ Below W.heap.size W W' := by
  have HL := Lib.hid (len_P hr)
  have hB0 := Below.refl W.heap.size W
  have cA := fun w => lineAwake w
  by_cases h200 : n ≤ 200
  · have i200 : (n : Int) ≤ 200 := by omega
    have cF := fun w' (hb : Below W.heap.size W w') => rowsL.fill_any A n c l room align w' (hr.onward hb) h200 hnc
    cases he : fillE l room align
    · rw [he] at cF
      go_enter Try.func4, Try.ntmps4
      go_wp2_with (first
        | (go_at_call 10; (with_reducible refine (cA _).mono ?_); rintro e w1 ⟨rfl, hb1⟩)
        | (go_at_call 11; (with_reducible refine (cF _ (by with_reducible assumption)).mono ?_); rintro e w2 ⟨v, rfl, hp2, hb⟩
           have hB2 := below_next hb1 hb))
      go_ret
      exact ⟨rfl, hB2⟩
    · obtain ⟨hm, hro1, hro2, hPl, hH, hH0, hH1⟩ := fill_exact he
      have hC := lines_ok l room
      rw [he] at cF
      generalize fillP l room align = P at *
      generalize fillH l room align = H at *
      generalize linesP l room = C at *
      have HC := Lib.hid hC
      have HP := Lib.hid hPl
      have HM := Lib.hid hm
      have HH := Lib.hid hH
      have hpl := Lib.hid (hPl.len.trans HL.out)
      clear hC hPl hm hH he
      go_enter Try.func4, Try.ntmps4
      go_wp2_with (first
        | (go_at_call 10; (with_reducible refine (cA _).mono ?_); rintro e w1 ⟨rfl, hb1⟩)
        | (go_at_call 11; (with_reducible refine (cF _ (by with_reducible assumption)).mono ?_); rintro e w2 ⟨v, rfl, hp2, hb⟩
           have hB2 := below_next hb1 hb
           obtain ⟨A1, c1, rfl, hrP⟩ := pls_reads hp2 hpl.out
           have hr2 := hr.onward hB2
           clear hb hp2 hb1))
      clear cA cF
      go_loopw [31, 10] (fun i s wr => ∃ (k : Nat) (en : Int), k ≤ n ∧ i = .int .i64 k ∧ s = .int .i64 en ∧ Hid (EndOk l C P k en) ∧ Below w2.heap.size w2 wr) (fun i _ _ => n - (intOf i).toNat)
      case atStart => exact ⟨0, 0, Nat.zero_le _, rfl, rfl, Lib.hid ⟨fun _ => rfl, fun m j X Y w h e => by omega⟩, Below.refl _ _⟩
      case round =>
        obtain ⟨k, en, hk, rfl, rfl, HE, hBr⟩ := hrel
        have hrP1 := hrP.onward hBr
        have hrl1 := hr2.onward hBr
        by_cases hlt : k < n
        · obtain ⟨p, hp⟩ : ∃ p, l[k]? = some p := ⟨l[k]'(by rw [HL.out]; exact hlt), List.getElem?_eq_getElem _⟩
          obtain ⟨j, X, Y, d1, d2, d3, d4, d5, d6, d7, d8, d9, d10⟩ := stands HC.out HP.out hp
          obtain ⟨p1, p2, p3, p4, p5, p6⟩ := may_at HM.out hp
          obtain ⟨ad1, rfl, hab, e0, e1, e2, e3, e4, e5⟩ := pl_of hrP1 d1
          have HD := Lib.hid d1
          have hPk := Lib.hid hp
          have hrl2 := hrl1.alloc' (.cells #[.int .i64 (k : Int), .int .i64 (j : Int), .int .i64 X, .int .i64 Y, .int .i64 p.w, .int .i64 p.h] 30)
          have hrP2 := hrP1.alloc' (.cells #[.int .i64 (k : Int), .int .i64 (j : Int), .int .i64 X, .int .i64 Y, .int .i64 p.w, .int .i64 p.h] 30)
          obtain ⟨ad, rfl, hal, f0, f1, f2, f3, f4, f5⟩ := pc_of hrl2 hp
          have hBa := below_al hBr (.cells #[.int .i64 (k : Int), .int .i64 (j : Int), .int .i64 X, .int .i64 Y, .int .i64 p.w, .int .i64 p.h] 30)
          have dB := Lib.hid d7
          have dLast := Lib.hid d8
          have dEn := Lib.hid (show EndOk l C P (k + 1) (highs l C j) from ⟨fun e => by omega, fun m j' X' Y' w' h' e h => by
            obtain rfl : m = k := by omega
            rw [HD.out] at h
            simp only [Option.some.injEq, Pl.mk.injEq] at h
            have : j = j' := by omega
            rw [this]⟩)
          have ik : (k : Int) < (n : Int) := by omega
          have ik0 : (0 : Int) ≤ (k : Int) := Int.natCast_nonneg _
          have ij0 : (0 : Int) ≤ (j : Int) := Int.natCast_nonneg _
          have nx : ¬ X < 0 := by omega
          have ny : ¬ Y < 0 := by omega
          clear d1 hp d7 d8 hab hrP1 hrl1
          obtain ⟨pb, pw, ph, pg, pt, pk⟩ := p
          simp only at e0 e1 e2 e3 e4 e5 f0 f1 f2 f3 f4 f5 p1 p2 p3 p4 p5 p6 d3 dB HD hPk hrl2 hrP2 hBa
          by_cases hk0 : k = 0
          · have hen : en = 0 := HE.out.1 hk0
            subst hen
            have hj0 : j = 0 := d9 hk0
            have hh0 : highs l C j = 0 := by rw [hj0]; rfl
            have dk : ¬ (0 : Int) < (k : Int) := by omega
            have dk2 : ¬ 0 < k := by omega
            have dk3 : decide ((0 : Int) < (k : Int)) = false := by simpa using hk0
            have dk4 : decide (0 < k) = false := by simpa using hk0
            rw [hh0] at dEn
            clear hrP2 hrl2 d9 HE hk0 hj0
            go_wp2
            go_quiet (fail)
            go_wp2
            go_quiet (fail)
            go_wp2
            go_quiet (fail)
            by_cases hlast : k + 1 = n
            · have il : (k : Int) + 1 = (n : Int) := by omega
              have yH : Y + ph = H := by rw [HH.out, ← dLast.out (by rw [HL.out]; exact hlast)]; exact dB.out
              have wH : IntKind.i64.wrap (Y + ph) = H := by rw [IntKind.wrap_i64]; omega
              clear dLast dB
              go_wp2
              go_roundw
              case rel => exact ⟨k + 1, 0, by omega, by go_num, rfl, dEn, below_dr hBa _⟩
              case measure => simp [intOf]; omega
            · have il : ¬ (k : Int) + 1 = (n : Int) := by omega
              have il2 : ((k : Int) + 1 == (n : Int)) = false := by simpa using il
              clear dLast dB
              go_wp2
              go_roundw
              case rel => exact ⟨k + 1, 0, by omega, by go_num, rfl, dEn, below_dr hBa _⟩
              case measure => simp [intOf]; omega
          · obtain ⟨m, hkm⟩ : ∃ m, k = m + 1 := ⟨k - 1, by omega⟩
            obtain ⟨q, hq⟩ : ∃ q, l[m]? = some q := ⟨l[m]'(by rw [HL.out]; omega), List.getElem?_eq_getElem _⟩
            obtain ⟨j', X', Y', g1, g2, g3, g4, g5, g6, g7, -, -, g10⟩ := stands HC.out HP.out hq
            obtain ⟨q1, q2, q3, q4, q5, q6⟩ := may_at HM.out hq
            have hnext := stands_next HC.out HP.out (j := j) (X := X) (Y := Y) hq (by rw [← hkm]; exact hPk.out) g1 (by rw [← hkm]; exact HD.out)
            simp only at hnext
            have hen : en = highs l C j' := HE.out.2 m j' X' Y' q.w q.h hkm g1
            obtain ⟨ad', hd, hal1, a0, a1, a2, a3, a4, a5⟩ := pl_of hrP2 g1
            injection hd with hd
            subst hd
            have i1 : IntKind.i64.wrap ((k : Int) - 1) = (m : Int) := by rw [IntKind.wrap_i64]; omega
            have i2 : (0 : Int) ≤ (m : Int) := Int.natCast_nonneg _
            have i3 : (m : Int) < (n : Int) := by omega
            have hm1 : m < n := by omega
            have dk : (0 : Int) < (k : Int) := by omega
            have dk2 : 0 < k := by omega
            clear HE hk0 g1 d9 hq
            obtain ⟨qb, qw, qh, qg, qt, qk⟩ := q
            simp only at a0 a1 a2 a3 a4 a5 q1 q2 q3 q4 q5 q6 g3 g7 hnext
            rcases hnext with ⟨rfl, hX, hY⟩ | ⟨hjj, -⟩
            · have b3 : ∀ q : Nat, (((wr.alloc (.cells #[.int .i64 (k : Int), .int .i64 (j : Int), .int .i64 X, .int .i64 Y, .int .i64 pw, .int .i64 ph] 30)).drewN q).alloc (.cells #[.int .i64 X', .int .i64 Y', .int .i64 qw, .int .i64 qh] 28)).cell? ⟨(ad.add (k * 6)).block, (ad.add (k * 6)).off + 3, none⟩ = some (.int .i64 pg) := fun q => (World.cell?_alloc_lt _ _ _ (by rw [block_of_add]; exact hal)).trans f3
              have b1 : ∀ q : Nat, (((wr.alloc (.cells #[.int .i64 (k : Int), .int .i64 (j : Int), .int .i64 X, .int .i64 Y, .int .i64 pw, .int .i64 ph] 30)).drewN q).alloc (.cells #[.int .i64 X', .int .i64 Y', .int .i64 qw, .int .i64 qh] 28)).cell? ⟨(ad1.add (m * 6)).block, (ad1.add (m * 6)).off + 1, none⟩ = some (.int .i64 j) := fun q => (World.cell?_alloc_lt _ _ _ (by rw [block_of_add]; exact hal1)).trans a1
              have w1 : IntKind.i64.wrap (X' + qw) = X' + qw := by rw [IntKind.wrap_i64]; omega
              have w2 : IntKind.i64.wrap (X' + qw + pg) = X := by rw [IntKind.wrap_i64]; omega
              obtain ⟨YB, hYB⟩ : ∃ YB, YB = Y + ph := ⟨_, rfl⟩
              have w3 : IntKind.i64.wrap (Y + ph) = YB := by rw [IntKind.wrap_i64]; omega
              have w4 : IntKind.i64.wrap (Y' + qh) = YB := by rw [IntKind.wrap_i64]; omega
              have nen : ¬ Y < en := by omega
              have HYB := Lib.hid (show YB = highs l C (j + 1) by rw [hYB]; exact dB.out)
              have dEn2 : Hid (EndOk l C P (k + 1) en) := Lib.hid (by rw [hen]; exact dEn.out)
              clear dEn hrP2 hrl2 hX hY hYB hen g7 dB hkm
              go_wp2
              go_quiet (fail)
              go_wp2
              go_quiet (fail)
              go_wp2
              go_quiet (fail)
              go_wp2
              go_quiet (fail)
              by_cases hlast : k + 1 = n
              · have il : (k : Int) + 1 = (n : Int) := by omega
                obtain rfl : YB = H := by rw [HH.out, ← dLast.out (by rw [HL.out]; exact hlast)]; exact HYB.out
                clear dLast HYB
                go_wp2
                go_roundw
                case rel => exact ⟨k + 1, en, by omega, by go_num, rfl, dEn2, below_dr (below_al (below_dr hBa _) _) _⟩
                case measure => simp [intOf]; omega
              · have il : ¬ (k : Int) + 1 = (n : Int) := by omega
                have il2 : ((k : Int) + 1 == (n : Int)) = false := by simpa using il
                clear dLast HYB
                go_wp2
                go_roundw
                case rel => exact ⟨k + 1, en, by omega, by go_num, rfl, dEn2, below_dr (below_al (below_dr hBa _) _) _⟩
                case measure => simp [intOf]; omega
            · have hjn : ((j' : Int) == (j : Int)) = false := by simp; omega
              have hjn2 : ((j' : Int) != (j : Int)) = true := by simp; omega
              obtain ⟨YE, hYE⟩ : ∃ YE, YE = Y' + qh := ⟨_, rfl⟩
              have w4 : IntKind.i64.wrap (Y' + qh) = YE := by rw [IntKind.wrap_i64]; omega
              have hYE2 : YE = highs l C j := by rw [hYE, g7, hjj]
              have nen : ¬ Y < YE := by omega
              have dEn2 : Hid (EndOk l C P (k + 1) YE) := Lib.hid (by rw [hYE2]; exact dEn.out)
              clear dEn hrP2 hrl2 hYE hYE2 hen g7 hkm hjj
              go_wp2
              go_quiet (fail)
              go_wp2
              go_quiet (fail)
              go_wp2
              go_quiet (fail)
              go_wp2
              go_quiet (fail)
              by_cases hlast : k + 1 = n
              · have il : (k : Int) + 1 = (n : Int) := by omega
                have yH : Y + ph = H := by rw [HH.out, ← dLast.out (by rw [HL.out]; exact hlast)]; exact dB.out
                have wH : IntKind.i64.wrap (Y + ph) = H := by rw [IntKind.wrap_i64]; omega
                clear dLast dB
                go_wp2
                go_roundw
                case rel => exact ⟨k + 1, YE, by omega, by go_num, rfl, dEn2, below_dr hBa _⟩
                case measure => simp [intOf]; omega
              · have il : ¬ (k : Int) + 1 = (n : Int) := by omega
                have il2 : ((k : Int) + 1 == (n : Int)) = false := by simpa using il
                clear dLast dB
                go_wp2
                go_roundw
                case rel => exact ⟨k + 1, YE, by omega, by go_num, rfl, dEn2, below_dr hBa _⟩
                case measure => simp [intOf]; omega
        · obtain rfl : k = n := by omega
          have hfin : k = 0 → H = 0 := fun e => by
            have hcl : C = [] := by
              cases hCC : C with
              | nil => rfl
              | cons x r =>
                obtain ⟨a, b⟩ := x
                have h0 : C[0]? = some (a, b) := by rw [hCC]; rfl
                have h1 := (HC.out.chain 0 a b h0).1
                have h2 := (HC.out.chain 0 a b h0).2.1
                rw [HL.out] at h2
                omega
            rw [HH.out, hcl]; rfl
          by_cases hk0 : k = 0
          · have hH := hfin hk0
            subst hH
            have dk : ¬ (0 : Int) < (k : Int) := by omega
            have dk2 : ¬ 0 < k := by omega
            have dk3 : decide ((0 : Int) < (k : Int)) = false := by simpa using hk0
            have dk4 : decide (0 < k) = false := by simpa using hk0
            clear hfin hk0
            go_wp2
            go_ret
            exact ⟨by simp, below_next hB2 hBr⟩
          · have dk : (0 : Int) < (k : Int) := by omega
            have dk2 : 0 < k := by omega
            clear hfin hk0
            go_wp2
            go_ret
            exact ⟨by simp, below_next hB2 hBr⟩
  · have i200 : ¬ (n : Int) ≤ 200 := by omega
    have i201 : (200 : Int) < (n : Int) := by omega
    go_enter Try.func4, Try.ntmps4
    go_wp2_with (go_at_call 10; (with_reducible refine (cA _).mono ?_); rintro e w1 ⟨rfl, hb1⟩)
    go_ret
    exact ⟨rfl, hb1⟩
end lineStands
end Go.Proofs.Ytgglffmfkhbcgaa
