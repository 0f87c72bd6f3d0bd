/- The reference's letter, NameAt and blanks. Conditions: the texts are no longer than 5000 bytes. -/
import Derived.Test.YteopighhhcikcaaGreatDoorTokA
namespace Go.Proofs.YteopighhhcikcaaGreatDoor
open Go.ChangeShapes Go.WideShapes Go.ChangeAt Go.RowKit
namespace Rt
open Tok
theorem letter_any (c : UInt8) (w : World) : Calls Tryz.prog 93 #[.int .u8 (c.toNat : Int)] w fun e w' => e = .returned (.bool (isL c)) ∧ w = w' := by
  rw [isL_nat]
  have h1 := u8_lt c
  have h0 : (0 : Int) ≤ (c.toNat : Int) := Int.natCast_nonneg _
  generalize (c.toNat : Int) = x at *
  go_enter Tryz.func93, Tryz.ntmps93
  go_wp2
  all_goals
    go_ret
    simp_all <;> omega
theorem isN_cut (c : UInt8) : isN c = ((decide (48 ≤ (c.toNat : Int)) && decide ((c.toNat : Int) ≤ 57)) || ((c.toNat : Int) == 45)) := isN_nat c
theorem inNm_cut (k : Nat) (c : UInt8) (a b d e : Bool) (hL : isL c = a) (h1 : decide (48 ≤ (c.toNat : Int)) = b) (h2 : decide ((c.toNat : Int) ≤ 57) = d) (h3 : ((c.toNat : Int) == 45) = e) : inNm k c = (a || (decide (0 < k) && ((b && d) || e))) := by
  unfold inNm
  rw [isN_nat, hL, h1, h2, h3]
set_option maxRecDepth 100000 in
set_option maxHeartbeats 16000000 in
theorem nameAt_any (l : List UInt8) (o : Nat) (hl : l.length ≤ 5000) (ho : o ≤ 5002) (w : World) :
    Calls Tryz.prog 58 #[.string (toB l), .int .i64 o] w fun e w' => e = .returned (.int .i64 ((if 20 < nm (l.drop o) then 0 else nm (l.drop o) : Nat) : Int)) ∧ w = w' := by
  have hsz : (toB l).size = l.length := toB_size l
  have hat : ∀ (k : Nat) (h : k < (toB l).size) (h2 : k < l.length), (toB l)[k]'h = l[k]'h2 := fun k h h2 => rfl
  have HAT := Lib.hid hat
  clear hat
  generalize toB l = s at *
  have hdl : (l.drop o).length = l.length - o := List.length_drop
  obtain ⟨D, hD⟩ : ∃ D, D = l.drop o := ⟨_, rfl⟩
  rw [← hD] at hdl ⊢
  obtain ⟨R, hR⟩ : ∃ R : Nat, R = if 20 < nm D then 0 else nm D := ⟨_, rfl⟩
  rw [← hR]
  have HRR := Lib.hid hR
  clear hR
  have HD := Lib.hid hD
  have HDL := Lib.hid hdl
  clear hD hdl
  go_enter Tryz.func58, Tryz.ntmps58
  go_wp2
  go_loop [5] (fun i => ∃ k : Nat, k ≤ D.length ∧ i = .int .i64 k ∧ Hid (∀ (j : Nat) (hj : j < k), inNm j (D[j]?.getD 0) = true)) (fun i => D.length - (intOf i).toNat)
  case atStart => exact ⟨0, Nat.zero_le _, rfl, fun j hj => absurd hj (Nat.not_lt_zero _)⟩
  case round =>
    obtain ⟨k, hk, rfl, HK⟩ := hrel
    obtain ⟨p, hp⟩ : ∃ p, p = o + k := ⟨_, rfl⟩
    have hop : (o : Int) + (k : Int) = (p : Int) := by omega
    have hp5 : p ≤ 10002 := by have := HDL.out; omega
    have k0 : (0 : Int) ≤ (k : Int) := Int.natCast_nonneg _
    have p0 : (0 : Int) ≤ (p : Int) := Int.natCast_nonneg _
    by_cases hlt : k < D.length
    · have hpl : p < l.length := by have := HDL.out; omega
      have hps : p < s.size := by rw [hsz]; exact hpl
      have hgs := HAT.out p hps hpl
      obtain ⟨c, hce⟩ : ∃ c : UInt8, l[p] = c := ⟨_, rfl⟩
      rw [hce] at hgs
      have hDk : D[k]? = some c := by rw [HD.out, List.getElem?_drop, ← hp, List.getElem?_eq_getElem hpl, hce]
      have hgc : D[k]?.getD 0 = c := by rw [hDk]; rfl
      have hDk2 : D[k] = c := by rw [List.getElem?_eq_getElem hlt] at hDk; exact Option.some.inj hDk
      have c1 := fun w => letter_any c w
      have k1 : (p : Int) < (l.length : Int) := by omega
      have HN : Hid (inNm k c = true → ∀ (j : Nat) (hj : j < k + 1), inNm j (D[j]?.getD 0) = true) := by
        intro hin j hj
        by_cases e : j = k
        · subst e; rw [hgc]; exact hin
        · exact HK.out j (by omega)
      have HE : Hid (inNm k c = false → k = nm D) := by
        intro hin
        refine nm_uniq D k hk (fun j hj => ?_) (fun _ => by rw [hDk2]; exact hin)
        have := HK.out j hj
        rwa [List.getElem?_eq_getElem (by omega)] at this
      clear hgc hce hDk hDk2 hp
      have hcut := @inNm_cut k c
      have hx := u8_lt c
      have hx0 : (0 : Int) ≤ (c.toNat : Int) := Int.natCast_nonneg _
      have HCUT := Lib.hid hcut
      clear hcut
      cases hL : isL c with
      | true =>
        rw [hL] at c1
        have hin : inNm k c = true := by unfold inNm; rw [hL]; rfl
        have HR := Lib.hid (HN.out hin)
        clear HE HN HK hin HCUT
        go_wp2_with (go_at_call 93; (with_reducible refine (c1 _).mono ?_); rintro e w' ⟨rfl, rfl⟩)
        go_round
        case rel => exact ⟨k + 1, by omega, by go_num, HR⟩
        case measure => simp [intOf]; omega
      | false =>
        rw [hL] at c1
        by_cases hz : k = 0
        · have hin : inNm k c = false := by unfold inNm; rw [hL, decide_eq_false (by omega)]; rfl
          have HR := Lib.hid (HE.out hin)
          have kp : decide ((0 : Int) < (k : Int)) = false := decide_eq_false (by omega)
          have kp2 : decide (0 < k) = false := decide_eq_false (by omega)
          have kp3 : decide ((20 : Int) < (k : Int)) = false := decide_eq_false (by omega)
          have kp4 : decide (20 < k) = false := decide_eq_false (by omega)
          have HZ := Lib.hid hz
          clear HE HN HK hin hz HCUT
          go_wp2_with (go_at_call 93; (with_reducible refine (c1 _).mono ?_); rintro e w' ⟨rfl, rfl⟩)
          go_ret
          exact ⟨ret_int (by rw [HRR.out, ← HR.out, if_neg (by have := HZ.out; omega)]), rfl⟩
        · have kp : (0 : Int) < (k : Int) := by omega
          have kp2 : 0 < k := by omega
          have hin := HCUT.out false _ _ _ hL rfl rfl rfl
          rw [decide_eq_true kp2] at hin
          clear HCUT hz
          generalize hb : decide (48 ≤ (c.toNat : Int)) = b at *
          generalize hd : decide ((c.toNat : Int) ≤ 57) = d at *
          generalize he : ((c.toNat : Int) == 45) = e at *
          cases b <;> cases d <;> cases e
          all_goals
            first
            | (have HR := Lib.hid (HN.out hin)
               clear HE HN HK hin
               go_wp2_with (go_at_call 93; (with_reducible refine (c1 _).mono ?_); rintro e w' ⟨rfl, rfl⟩)
               go_round
               case rel => exact ⟨k + 1, by omega, by go_num, HR⟩
               case measure => simp [intOf]; omega)
            | (have HR := Lib.hid (HE.out hin)
               clear HE HN HK hin
               by_cases h20 : 20 < k
               · have h20' : (20 : Int) < (k : Int) := by omega
                 go_wp2_with (go_at_call 93; (with_reducible refine (c1 _).mono ?_); rintro e w' ⟨rfl, rfl⟩)
                 go_ret
                 exact ⟨ret_int (by rw [HRR.out, ← HR.out, if_pos h20]; rfl), rfl⟩
               · have h20' : decide ((20 : Int) < (k : Int)) = false := decide_eq_false (by omega)
                 have h20'' : decide (20 < k) = false := decide_eq_false h20
                 go_wp2_with (go_at_call 93; (with_reducible refine (c1 _).mono ?_); rintro e w' ⟨rfl, rfl⟩)
                 go_ret
                 exact ⟨ret_int (by rw [HRR.out, ← HR.out, if_neg h20]), rfl⟩)
    · obtain rfl : k = D.length := by omega
      have HR : Hid (D.length = nm D) := by
        refine nm_uniq D _ (Nat.le_refl _) (fun j hj => ?_) (fun h => absurd h (by omega))
        have := HK.out j hj
        rwa [List.getElem?_eq_getElem hj] at this
      have hge : l.length ≤ p ∨ D.length = 0 := by have := HDL.out; omega
      have k1 : decide ((p : Int) < (l.length : Int)) = false := decide_eq_false (by have := HDL.out; omega)
      have k2 : decide (p < l.length) = false := decide_eq_false (by have := HDL.out; omega)
      clear HK hge hp
      by_cases h20 : 20 < D.length
      · have h20' : (20 : Int) < (D.length : Int) := by omega
        go_wp2
        go_ret
        exact ⟨ret_int (by rw [HRR.out, ← HR.out, if_pos h20]; rfl), rfl⟩
      · have h20' : decide ((20 : Int) < (D.length : Int)) = false := decide_eq_false (by omega)
        have h20'' : decide (20 < D.length) = false := decide_eq_false h20
        go_wp2
        go_ret
        exact ⟨ret_int (by rw [HRR.out, ← HR.out, if_neg h20]), rfl⟩
theorem blank_cut (c : UInt8) (a b d e : Bool) (h0 : ((c.toNat : Int) == 32) = a) (h1 : ((c.toNat : Int) == 9) = b) (h2 : ((c.toNat : Int) == 10) = d) (h3 : ((c.toNat : Int) == 13) = e) : isBlank c = (a || b || d || e) := by
  rw [isBlank_nat, h0, h1, h2, h3]
set_option maxRecDepth 100000 in
set_option maxHeartbeats 16000000 in
theorem blanks_any (l : List UInt8) (o : Nat) (hl : l.length ≤ 5000) (ho : o ≤ 5002) (w : World) :
    Calls Tryz.prog 90 #[.string (toB l), .int .i64 o] w fun e w' => e = .returned (.int .i64 (bl (l.drop o) : Nat)) ∧ w = w' := by
  have hsz : (toB l).size = l.length := toB_size l
  have hat : ∀ (k : Nat) (h : k < (toB l).size) (h2 : k < l.length), (toB l)[k]'h = l[k]'h2 := fun k h h2 => rfl
  have HAT := Lib.hid hat
  clear hat
  generalize toB l = s at *
  have hdl : (l.drop o).length = l.length - o := List.length_drop
  obtain ⟨D, hD⟩ : ∃ D, D = l.drop o := ⟨_, rfl⟩
  rw [← hD] at hdl ⊢
  have HD := Lib.hid hD
  have HDL := Lib.hid hdl
  clear hD hdl
  go_enter Tryz.func90, Tryz.ntmps90
  go_wp2
  go_loop [5] (fun i => ∃ k : Nat, k ≤ D.length ∧ i = .int .i64 k ∧ Hid (∀ (j : Nat) (hj : j < k), isBlank (D[j]?.getD 0) = true)) (fun i => D.length - (intOf i).toNat)
  case atStart => exact ⟨0, Nat.zero_le _, rfl, fun j hj => absurd hj (Nat.not_lt_zero _)⟩
  case round =>
    obtain ⟨k, hk, rfl, HK⟩ := hrel
    obtain ⟨p, hp⟩ : ∃ p, p = o + k := ⟨_, rfl⟩
    have hop : (o : Int) + (k : Int) = (p : Int) := by omega
    have hp5 : p ≤ 10002 := by have := HDL.out; omega
    have k0 : (0 : Int) ≤ (k : Int) := Int.natCast_nonneg _
    have p0 : (0 : Int) ≤ (p : Int) := Int.natCast_nonneg _
    by_cases hlt : k < D.length
    · have hpl : p < l.length := by have := HDL.out; omega
      have hps : p < s.size := by rw [hsz]; exact hpl
      have hgs := HAT.out p hps hpl
      obtain ⟨c, hce⟩ : ∃ c : UInt8, l[p] = c := ⟨_, rfl⟩
      rw [hce] at hgs
      have hDk : D[k]? = some c := by rw [HD.out, List.getElem?_drop, ← hp, List.getElem?_eq_getElem hpl, hce]
      have hgc : D[k]?.getD 0 = c := by rw [hDk]; rfl
      have hDk2 : D[k] = c := by rw [List.getElem?_eq_getElem hlt] at hDk; exact Option.some.inj hDk
      have k1 : (p : Int) < (l.length : Int) := by omega
      have HN : Hid (isBlank c = true → ∀ (j : Nat) (hj : j < k + 1), isBlank (D[j]?.getD 0) = true) := by
        intro hin j hj
        by_cases e : j = k
        · subst e; rw [hgc]; exact hin
        · exact HK.out j (by omega)
      have HE : Hid (isBlank c = false → k = bl D) := by
        intro hin
        refine bl_uniq D k hk (fun j hj => ?_) (fun _ => by rw [hDk2]; exact hin)
        have := HK.out j hj
        rwa [List.getElem?_eq_getElem (by omega)] at this
      clear hgc hce hDk hDk2 hp
      have HCUT := Lib.hid (blank_cut c)
      have hx := u8_lt c
      have hx0 : (0 : Int) ≤ (c.toNat : Int) := Int.natCast_nonneg _
      have hin := HCUT.out _ _ _ _ rfl rfl rfl rfl
      clear HCUT
      generalize ha : ((c.toNat : Int) == 32) = a at *
      generalize hb : ((c.toNat : Int) == 9) = b at *
      generalize hd : ((c.toNat : Int) == 10) = d at *
      generalize he : ((c.toNat : Int) == 13) = e at *
      cases a <;> cases b <;> cases d <;> cases e
      all_goals
        first
        | (have HR := Lib.hid (HN.out hin)
           clear HE HN HK hin
           go_wp2
           go_round
           case rel => exact ⟨k + 1, by omega, by go_num, HR⟩
           case measure => simp [intOf]; omega)
        | (have HR := Lib.hid (HE.out hin)
           clear HE HN HK hin
           go_wp2
           go_ret
           exact ⟨ret_int (by rw [← HR.out]), rfl⟩)
    · obtain rfl : k = D.length := by omega
      have HR : Hid (D.length = bl D) := by
        refine bl_uniq D _ (Nat.le_refl _) (fun j hj => ?_) (fun h => absurd h (by omega))
        have := HK.out j hj
        rwa [List.getElem?_eq_getElem hj] at this
      have k1 : decide ((p : Int) < (l.length : Int)) = false := decide_eq_false (by have := HDL.out; omega)
      have k2 : decide (p < l.length) = false := decide_eq_false (by have := HDL.out; omega)
      clear HK hp
      go_wp2
      go_ret
      exact ⟨ret_int (by rw [← HR.out]), rfl⟩
end Rt
end Go.Proofs.YteopighhhcikcaaGreatDoor
