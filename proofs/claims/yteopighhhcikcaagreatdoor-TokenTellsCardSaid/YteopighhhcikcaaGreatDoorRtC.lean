/- The reference's Name and Sign. Conditions: texts up to 5000 bytes. -/
import Derived.Test.YteopighhhcikcaaGreatDoorRtB
import Derived.Test.YteopighhhcikcaaGreatDoorTokMath2
namespace Go.Proofs.YteopighhhcikcaaGreatDoor
open Go.ChangeShapes Go.WideShapes Go.ChangeAt Go.RowKit
namespace Rt
open Tok
set_option maxRecDepth 100000 in
set_option maxHeartbeats 4000000 in
theorem name_any (l : List UInt8) (hl : l.length ≤ 5000) (w : World) : Calls Tryz.prog 21 #[.string (toB l)] w fun e w' => e = .returned (.bool (nameB l)) ∧ Below w.heap.size w w' := by
  have hsz : (toB l).size = l.length := toB_size l
  have cn : ∀ w, Calls Tryz.prog 58 #[.string (toB l), .int .i64 0] w fun e w' => e = .returned (.int .i64 ((if 20 < nm l then 0 else nm l : Nat) : Int)) ∧ w = w' := fun w => nameAt_any l 0 hl (by omega) w
  have cl := fun w => lower_any l (by omega) w
  have hdef := nameB_def l
  obtain ⟨N, hN⟩ : ∃ N : Nat, N = if 20 < nm l then 0 else nm l := ⟨_, rfl⟩
  rw [← hN] at cn
  by_cases h0 : l.length = 0
  · have hB : nameB l = false := by
      cases e : nameB l with
      | false => rfl
      | true => have := hdef.1 e; omega
    rw [hB]
    have d0 : decide ((0 : Int) < (l.length : Int)) = false := decide_eq_false (by omega)
    have d1 : decide (0 < l.length) = false := decide_eq_false (by omega)
    generalize toB l = s at *
    clear hN hdef hB h0
    go_enter Tryz.func21, Tryz.ntmps21
    go_wp2
    go_ret
    exact ⟨rfl, Below.refl _ _⟩
  · have d0 : (0 : Int) < (l.length : Int) := by omega
    have d1 : 0 < l.length := by omega
    by_cases hNl : N = l.length
    · have hlow : (((toB (lowL l)).toList == (toB l).toList)) = nameB l := by
        rw [toB_toList, toB_toList, Bool.eq_iff_iff, hdef, beq_iff_eq]
        have hle := nm_le l
        split at hN
        · omega
        · exact ⟨fun h => ⟨by omega, by omega, by omega, h⟩, fun h => h.2.2.2⟩
      have hNb : ((N : Int) == (l.length : Int)) = true := by rw [beq_iff_eq]; omega
      generalize nameB l = R at *
      generalize toB (lowL l) = lo at *
      generalize toB l = s at *
      clear hN hdef h0 hNl
      go_enter Tryz.func21, Tryz.ntmps21
      go_wp2_with (first
        | (go_at_call 58; (with_reducible refine (cn _).mono ?_); rintro e w1 ⟨rfl, rfl⟩)
        | (go_at_call 59; (with_reducible refine (cl _).mono ?_); rintro e w2 ⟨rfl, hb2⟩))
      all_goals
        go_ret
        exact ⟨by simp_all, by assumption⟩
    · have hB : nameB l = false := by
        cases e : nameB l with
        | false => rfl
        | true =>
          have := hdef.1 e
          rw [if_neg (by omega)] at hN
          omega
      rw [hB]
      have hNb : ((N : Int) == (l.length : Int)) = false := by rw [beq_eq_false_iff_ne]; omega
      generalize toB (lowL l) = lo at *
      generalize toB l = s at *
      clear hN hdef h0 hNl hB
      go_enter Tryz.func21, Tryz.ntmps21
      go_wp2_with (first
        | (go_at_call 58; (with_reducible refine (cn _).mono ?_); rintro e w1 ⟨rfl, rfl⟩)
        | (go_at_call 59; (with_reducible refine (cl _).mono ?_); rintro e w2 ⟨rfl, hb2⟩))
      go_ret
      exact ⟨rfl, Below.refl _ _⟩
theorem sgC_nat (q : Bool) (c : UInt8) : sgC q c = if ((c.toNat : Int) == 38) = true then [38, 97, 109, 112, 59] else if ((c.toNat : Int) == 60) = true then [38, 108, 116, 59] else if ((c.toNat : Int) == 62) = true then [38, 103, 116, 59] else if (((c.toNat : Int) == 34) && q) = true then [38, 113, 117, 111, 116, 59] else [c] := by
  have e := fun (a : UInt8) => (⟨fun e => by rw [e], fun e => UInt8.toNat_inj.1 e⟩ : c = a ↔ c.toNat = a.toNat)
  have e1 : c = 38 ↔ ((c.toNat : Int) == 38) = true := by rw [e, beq_iff_eq, show (38 : UInt8).toNat = 38 from rfl]; omega
  have e2 : c = 60 ↔ ((c.toNat : Int) == 60) = true := by rw [e, beq_iff_eq, show (60 : UInt8).toNat = 60 from rfl]; omega
  have e3 : c = 62 ↔ ((c.toNat : Int) == 62) = true := by rw [e, beq_iff_eq, show (62 : UInt8).toNat = 62 from rfl]; omega
  have e4 : (c = 34 ∧ q = true) ↔ (((c.toNat : Int) == 34) && q) = true := by rw [e, Bool.and_eq_true, beq_iff_eq, show (34 : UInt8).toNat = 34 from rfl]; exact ⟨fun h => ⟨by omega, h.2⟩, fun h => ⟨by omega, h.2⟩⟩
  unfold sgC
  simp only [e1, e2, e3, e4]
theorem sign_snoc (q : Bool) (l : List UInt8) (k : Nat) (h : k < l.length) : signL q (l.take (k + 1)) = signL q (l.take k) ++ sgC q l[k] := by
  rw [List.take_succ_eq_append_getElem h, signL_app]
  show _ ++ (sgC q l[k] ++ []) = _
  rw [List.append_nil]
theorem ext_one (l : List UInt8) (k : Nat) (h : k < l.length) : (toB l).extract k (k + 1) = toB [l[k]] := by
  rw [ext_toB]
  congr 1
  rw [List.drop_eq_getElem_cons h]; rfl
set_option maxRecDepth 100000 in
set_option maxHeartbeats 8000000 in
theorem sign_any (l : List UInt8) (q : Bool) (hl : l.length ≤ 5000) (w : World) : Calls Tryz.prog 25 #[.string (toB l), .bool q] w fun e w' => e = .returned (.string (toB (signL q l))) ∧ w = w' := by
  have hsz : (toB l).size = l.length := toB_size l
  have hat : ∀ (k : Nat) (h : k < (toB l).size) (h2 : k < l.length), (toB l)[k]'h = l[k]'h2 := fun k h h2 => rfl
  have hext := ext_one l
  have HAT := Lib.hid hat
  have HEXT := Lib.hid hext
  clear hat hext
  generalize toB l = s at *
  go_enter Tryz.func25, Tryz.ntmps25
  go_wp2
  go_loop [5, 6] (fun ov i => ∃ (k : Nat) (O : ByteArray), k ≤ l.length ∧ i = .int .i64 k ∧ ov = .string O ∧ O.size ≤ 30000 ∧ Hid (O = toB (signL q (l.take k)))) (fun _ i => l.length - (intOf i).toNat)
  case atStart => exact ⟨0, ⟨#[]⟩, Nat.zero_le _, rfl, rfl, by decide, rfl⟩
  case round =>
    obtain ⟨k, O, hk, rfl, rfl, hO, HO⟩ := hrel
    by_cases hlt : k < l.length
    · obtain ⟨p, hp⟩ : ∃ p, p = k + 1 := ⟨_, rfl⟩
      have hks : k < s.size := by rw [hsz]; exact hlt
      have hgs := HAT.out k hks hlt
      have hex := HEXT.out k hlt
      have hsn := sign_snoc q l k hlt
      obtain ⟨c, hce⟩ : ∃ c : UInt8, l[k] = c := ⟨_, rfl⟩
      rw [hce] at hgs hex hsn
      have hcut := sgC_nat q c
      have hx := u8_lt c
      rw [← hp] at hsn hex
      have hlen := signL_len q (l.take p)
      have hmk : (l.take p).length ≤ 5000 := by rw [List.length_take]; omega
      have hnext : ∀ t : ByteArray, t = toB (sgC q c) → (O ++ t).size ≤ 30000 ∧ Hid (O ++ t = toB (signL q (l.take p))) := by
        intro t ht
        have e : O ++ t = toB (signL q (l.take p)) := by rw [HO.out, ht, toB_cat, ← hsn]
        exact ⟨by rw [e, toB_size]; omega, e⟩
      have HNX := Lib.hid hnext
      have HEX := Lib.hid hex
      have HC := Lib.hid hcut
      have hop : (k : Int) + 1 = (p : Int) := by omega
      have p1 : (k : Int) ≤ (p : Int) := by omega
      have p2 : k < p := by omega
      have p3 : p ≤ l.length := by omega
      have p4 : (p : Int) ≤ (l.length : Int) := by omega
      have p5 : k ≤ p := by omega
      clear hnext hex hcut hlen hmk hsn hce hp
      have k0 : (0 : Int) ≤ (k : Int) := Int.natCast_nonneg _
      have k1 : (k : Int) < (l.length : Int) := by omega
      cases h1 : ((c.toNat : Int) == 38) with
      | true =>
        have HR : Hid (sgC q c = [38, 97, 109, 112, 59]) := by have := HC.out; rw [h1] at this; exact this
        clear HC
        go_wp2
        go_round
        case rel => exact ⟨p, _, by omega, by go_num, rfl, (HNX.out _ (by rw [HR.out]; rfl)).1, (HNX.out _ (by rw [HR.out]; rfl)).2⟩
        case measure => simp [intOf]; omega
      | false =>
        cases h2 : ((c.toNat : Int) == 60) with
        | true =>
          have HR : Hid (sgC q c = [38, 108, 116, 59]) := by have := HC.out; rw [h1, h2] at this; exact this
          clear HC
          go_wp2
          go_round
          case rel => exact ⟨p, _, by omega, by go_num, rfl, (HNX.out _ (by rw [HR.out]; rfl)).1, (HNX.out _ (by rw [HR.out]; rfl)).2⟩
          case measure => simp [intOf]; omega
        | false =>
          cases h3 : ((c.toNat : Int) == 62) with
          | true =>
            have HR : Hid (sgC q c = [38, 103, 116, 59]) := by have := HC.out; rw [h1, h2, h3] at this; exact this
            clear HC
            go_wp2
            go_round
            case rel => exact ⟨p, _, by omega, by go_num, rfl, (HNX.out _ (by rw [HR.out]; rfl)).1, (HNX.out _ (by rw [HR.out]; rfl)).2⟩
            case measure => simp [intOf]; omega
          | false =>
            cases h4 : ((c.toNat : Int) == 34) <;> cases hq : q
            case true.true =>
              have HR : Hid (sgC q c = [38, 113, 117, 111, 116, 59]) := by have := HC.out; rw [h1, h2, h3, h4, hq] at this; rw [hq]; exact this
              clear HC
              subst hq
              go_wp2
              go_round
              case rel => exact ⟨p, _, by omega, by go_num, rfl, (HNX.out _ (by rw [HR.out]; rfl)).1, (HNX.out _ (by rw [HR.out]; rfl)).2⟩
              case measure => simp [intOf]; omega
            all_goals
              have HR : Hid (sgC q c = [c]) := by have := HC.out; rw [h1, h2, h3, h4, hq] at this; rw [hq]; exact this
              clear HC
              subst hq
              obtain ⟨tc, htc⟩ : ∃ tc, tc = toB [c] := ⟨_, rfl⟩
              have hex := HEX.out
              rw [← htc] at hex
              have htz : tc.size = 1 := by rw [htc, toB_size]; rfl
              have HT := Lib.hid htc
              clear htc
              go_wp2
              go_round
              case rel => exact ⟨p, _, by omega, by go_num, rfl, (HNX.out _ (by rw [HR.out]; exact HT.out)).1, (HNX.out _ (by rw [HR.out]; exact HT.out)).2⟩
              case measure => simp [intOf]; omega
    · obtain rfl : k = l.length := by omega
      have htk : l.take l.length = l := List.take_length
      rw [htk] at HO
      clear htk
      go_wp2
      go_ret
      exact ⟨by rw [HO.out]; rfl, rfl⟩
end Rt
end Go.Proofs.YteopighhhcikcaaGreatDoor
