/- The reference's letter, NameAt, blanks, Lower, has and Name of layer 4. Conditions: as the theorems' premises say. -/
import Derived.Test.YthacboofbbfmlaaGreatDoorTokA
import Derived.Test.YthacboofbbfmlaaGreatDoorRx7Lower
import Derived.Test.YthacboofbbfmlaaGreatDoorTokMath2
import Derived.LoopN
namespace Go.Proofs.YthacboofbbfmlaaGreatDoor
open Go.ChangeShapes Go.WideShapes Go.ChangeAt Go.RowKit
namespace Rt
open Tok
theorem letter_any (c : UInt8) (w : World) : Calls Tryz.prog 71 #[.int .u8 (c.toNat : Int)] w fun e w' => e = .returned (.bool (isL c)) ∧ w = w' := by
  rw [isL_nat]
  have h1 := u8_lt c
  have h0 : (0 : Int) ≤ (c.toNat : Int) := Int.natCast_nonneg _
  generalize (c.toNat : Int) = x at *
  go_enter Tryz.func71, Tryz.ntmps71
  go_wp2
  all_goals
    go_ret
    simp_all <;> omega
theorem isN_cut (c : UInt8) : isN c = ((decide (48 ≤ (c.toNat : Int)) && decide ((c.toNat : Int) ≤ 57)) || ((c.toNat : Int) == 45)) := isN_nat c
theorem inNm_cut (k : Nat) (c : UInt8) (a b d e : Bool) (hL : isL c = a) (h1 : decide (48 ≤ (c.toNat : Int)) = b) (h2 : decide ((c.toNat : Int) ≤ 57) = d) (h3 : ((c.toNat : Int) == 45) = e) : inNm k c = (a || (decide (0 < k) && ((b && d) || e))) := by
  unfold inNm
  rw [isN_nat, hL, h1, h2, h3]
set_option maxRecDepth 100000 in
set_option maxHeartbeats 16000000 in
theorem nameAt_any (l : List UInt8) (o : Nat) (hl : l.length ≤ 140737488351232) (ho : o ≤ 140737488351240) (w : World) :
    Calls Tryz.prog 55 #[.string (toB l), .int .i64 o] w fun e w' => e = .returned (.int .i64 ((if 20 < nm (l.drop o) then 0 else nm (l.drop o) : Nat) : Int)) ∧ w = w' := by
  have hsz : (toB l).size = l.length := toB_size l
  have hat : ∀ (k : Nat) (h : k < (toB l).size) (h2 : k < l.length), (toB l)[k]'h = l[k]'h2 := fun k h h2 => rfl
  have HAT := Lib.hid hat
  clear hat
  generalize toB l = s at *
  have hdl : (l.drop o).length = l.length - o := List.length_drop
  obtain ⟨D, hD⟩ : ∃ D, D = l.drop o := ⟨_, rfl⟩
  rw [← hD] at hdl ⊢
  obtain ⟨R, hR⟩ : ∃ R : Nat, R = if 20 < nm D then 0 else nm D := ⟨_, rfl⟩
  rw [← hR]
  have HRR := Lib.hid hR
  clear hR
  have HD := Lib.hid hD
  have HDL := Lib.hid hdl
  clear hD hdl
  go_enter Tryz.func55, Tryz.ntmps55
  go_wp2
  go_loop [5] (fun i => ∃ k : Nat, k ≤ D.length ∧ i = .int .i64 k ∧ Hid (∀ (j : Nat) (hj : j < k), inNm j (D[j]?.getD 0) = true)) (fun i => D.length - (intOf i).toNat)
  case atStart => exact ⟨0, Nat.zero_le _, rfl, fun j hj => absurd hj (Nat.not_lt_zero _)⟩
  case round =>
    obtain ⟨k, hk, rfl, HK⟩ := hrel
    obtain ⟨p, hp⟩ : ∃ p, p = o + k := ⟨_, rfl⟩
    have hop : (o : Int) + (k : Int) = (p : Int) := by omega
    have hp5 : p ≤ 281474976702480 := by have := HDL.out; omega
    have k0 : (0 : Int) ≤ (k : Int) := Int.natCast_nonneg _
    have p0 : (0 : Int) ≤ (p : Int) := Int.natCast_nonneg _
    by_cases hlt : k < D.length
    · have hpl : p < l.length := by have := HDL.out; omega
      have hps : p < s.size := by rw [hsz]; exact hpl
      have hgs := HAT.out p hps hpl
      obtain ⟨c, hce⟩ : ∃ c : UInt8, l[p] = c := ⟨_, rfl⟩
      rw [hce] at hgs
      have hDk : D[k]? = some c := by rw [HD.out, List.getElem?_drop, ← hp, List.getElem?_eq_getElem hpl, hce]
      have hgc : D[k]?.getD 0 = c := by rw [hDk]; rfl
      have hDk2 : D[k] = c := by rw [List.getElem?_eq_getElem hlt] at hDk; exact Option.some.inj hDk
      have c1 := fun w => letter_any c w
      have k1 : (p : Int) < (l.length : Int) := by omega
      have HN : Hid (inNm k c = true → ∀ (j : Nat) (hj : j < k + 1), inNm j (D[j]?.getD 0) = true) := by
        intro hin j hj
        by_cases e : j = k
        · subst e; rw [hgc]; exact hin
        · exact HK.out j (by omega)
      have HE : Hid (inNm k c = false → k = nm D) := by
        intro hin
        refine nm_uniq D k hk (fun j hj => ?_) (fun _ => by rw [hDk2]; exact hin)
        have := HK.out j hj
        rwa [List.getElem?_eq_getElem (by omega)] at this
      clear hgc hce hDk hDk2 hp
      have hcut := @inNm_cut k c
      have hx := u8_lt c
      have hx0 : (0 : Int) ≤ (c.toNat : Int) := Int.natCast_nonneg _
      have HCUT := Lib.hid hcut
      clear hcut
      cases hL : isL c with
      | true =>
        rw [hL] at c1
        have hin : inNm k c = true := by unfold inNm; rw [hL]; rfl
        have HR := Lib.hid (HN.out hin)
        clear HE HN HK hin HCUT
        go_wp2_with (go_at_call 71; (with_reducible refine (c1 _).mono ?_); rintro e w' ⟨rfl, rfl⟩)
        go_round
        case rel => exact ⟨k + 1, by omega, by go_num, HR⟩
        case measure => simp [intOf]; omega
      | false =>
        rw [hL] at c1
        by_cases hz : k = 0
        · have hin : inNm k c = false := by unfold inNm; rw [hL, decide_eq_false (by omega)]; rfl
          have HR := Lib.hid (HE.out hin)
          have kp : decide ((0 : Int) < (k : Int)) = false := decide_eq_false (by omega)
          have kp2 : decide (0 < k) = false := decide_eq_false (by omega)
          have kp3 : decide ((20 : Int) < (k : Int)) = false := decide_eq_false (by omega)
          have kp4 : decide (20 < k) = false := decide_eq_false (by omega)
          have HZ := Lib.hid hz
          clear HE HN HK hin hz HCUT
          go_wp2_with (go_at_call 71; (with_reducible refine (c1 _).mono ?_); rintro e w' ⟨rfl, rfl⟩)
          go_ret
          exact ⟨ret_int (by rw [HRR.out, ← HR.out, if_neg (by have := HZ.out; omega)]), rfl⟩
        · have kp : (0 : Int) < (k : Int) := by omega
          have kp2 : 0 < k := by omega
          have hin := HCUT.out false _ _ _ hL rfl rfl rfl
          rw [decide_eq_true kp2] at hin
          clear HCUT hz
          generalize hb : decide (48 ≤ (c.toNat : Int)) = b at *
          generalize hd : decide ((c.toNat : Int) ≤ 57) = d at *
          generalize he : ((c.toNat : Int) == 45) = e at *
          cases b <;> cases d <;> cases e
          all_goals
            first
            | (have HR := Lib.hid (HN.out hin)
               clear HE HN HK hin
               go_wp2_with (go_at_call 71; (with_reducible refine (c1 _).mono ?_); rintro e w' ⟨rfl, rfl⟩)
               go_round
               case rel => exact ⟨k + 1, by omega, by go_num, HR⟩
               case measure => simp [intOf]; omega)
            | (have HR := Lib.hid (HE.out hin)
               clear HE HN HK hin
               by_cases h20 : 20 < k
               · have h20' : (20 : Int) < (k : Int) := by omega
                 go_wp2_with (go_at_call 71; (with_reducible refine (c1 _).mono ?_); rintro e w' ⟨rfl, rfl⟩)
                 go_ret
                 exact ⟨ret_int (by rw [HRR.out, ← HR.out, if_pos h20]; rfl), rfl⟩
               · have h20' : decide ((20 : Int) < (k : Int)) = false := decide_eq_false (by omega)
                 have h20'' : decide (20 < k) = false := decide_eq_false h20
                 go_wp2_with (go_at_call 71; (with_reducible refine (c1 _).mono ?_); rintro e w' ⟨rfl, rfl⟩)
                 go_ret
                 exact ⟨ret_int (by rw [HRR.out, ← HR.out, if_neg h20]), rfl⟩)
    · obtain rfl : k = D.length := by omega
      have HR : Hid (D.length = nm D) := by
        refine nm_uniq D _ (Nat.le_refl _) (fun j hj => ?_) (fun h => absurd h (by omega))
        have := HK.out j hj
        rwa [List.getElem?_eq_getElem hj] at this
      have hge : l.length ≤ p ∨ D.length = 0 := by have := HDL.out; omega
      have k1 : decide ((p : Int) < (l.length : Int)) = false := decide_eq_false (by have := HDL.out; omega)
      have k2 : decide (p < l.length) = false := decide_eq_false (by have := HDL.out; omega)
      clear HK hge hp
      by_cases h20 : 20 < D.length
      · have h20' : (20 : Int) < (D.length : Int) := by omega
        go_wp2
        go_ret
        exact ⟨ret_int (by rw [HRR.out, ← HR.out, if_pos h20]; rfl), rfl⟩
      · have h20' : decide ((20 : Int) < (D.length : Int)) = false := decide_eq_false (by omega)
        have h20'' : decide (20 < D.length) = false := decide_eq_false h20
        go_wp2
        go_ret
        exact ⟨ret_int (by rw [HRR.out, ← HR.out, if_neg h20]), rfl⟩
theorem blank_cut (c : UInt8) (a b d e : Bool) (h0 : ((c.toNat : Int) == 32) = a) (h1 : ((c.toNat : Int) == 9) = b) (h2 : ((c.toNat : Int) == 10) = d) (h3 : ((c.toNat : Int) == 13) = e) : isBlank c = (a || b || d || e) := by
  rw [isBlank_nat, h0, h1, h2, h3]
end Rt
end Go.Proofs.YthacboofbbfmlaaGreatDoor
/- The reference's Lower, Name and has. Conditions: as the theorems' premises say. -/
namespace Go.Proofs.YthacboofbbfmlaaGreatDoor
open Go.ChangeShapes Go.WideShapes Go.ChangeAt Go.RowKit
namespace Rt
open Tok
set_option maxHeartbeats 4000000 in
theorem lowerB_any (s : ByteArray) (w : World) (hs : s.size ≤ mostB) :
    Calls Tryz.prog 56 #[.string s] w fun e w' => e = .returned (.string (onB lowL s)) ∧ Below w.heap.size w w' := by
  unfold mostB at hs
  obtain ⟨R, hR⟩ : ∃ R, onB lowL s = R := ⟨_, rfl⟩
  rw [hR]
  have HR := Lib.hid hR
  clear hR
  have hB0 := below_al (Below.refl w.heap.size w) (.cells #[] 5)
  have hY0 := Bys.nil w w.heap.size (Nat.le_refl _)
  go_enter Tryz.func56, Tryz.ntmps56
  go_wp2
  go_loopw [3, 4] (fun v i wr => ∃ k : Nat, k ≤ s.size ∧ i = .int .i64 k ∧ Bys wr w.heap.size v (lowL (s.data.toList.take k)) ∧ Below w.heap.size w wr) (fun _ i _ => s.size - (intOf i).toNat)
  case atStart => exact ⟨0, Nat.zero_le _, rfl, hY0, hB0⟩
  case round =>
    obtain ⟨k, hk, rfl, hY, hB⟩ := hrel
    clear hB0 hY0
    by_cases hlt : k < s.size
    · have HT : Hid (lowL (s.data.toList.take (k + 1)) = lowL (s.data.toList.take k) ++ [lowC s[k]]) := by
        show lowL (s.data.toList.take (k + 1)) = _
        rw [take_byte s k hlt]
        unfold lowL
        rw [List.map_append]; rfl
      have hlen : (lowL (s.data.toList.take k)).length < 70000000000000 := by
        rw [low_len]
        have := List.length_take_le k s.data.toList
        omega
      have hle := hB.size
      have u1 : (s[k].toNat : Int) < 256 := by have := s[k].toNat_lt; omega
      by_cases h1 : 65 ≤ (s[k].toNat : Int) ∧ (s[k].toNat : Int) ≤ 90
      · obtain ⟨h1, h2⟩ := h1
        have HV := Lib.hid (lowC_yes h1 h2)
        go_wp2_with (at_builtin; refine wpList_pushU wr rfl (.tmp 24) (.tmp 26) rfl w.heap.size _ _ (lowC s[k]) _ HV _ rfl hY rfl hlen hle ?_; intro v' w' hY' hg
                     have hB' := below_pushU hB hY hg
                     clear hg)
        rw [← HT.out] at hY'
        go_roundw
        case rel => exact ⟨k + 1, by omega, by go_num, hY', hB'⟩
        case measure => simp [intOf]; omega
      · have h1' : (s[k].toNat : Int) < 65 ∨ 90 < (s[k].toNat : Int) := by omega
        have HV := Lib.hid (lowC_no h1')
        clear h1
        rcases h1' with h1 | h1
        · have d1 : decide (65 ≤ (s[k].toNat : Int)) = false := decide_eq_false (by omega)
          clear h1
          go_wp2_with (at_builtin; refine wpList_pushU wr rfl (.tmp 24) (.tmp 26) rfl w.heap.size _ _ (lowC s[k]) _ HV _ rfl hY rfl hlen hle ?_; intro v' w' hY' hg
                       have hB' := below_pushU hB hY hg
                       clear hg)
          rw [← HT.out] at hY'
          go_roundw
          case rel => exact ⟨k + 1, by omega, by go_num, hY', hB'⟩
          case measure => simp [intOf]; omega
        · have h2 : 65 ≤ (s[k].toNat : Int) := by omega
          have d1 : decide ((s[k].toNat : Int) ≤ 90) = false := decide_eq_false (by omega)
          clear h1
          go_wp2_with (at_builtin; refine wpList_pushU wr rfl (.tmp 24) (.tmp 26) rfl w.heap.size _ _ (lowC s[k]) _ HV _ rfl hY rfl hlen hle ?_; intro v' w' hY' hg
                       have hB' := below_pushU hB hY hg
                       clear hg)
          rw [← HT.out] at hY'
          go_roundw
          case rel => exact ⟨k + 1, by omega, by go_num, hY', hB'⟩
          case measure => simp [intOf]; omega
    · have htk : s.data.toList.take k = s.data.toList := List.take_of_length_le (by rw [size_list]; omega)
      rw [htk] at hY
      have hcv := bys_text hY
      have HE : Hid ((⟨(lowL s.data.toList).toArray⟩ : ByteArray) = R) := HR.out
      generalize (⟨(lowL s.data.toList).toArray⟩ : ByteArray) = r at hcv HE
      go_wp2
      go_ret
      obtain rfl := HE.out
      exact ⟨rfl, hB⟩
theorem lower_any (l : List UInt8) (hl : l.length ≤ 1000000) (w : World) : Calls Tryz.prog 56 #[.string (toB l)] w fun e w' => e = .returned (.string (toB (lowL l))) ∧ Below w.heap.size w w' :=
  lowerB_any (toB l) w (by rw [toB_size]; exact hl)
theorem extract_list (s : ByteArray) (i j : Nat) : (s.extract i j).data.toList = (s.data.toList.take j).drop i := by
  rw [ByteArray.data_extract]
  simp [Array.toList_extract, List.extract_eq_take_drop, List.drop_take]
theorem ext_toB (l : List UInt8) (o n : Nat) : (toB l).extract o (o + n) = toB ((l.drop o).take n) := by
  refine bytes_inj ?_
  rw [extract_list]
  show (l.take (o + n)).drop o = (l.drop o).take n
  rw [List.take_drop]
theorem toB_toL0 (l : List UInt8) : (toB l).toList = l := by rw [ByteArray.toList_eq]; rfl
theorem has_yes {l t : List UInt8} {o : Nat} : (((toB l).extract o (o + t.length)).toList == (toB t).toList) = true → t.isPrefixOf (l.drop o) = true := by
  intro h
  rw [ext_toB, toB_toL0, toB_toL0] at h
  have h := LawfulBEq.eq_of_beq h
  rw [List.isPrefixOf_iff_prefix]
  rw [← h]
  exact List.take_prefix _ _
theorem has_no {l t : List UInt8} {o : Nat} : t.isPrefixOf (l.drop o) = true → (((toB l).extract o (o + t.length)).toList == (toB t).toList) = true := by
  intro h
  rw [ext_toB, toB_toL0, toB_toL0]
  have h := List.isPrefixOf_iff_prefix.1 h
  rw [List.prefix_iff_eq_take] at h
  rw [← h]
  exact beq_self_eq_true _
theorem has_len {l t : List UInt8} {o : Nat} (h : t.isPrefixOf (l.drop o) = true) (ht : 0 < t.length) : o + t.length ≤ l.length := by
  have := (List.isPrefixOf_iff_prefix.1 h).length_le
  rw [List.length_drop] at this
  omega
end Rt
end Go.Proofs.YthacboofbbfmlaaGreatDoor
/- The reference's Name and Sign. Conditions: texts up to 5000 bytes. -/
namespace Go.Proofs.YthacboofbbfmlaaGreatDoor
open Go.ChangeShapes Go.WideShapes Go.ChangeAt Go.RowKit
namespace Rt
open Tok
set_option maxRecDepth 100000 in
set_option maxHeartbeats 4000000 in
theorem name_any (l : List UInt8) (hl : l.length ≤ 140737488351232) (w : World) : Calls Tryz.prog 33 #[.string (toB l)] w fun e w' => e = .returned (.bool (nameB l)) ∧ Below w.heap.size w w' := by
  have hsz : (toB l).size = l.length := toB_size l
  have cn : ∀ w, Calls Tryz.prog 55 #[.string (toB l), .int .i64 0] w fun e w' => e = .returned (.int .i64 ((if 20 < nm l then 0 else nm l : Nat) : Int)) ∧ w = w' := fun w => nameAt_any l 0 hl (by omega) w
  have hdef := nameB_def l
  obtain ⟨N, hN⟩ : ∃ N : Nat, N = if 20 < nm l then 0 else nm l := ⟨_, rfl⟩
  have hN20 : N ≤ 20 := by rw [hN]; split <;> omega
  rw [← hN] at cn
  by_cases h0 : l.length = 0
  · have hB : nameB l = false := by
      cases e : nameB l with
      | false => rfl
      | true => have := hdef.1 e; omega
    rw [hB]
    have d0 : decide ((0 : Int) < (l.length : Int)) = false := decide_eq_false (by omega)
    have d1 : decide (0 < l.length) = false := decide_eq_false (by omega)
    generalize toB l = s at *
    clear hN hdef hB h0
    go_enter Tryz.func33, Tryz.ntmps33
    go_wp2
    go_ret
    exact ⟨rfl, Below.refl _ _⟩
  · have d0 : (0 : Int) < (l.length : Int) := by omega
    have d1 : 0 < l.length := by omega
    by_cases hNl : N = l.length
    · have hlow : (((toB (lowL l)).toList == (toB l).toList)) = nameB l := by
        rw [toB_toL0, toB_toL0, Bool.eq_iff_iff, hdef, beq_iff_eq]
        have hle := nm_le l
        split at hN
        · omega
        · exact ⟨fun h => ⟨by omega, by omega, by omega, h⟩, fun h => h.2.2.2⟩
      have hNb : ((N : Int) == (l.length : Int)) = true := by rw [beq_iff_eq]; omega
      have cl := fun w => lower_any l (by omega) w
      generalize nameB l = R at *
      generalize toB (lowL l) = lo at *
      generalize toB l = s at *
      clear hN hdef h0 hNl
      go_enter Tryz.func33, Tryz.ntmps33
      go_wp2_with (first
        | (go_at_call 55; (with_reducible refine (cn _).mono ?_); rintro e w1 ⟨rfl, rfl⟩)
        | (go_at_call 56; (with_reducible refine (cl _).mono ?_); rintro e w2 ⟨rfl, hb2⟩))
      all_goals
        go_ret
        exact ⟨by simp_all, by assumption⟩
    · have hB : nameB l = false := by
        cases e : nameB l with
        | false => rfl
        | true =>
          have := hdef.1 e
          rw [if_neg (by omega)] at hN
          omega
      rw [hB]
      have hNb : ((N : Int) == (l.length : Int)) = false := by rw [beq_eq_false_iff_ne]; omega
      generalize toB l = s at *
      clear hN hdef h0 hNl hB
      go_enter Tryz.func33, Tryz.ntmps33
      go_wp2_with (first
        | (go_at_call 55; (with_reducible refine (cn _).mono ?_); rintro e w1 ⟨rfl, rfl⟩))
      go_ret
      exact ⟨rfl, Below.refl _ _⟩
end Rt
end Go.Proofs.YthacboofbbfmlaaGreatDoor
