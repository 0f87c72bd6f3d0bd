/- The mathematics of the reference's opening: one round of its loop over attributes against the plain reading. Conditions: none. -/
import Derived.Test.YteopighhhcikcaaGreatDoorTokA
import Derived.Test.YteopighhhcikcaaGreatDoorRx7Lower
import Derived.Test.YteopighhhcikcaaGreatDoorTokE
import Derived.Test.YteopighhhcikcaaGreatDoorTokMath2
import Derived.Test.YteopighhhcikcaaGreatDoorRepH
import Derived.LoopN
import Derived.Test.YteopighhhcikcaaGreatDoorTokJ
/- The reference's letter, NameAt and blanks. Conditions: the texts are no longer than 5000 bytes. -/
namespace Go.Proofs.YteopighhhcikcaaGreatDoor
open Go.ChangeShapes Go.WideShapes Go.ChangeAt Go.RowKit
namespace Rt
open Tok
theorem letter_any (c : UInt8) (w : World) : Calls Tryz.prog 93 #[.int .u8 (c.toNat : Int)] w fun e w' => e = .returned (.bool (isL c)) ∧ w = w' := by
  rw [isL_nat]
  have h1 := u8_lt c
  have h0 : (0 : Int) ≤ (c.toNat : Int) := Int.natCast_nonneg _
  generalize (c.toNat : Int) = x at *
  go_enter Tryz.func93, Tryz.ntmps93
  go_wp2
  all_goals
    go_ret
    simp_all <;> omega
theorem isN_cut (c : UInt8) : isN c = ((decide (48 ≤ (c.toNat : Int)) && decide ((c.toNat : Int) ≤ 57)) || ((c.toNat : Int) == 45)) := isN_nat c
theorem inNm_cut (k : Nat) (c : UInt8) (a b d e : Bool) (hL : isL c = a) (h1 : decide (48 ≤ (c.toNat : Int)) = b) (h2 : decide ((c.toNat : Int) ≤ 57) = d) (h3 : ((c.toNat : Int) == 45) = e) : inNm k c = (a || (decide (0 < k) && ((b && d) || e))) := by
  unfold inNm
  rw [isN_nat, hL, h1, h2, h3]
set_option maxRecDepth 100000 in
set_option maxHeartbeats 16000000 in
theorem nameAt_any (l : List UInt8) (o : Nat) (hl : l.length ≤ 140737488351232) (ho : o ≤ 140737488351240) (w : World) :
    Calls Tryz.prog 58 #[.string (toB l), .int .i64 o] w fun e w' => e = .returned (.int .i64 ((if 20 < nm (l.drop o) then 0 else nm (l.drop o) : Nat) : Int)) ∧ w = w' := by
  have hsz : (toB l).size = l.length := toB_size l
  have hat : ∀ (k : Nat) (h : k < (toB l).size) (h2 : k < l.length), (toB l)[k]'h = l[k]'h2 := fun k h h2 => rfl
  have HAT := Lib.hid hat
  clear hat
  generalize toB l = s at *
  have hdl : (l.drop o).length = l.length - o := List.length_drop
  obtain ⟨D, hD⟩ : ∃ D, D = l.drop o := ⟨_, rfl⟩
  rw [← hD] at hdl ⊢
  obtain ⟨R, hR⟩ : ∃ R : Nat, R = if 20 < nm D then 0 else nm D := ⟨_, rfl⟩
  rw [← hR]
  have HRR := Lib.hid hR
  clear hR
  have HD := Lib.hid hD
  have HDL := Lib.hid hdl
  clear hD hdl
  go_enter Tryz.func58, Tryz.ntmps58
  go_wp2
  go_loop [5] (fun i => ∃ k : Nat, k ≤ D.length ∧ i = .int .i64 k ∧ Hid (∀ (j : Nat) (hj : j < k), inNm j (D[j]?.getD 0) = true)) (fun i => D.length - (intOf i).toNat)
  case atStart => exact ⟨0, Nat.zero_le _, rfl, fun j hj => absurd hj (Nat.not_lt_zero _)⟩
  case round =>
    obtain ⟨k, hk, rfl, HK⟩ := hrel
    obtain ⟨p, hp⟩ : ∃ p, p = o + k := ⟨_, rfl⟩
    have hop : (o : Int) + (k : Int) = (p : Int) := by omega
    have hp5 : p ≤ 281474976702480 := by have := HDL.out; omega
    have k0 : (0 : Int) ≤ (k : Int) := Int.natCast_nonneg _
    have p0 : (0 : Int) ≤ (p : Int) := Int.natCast_nonneg _
    by_cases hlt : k < D.length
    · have hpl : p < l.length := by have := HDL.out; omega
      have hps : p < s.size := by rw [hsz]; exact hpl
      have hgs := HAT.out p hps hpl
      obtain ⟨c, hce⟩ : ∃ c : UInt8, l[p] = c := ⟨_, rfl⟩
      rw [hce] at hgs
      have hDk : D[k]? = some c := by rw [HD.out, List.getElem?_drop, ← hp, List.getElem?_eq_getElem hpl, hce]
      have hgc : D[k]?.getD 0 = c := by rw [hDk]; rfl
      have hDk2 : D[k] = c := by rw [List.getElem?_eq_getElem hlt] at hDk; exact Option.some.inj hDk
      have c1 := fun w => letter_any c w
      have k1 : (p : Int) < (l.length : Int) := by omega
      have HN : Hid (inNm k c = true → ∀ (j : Nat) (hj : j < k + 1), inNm j (D[j]?.getD 0) = true) := by
        intro hin j hj
        by_cases e : j = k
        · subst e; rw [hgc]; exact hin
        · exact HK.out j (by omega)
      have HE : Hid (inNm k c = false → k = nm D) := by
        intro hin
        refine nm_uniq D k hk (fun j hj => ?_) (fun _ => by rw [hDk2]; exact hin)
        have := HK.out j hj
        rwa [List.getElem?_eq_getElem (by omega)] at this
      clear hgc hce hDk hDk2 hp
      have hcut := @inNm_cut k c
      have hx := u8_lt c
      have hx0 : (0 : Int) ≤ (c.toNat : Int) := Int.natCast_nonneg _
      have HCUT := Lib.hid hcut
      clear hcut
      cases hL : isL c with
      | true =>
        rw [hL] at c1
        have hin : inNm k c = true := by unfold inNm; rw [hL]; rfl
        have HR := Lib.hid (HN.out hin)
        clear HE HN HK hin HCUT
        go_wp2_with (go_at_call 93; (with_reducible refine (c1 _).mono ?_); rintro e w' ⟨rfl, rfl⟩)
        go_round
        case rel => exact ⟨k + 1, by omega, by go_num, HR⟩
        case measure => simp [intOf]; omega
      | false =>
        rw [hL] at c1
        by_cases hz : k = 0
        · have hin : inNm k c = false := by unfold inNm; rw [hL, decide_eq_false (by omega)]; rfl
          have HR := Lib.hid (HE.out hin)
          have kp : decide ((0 : Int) < (k : Int)) = false := decide_eq_false (by omega)
          have kp2 : decide (0 < k) = false := decide_eq_false (by omega)
          have kp3 : decide ((20 : Int) < (k : Int)) = false := decide_eq_false (by omega)
          have kp4 : decide (20 < k) = false := decide_eq_false (by omega)
          have HZ := Lib.hid hz
          clear HE HN HK hin hz HCUT
          go_wp2_with (go_at_call 93; (with_reducible refine (c1 _).mono ?_); rintro e w' ⟨rfl, rfl⟩)
          go_ret
          exact ⟨ret_int (by rw [HRR.out, ← HR.out, if_neg (by have := HZ.out; omega)]), rfl⟩
        · have kp : (0 : Int) < (k : Int) := by omega
          have kp2 : 0 < k := by omega
          have hin := HCUT.out false _ _ _ hL rfl rfl rfl
          rw [decide_eq_true kp2] at hin
          clear HCUT hz
          generalize hb : decide (48 ≤ (c.toNat : Int)) = b at *
          generalize hd : decide ((c.toNat : Int) ≤ 57) = d at *
          generalize he : ((c.toNat : Int) == 45) = e at *
          cases b <;> cases d <;> cases e
          all_goals
            first
            | (have HR := Lib.hid (HN.out hin)
               clear HE HN HK hin
               go_wp2_with (go_at_call 93; (with_reducible refine (c1 _).mono ?_); rintro e w' ⟨rfl, rfl⟩)
               go_round
               case rel => exact ⟨k + 1, by omega, by go_num, HR⟩
               case measure => simp [intOf]; omega)
            | (have HR := Lib.hid (HE.out hin)
               clear HE HN HK hin
               by_cases h20 : 20 < k
               · have h20' : (20 : Int) < (k : Int) := by omega
                 go_wp2_with (go_at_call 93; (with_reducible refine (c1 _).mono ?_); rintro e w' ⟨rfl, rfl⟩)
                 go_ret
                 exact ⟨ret_int (by rw [HRR.out, ← HR.out, if_pos h20]; rfl), rfl⟩
               · have h20' : decide ((20 : Int) < (k : Int)) = false := decide_eq_false (by omega)
                 have h20'' : decide (20 < k) = false := decide_eq_false h20
                 go_wp2_with (go_at_call 93; (with_reducible refine (c1 _).mono ?_); rintro e w' ⟨rfl, rfl⟩)
                 go_ret
                 exact ⟨ret_int (by rw [HRR.out, ← HR.out, if_neg h20]), rfl⟩)
    · obtain rfl : k = D.length := by omega
      have HR : Hid (D.length = nm D) := by
        refine nm_uniq D _ (Nat.le_refl _) (fun j hj => ?_) (fun h => absurd h (by omega))
        have := HK.out j hj
        rwa [List.getElem?_eq_getElem hj] at this
      have hge : l.length ≤ p ∨ D.length = 0 := by have := HDL.out; omega
      have k1 : decide ((p : Int) < (l.length : Int)) = false := decide_eq_false (by have := HDL.out; omega)
      have k2 : decide (p < l.length) = false := decide_eq_false (by have := HDL.out; omega)
      clear HK hge hp
      by_cases h20 : 20 < D.length
      · have h20' : (20 : Int) < (D.length : Int) := by omega
        go_wp2
        go_ret
        exact ⟨ret_int (by rw [HRR.out, ← HR.out, if_pos h20]; rfl), rfl⟩
      · have h20' : decide ((20 : Int) < (D.length : Int)) = false := decide_eq_false (by omega)
        have h20'' : decide (20 < D.length) = false := decide_eq_false h20
        go_wp2
        go_ret
        exact ⟨ret_int (by rw [HRR.out, ← HR.out, if_neg h20]), rfl⟩
theorem blank_cut (c : UInt8) (a b d e : Bool) (h0 : ((c.toNat : Int) == 32) = a) (h1 : ((c.toNat : Int) == 9) = b) (h2 : ((c.toNat : Int) == 10) = d) (h3 : ((c.toNat : Int) == 13) = e) : isBlank c = (a || b || d || e) := by
  rw [isBlank_nat, h0, h1, h2, h3]
set_option maxRecDepth 100000 in
set_option maxHeartbeats 16000000 in
theorem blanks_any (l : List UInt8) (o : Nat) (hl : l.length ≤ 5000) (ho : o ≤ 5002) (w : World) :
    Calls Tryz.prog 90 #[.string (toB l), .int .i64 o] w fun e w' => e = .returned (.int .i64 (bl (l.drop o) : Nat)) ∧ w = w' := by
  have hsz : (toB l).size = l.length := toB_size l
  have hat : ∀ (k : Nat) (h : k < (toB l).size) (h2 : k < l.length), (toB l)[k]'h = l[k]'h2 := fun k h h2 => rfl
  have HAT := Lib.hid hat
  clear hat
  generalize toB l = s at *
  have hdl : (l.drop o).length = l.length - o := List.length_drop
  obtain ⟨D, hD⟩ : ∃ D, D = l.drop o := ⟨_, rfl⟩
  rw [← hD] at hdl ⊢
  have HD := Lib.hid hD
  have HDL := Lib.hid hdl
  clear hD hdl
  go_enter Tryz.func90, Tryz.ntmps90
  go_wp2
  go_loop [5] (fun i => ∃ k : Nat, k ≤ D.length ∧ i = .int .i64 k ∧ Hid (∀ (j : Nat) (hj : j < k), isBlank (D[j]?.getD 0) = true)) (fun i => D.length - (intOf i).toNat)
  case atStart => exact ⟨0, Nat.zero_le _, rfl, fun j hj => absurd hj (Nat.not_lt_zero _)⟩
  case round =>
    obtain ⟨k, hk, rfl, HK⟩ := hrel
    obtain ⟨p, hp⟩ : ∃ p, p = o + k := ⟨_, rfl⟩
    have hop : (o : Int) + (k : Int) = (p : Int) := by omega
    have hp5 : p ≤ 281474976702480 := by have := HDL.out; omega
    have k0 : (0 : Int) ≤ (k : Int) := Int.natCast_nonneg _
    have p0 : (0 : Int) ≤ (p : Int) := Int.natCast_nonneg _
    by_cases hlt : k < D.length
    · have hpl : p < l.length := by have := HDL.out; omega
      have hps : p < s.size := by rw [hsz]; exact hpl
      have hgs := HAT.out p hps hpl
      obtain ⟨c, hce⟩ : ∃ c : UInt8, l[p] = c := ⟨_, rfl⟩
      rw [hce] at hgs
      have hDk : D[k]? = some c := by rw [HD.out, List.getElem?_drop, ← hp, List.getElem?_eq_getElem hpl, hce]
      have hgc : D[k]?.getD 0 = c := by rw [hDk]; rfl
      have hDk2 : D[k] = c := by rw [List.getElem?_eq_getElem hlt] at hDk; exact Option.some.inj hDk
      have k1 : (p : Int) < (l.length : Int) := by omega
      have HN : Hid (isBlank c = true → ∀ (j : Nat) (hj : j < k + 1), isBlank (D[j]?.getD 0) = true) := by
        intro hin j hj
        by_cases e : j = k
        · subst e; rw [hgc]; exact hin
        · exact HK.out j (by omega)
      have HE : Hid (isBlank c = false → k = bl D) := by
        intro hin
        refine bl_uniq D k hk (fun j hj => ?_) (fun _ => by rw [hDk2]; exact hin)
        have := HK.out j hj
        rwa [List.getElem?_eq_getElem (by omega)] at this
      clear hgc hce hDk hDk2 hp
      have HCUT := Lib.hid (blank_cut c)
      have hx := u8_lt c
      have hx0 : (0 : Int) ≤ (c.toNat : Int) := Int.natCast_nonneg _
      have hin := HCUT.out _ _ _ _ rfl rfl rfl rfl
      clear HCUT
      generalize ha : ((c.toNat : Int) == 32) = a at *
      generalize hb : ((c.toNat : Int) == 9) = b at *
      generalize hd : ((c.toNat : Int) == 10) = d at *
      generalize he : ((c.toNat : Int) == 13) = e at *
      cases a <;> cases b <;> cases d <;> cases e
      all_goals
        first
        | (have HR := Lib.hid (HN.out hin)
           clear HE HN HK hin
           go_wp2
           go_round
           case rel => exact ⟨k + 1, by omega, by go_num, HR⟩
           case measure => simp [intOf]; omega)
        | (have HR := Lib.hid (HE.out hin)
           clear HE HN HK hin
           go_wp2
           go_ret
           exact ⟨ret_int (by rw [← HR.out]), rfl⟩)
    · obtain rfl : k = D.length := by omega
      have HR : Hid (D.length = bl D) := by
        refine bl_uniq D _ (Nat.le_refl _) (fun j hj => ?_) (fun h => absurd h (by omega))
        have := HK.out j hj
        rwa [List.getElem?_eq_getElem hj] at this
      have k1 : decide ((p : Int) < (l.length : Int)) = false := decide_eq_false (by have := HDL.out; omega)
      have k2 : decide (p < l.length) = false := decide_eq_false (by have := HDL.out; omega)
      clear HK hp
      go_wp2
      go_ret
      exact ⟨ret_int (by rw [← HR.out]), rfl⟩
end Rt
end Go.Proofs.YteopighhhcikcaaGreatDoor
/- The reference's Lower, Name and has. Conditions: as the theorems' premises say. -/
namespace Go.Proofs.YteopighhhcikcaaGreatDoor
open Go.ChangeShapes Go.WideShapes Go.ChangeAt Go.RowKit
namespace Rt
open Tok
set_option maxHeartbeats 4000000 in
theorem lowerB_any (s : ByteArray) (w : World) (hs : s.size ≤ mostB) :
    Calls Tryz.prog 59 #[.string s] w fun e w' => e = .returned (.string (onB lowL s)) ∧ Below w.heap.size w w' := by
  unfold mostB at hs
  obtain ⟨R, hR⟩ : ∃ R, onB lowL s = R := ⟨_, rfl⟩
  rw [hR]
  have HR := Lib.hid hR
  clear hR
  have hB0 := below_al (Below.refl w.heap.size w) (.cells #[] 5)
  have hY0 := Bys.nil w w.heap.size (Nat.le_refl _)
  go_enter Tryz.func59, Tryz.ntmps59
  go_wp2
  go_loopw [3, 4] (fun v i wr => ∃ k : Nat, k ≤ s.size ∧ i = .int .i64 k ∧ Bys wr w.heap.size v (lowL (s.data.toList.take k)) ∧ Below w.heap.size w wr) (fun _ i _ => s.size - (intOf i).toNat)
  case atStart => exact ⟨0, Nat.zero_le _, rfl, hY0, hB0⟩
  case round =>
    obtain ⟨k, hk, rfl, hY, hB⟩ := hrel
    clear hB0 hY0
    by_cases hlt : k < s.size
    · have HT : Hid (lowL (s.data.toList.take (k + 1)) = lowL (s.data.toList.take k) ++ [lowC s[k]]) := by
        show lowL (s.data.toList.take (k + 1)) = _
        rw [take_byte s k hlt]
        unfold lowL
        rw [List.map_append]; rfl
      have hlen : (lowL (s.data.toList.take k)).length < 70000000000000 := by
        rw [low_len]
        have := List.length_take_le k s.data.toList
        omega
      have hle := hB.size
      have u1 : (s[k].toNat : Int) < 256 := by have := s[k].toNat_lt; omega
      by_cases h1 : 65 ≤ (s[k].toNat : Int) ∧ (s[k].toNat : Int) ≤ 90
      · obtain ⟨h1, h2⟩ := h1
        have HV := Lib.hid (lowC_yes h1 h2)
        go_wp2_with (at_builtin; refine wpList_pushU wr rfl (.tmp 24) (.tmp 26) rfl w.heap.size _ _ (lowC s[k]) _ HV _ rfl hY rfl hlen hle ?_; intro v' w' hY' hg
                     have hB' := below_pushU hB hY hg
                     clear hg)
        rw [← HT.out] at hY'
        go_roundw
        case rel => exact ⟨k + 1, by omega, by go_num, hY', hB'⟩
        case measure => simp [intOf]; omega
      · have h1' : (s[k].toNat : Int) < 65 ∨ 90 < (s[k].toNat : Int) := by omega
        have HV := Lib.hid (lowC_no h1')
        clear h1
        rcases h1' with h1 | h1
        · have d1 : decide (65 ≤ (s[k].toNat : Int)) = false := decide_eq_false (by omega)
          clear h1
          go_wp2_with (at_builtin; refine wpList_pushU wr rfl (.tmp 24) (.tmp 26) rfl w.heap.size _ _ (lowC s[k]) _ HV _ rfl hY rfl hlen hle ?_; intro v' w' hY' hg
                       have hB' := below_pushU hB hY hg
                       clear hg)
          rw [← HT.out] at hY'
          go_roundw
          case rel => exact ⟨k + 1, by omega, by go_num, hY', hB'⟩
          case measure => simp [intOf]; omega
        · have h2 : 65 ≤ (s[k].toNat : Int) := by omega
          have d1 : decide ((s[k].toNat : Int) ≤ 90) = false := decide_eq_false (by omega)
          clear h1
          go_wp2_with (at_builtin; refine wpList_pushU wr rfl (.tmp 24) (.tmp 26) rfl w.heap.size _ _ (lowC s[k]) _ HV _ rfl hY rfl hlen hle ?_; intro v' w' hY' hg
                       have hB' := below_pushU hB hY hg
                       clear hg)
          rw [← HT.out] at hY'
          go_roundw
          case rel => exact ⟨k + 1, by omega, by go_num, hY', hB'⟩
          case measure => simp [intOf]; omega
    · have htk : s.data.toList.take k = s.data.toList := List.take_of_length_le (by rw [size_list]; omega)
      rw [htk] at hY
      have hcv := bys_text hY
      have HE : Hid ((⟨(lowL s.data.toList).toArray⟩ : ByteArray) = R) := HR.out
      generalize (⟨(lowL s.data.toList).toArray⟩ : ByteArray) = r at hcv HE
      go_wp2
      go_ret
      obtain rfl := HE.out
      exact ⟨rfl, hB⟩
theorem lower_any (l : List UInt8) (hl : l.length ≤ 1000000) (w : World) : Calls Tryz.prog 59 #[.string (toB l)] w fun e w' => e = .returned (.string (toB (lowL l))) ∧ Below w.heap.size w w' :=
  lowerB_any (toB l) w (by rw [toB_size]; exact hl)
theorem extract_list (s : ByteArray) (i j : Nat) : (s.extract i j).data.toList = (s.data.toList.take j).drop i := by
  rw [ByteArray.data_extract]
  simp [Array.toList_extract, List.extract_eq_take_drop, List.drop_take]
theorem ext_toB (l : List UInt8) (o n : Nat) : (toB l).extract o (o + n) = toB ((l.drop o).take n) := by
  refine bytes_inj ?_
  rw [extract_list]
  show (l.take (o + n)).drop o = (l.drop o).take n
  rw [List.take_drop]
theorem has_yes {l t : List UInt8} {o : Nat} : (((toB l).extract o (o + t.length)).toList == (toB t).toList) = true → t.isPrefixOf (l.drop o) = true := by
  intro h
  rw [ext_toB, toB_toList, toB_toList] at h
  have h := LawfulBEq.eq_of_beq h
  rw [List.isPrefixOf_iff_prefix]
  rw [← h]
  exact List.take_prefix _ _
theorem has_no {l t : List UInt8} {o : Nat} : t.isPrefixOf (l.drop o) = true → (((toB l).extract o (o + t.length)).toList == (toB t).toList) = true := by
  intro h
  rw [ext_toB, toB_toList, toB_toList]
  have h := List.isPrefixOf_iff_prefix.1 h
  rw [List.prefix_iff_eq_take] at h
  rw [← h]
  exact beq_self_eq_true _
theorem has_len {l t : List UInt8} {o : Nat} (h : t.isPrefixOf (l.drop o) = true) (ht : 0 < t.length) : o + t.length ≤ l.length := by
  have := (List.isPrefixOf_iff_prefix.1 h).length_le
  rw [List.length_drop] at this
  omega
set_option maxRecDepth 100000 in
set_option maxHeartbeats 4000000 in
theorem has_any (l t : List UInt8) (o : Nat) (hl : l.length ≤ 5000) (ht : 0 < t.length) (ht2 : t.length ≤ 10) (ho : o ≤ 20000) (w : World) :
    Calls Tryz.prog 62 #[.string (toB l), .int .i64 o, .string (toB t)] w fun e w' => e = .returned (.bool (t.isPrefixOf (l.drop o))) ∧ w = w' := by
  have hsz : (toB l).size = l.length := toB_size l
  have htz : (toB t).size = t.length := toB_size t
  obtain ⟨p, hp⟩ : ∃ p, p = o + t.length := ⟨_, rfl⟩
  have hop : (o : Int) + (t.length : Int) = (p : Int) := by omega
  have hb : p ≤ 20010 := by omega
  have hyes := @has_yes l t o
  have hno := @has_no l t o
  rw [← hp] at hyes hno
  by_cases h : p ≤ l.length
  · have h' : (p : Int) ≤ (l.length : Int) := by omega
    have o0 : (0 : Int) ≤ (o : Int) := Int.natCast_nonneg _
    have o1 : (o : Int) ≤ (p : Int) := by omega
    have o2 : o ≤ p := by omega
    have hR : (((toB l).extract o p).toList == (toB t).toList) = t.isPrefixOf (l.drop o) := by
      rw [Bool.eq_iff_iff]; exact ⟨hyes, hno⟩
    generalize t.isPrefixOf (l.drop o) = R at *
    generalize toB t = tb at *
    generalize toB l = s at *
    clear hyes hno hp ho hl ht ht2
    go_enter Tryz.func62, Tryz.ntmps62
    go_wp2
    all_goals
      go_ret
      exact ⟨by simp_all, rfl⟩
  · have h' : decide ((p : Int) ≤ (l.length : Int)) = false := decide_eq_false (by omega)
    have h'' : decide (p ≤ l.length) = false := decide_eq_false h
    have hR : t.isPrefixOf (l.drop o) = false := by
      cases e : t.isPrefixOf (l.drop o) with
      | false => rfl
      | true => have := has_len e ht; omega
    rw [hR]
    generalize toB t = tb at *
    generalize toB l = s at *
    clear hyes hno hp ho hl ht ht2 h hR
    go_enter Tryz.func62, Tryz.ntmps62
    go_wp2
    go_ret
    exact ⟨rfl, rfl⟩
end Rt
end Go.Proofs.YteopighhhcikcaaGreatDoor
/- The reference's Name and Sign. Conditions: texts up to 5000 bytes. -/
namespace Go.Proofs.YteopighhhcikcaaGreatDoor
open Go.ChangeShapes Go.WideShapes Go.ChangeAt Go.RowKit
namespace Rt
open Tok
set_option maxRecDepth 100000 in
set_option maxHeartbeats 4000000 in
theorem name_any (l : List UInt8) (hl : l.length ≤ 140737488351232) (w : World) : Calls Tryz.prog 21 #[.string (toB l)] w fun e w' => e = .returned (.bool (nameB l)) ∧ Below w.heap.size w w' := by
  have hsz : (toB l).size = l.length := toB_size l
  have cn : ∀ w, Calls Tryz.prog 58 #[.string (toB l), .int .i64 0] w fun e w' => e = .returned (.int .i64 ((if 20 < nm l then 0 else nm l : Nat) : Int)) ∧ w = w' := fun w => nameAt_any l 0 hl (by omega) w
  have hdef := nameB_def l
  obtain ⟨N, hN⟩ : ∃ N : Nat, N = if 20 < nm l then 0 else nm l := ⟨_, rfl⟩
  have hN20 : N ≤ 20 := by rw [hN]; split <;> omega
  rw [← hN] at cn
  by_cases h0 : l.length = 0
  · have hB : nameB l = false := by
      cases e : nameB l with
      | false => rfl
      | true => have := hdef.1 e; omega
    rw [hB]
    have d0 : decide ((0 : Int) < (l.length : Int)) = false := decide_eq_false (by omega)
    have d1 : decide (0 < l.length) = false := decide_eq_false (by omega)
    generalize toB l = s at *
    clear hN hdef hB h0
    go_enter Tryz.func21, Tryz.ntmps21
    go_wp2
    go_ret
    exact ⟨rfl, Below.refl _ _⟩
  · have d0 : (0 : Int) < (l.length : Int) := by omega
    have d1 : 0 < l.length := by omega
    by_cases hNl : N = l.length
    · have hlow : (((toB (lowL l)).toList == (toB l).toList)) = nameB l := by
        rw [toB_toList, toB_toList, Bool.eq_iff_iff, hdef, beq_iff_eq]
        have hle := nm_le l
        split at hN
        · omega
        · exact ⟨fun h => ⟨by omega, by omega, by omega, h⟩, fun h => h.2.2.2⟩
      have hNb : ((N : Int) == (l.length : Int)) = true := by rw [beq_iff_eq]; omega
      have cl := fun w => lower_any l (by omega) w
      generalize nameB l = R at *
      generalize toB (lowL l) = lo at *
      generalize toB l = s at *
      clear hN hdef h0 hNl
      go_enter Tryz.func21, Tryz.ntmps21
      go_wp2_with (first
        | (go_at_call 58; (with_reducible refine (cn _).mono ?_); rintro e w1 ⟨rfl, rfl⟩)
        | (go_at_call 59; (with_reducible refine (cl _).mono ?_); rintro e w2 ⟨rfl, hb2⟩))
      all_goals
        go_ret
        exact ⟨by simp_all, by assumption⟩
    · have hB : nameB l = false := by
        cases e : nameB l with
        | false => rfl
        | true =>
          have := hdef.1 e
          rw [if_neg (by omega)] at hN
          omega
      rw [hB]
      have hNb : ((N : Int) == (l.length : Int)) = false := by rw [beq_eq_false_iff_ne]; omega
      generalize toB l = s at *
      clear hN hdef h0 hNl hB
      go_enter Tryz.func21, Tryz.ntmps21
      go_wp2_with (first
        | (go_at_call 58; (with_reducible refine (cn _).mono ?_); rintro e w1 ⟨rfl, rfl⟩))
      go_ret
      exact ⟨rfl, Below.refl _ _⟩
theorem sgC_nat (q : Bool) (c : UInt8) : sgC q c = if ((c.toNat : Int) == 38) = true then [38, 97, 109, 112, 59] else if ((c.toNat : Int) == 60) = true then [38, 108, 116, 59] else if ((c.toNat : Int) == 62) = true then [38, 103, 116, 59] else if (((c.toNat : Int) == 34) && q) = true then [38, 113, 117, 111, 116, 59] else [c] := by
  have e := fun (a : UInt8) => (⟨fun e => by rw [e], fun e => UInt8.toNat_inj.1 e⟩ : c = a ↔ c.toNat = a.toNat)
  have e1 : c = 38 ↔ ((c.toNat : Int) == 38) = true := by rw [e, beq_iff_eq, show (38 : UInt8).toNat = 38 from rfl]; omega
  have e2 : c = 60 ↔ ((c.toNat : Int) == 60) = true := by rw [e, beq_iff_eq, show (60 : UInt8).toNat = 60 from rfl]; omega
  have e3 : c = 62 ↔ ((c.toNat : Int) == 62) = true := by rw [e, beq_iff_eq, show (62 : UInt8).toNat = 62 from rfl]; omega
  have e4 : (c = 34 ∧ q = true) ↔ (((c.toNat : Int) == 34) && q) = true := by rw [e, Bool.and_eq_true, beq_iff_eq, show (34 : UInt8).toNat = 34 from rfl]; exact ⟨fun h => ⟨by omega, h.2⟩, fun h => ⟨by omega, h.2⟩⟩
  unfold sgC
  simp only [e1, e2, e3, e4]
theorem sign_snoc (q : Bool) (l : List UInt8) (k : Nat) (h : k < l.length) : signL q (l.take (k + 1)) = signL q (l.take k) ++ sgC q l[k] := by
  rw [List.take_succ_eq_append_getElem h, signL_app]
  show _ ++ (sgC q l[k] ++ []) = _
  rw [List.append_nil]
theorem ext_one (l : List UInt8) (k : Nat) (h : k < l.length) : (toB l).extract k (k + 1) = toB [l[k]] := by
  rw [ext_toB]
  congr 1
  rw [List.drop_eq_getElem_cons h]; rfl
set_option maxRecDepth 100000 in
set_option maxHeartbeats 8000000 in
theorem sign_any (l : List UInt8) (q : Bool) (hl : l.length ≤ 5000) (w : World) : Calls Tryz.prog 25 #[.string (toB l), .bool q] w fun e w' => e = .returned (.string (toB (signL q l))) ∧ w = w' := by
  have hsz : (toB l).size = l.length := toB_size l
  have hat : ∀ (k : Nat) (h : k < (toB l).size) (h2 : k < l.length), (toB l)[k]'h = l[k]'h2 := fun k h h2 => rfl
  have hext := ext_one l
  have HAT := Lib.hid hat
  have HEXT := Lib.hid hext
  clear hat hext
  generalize toB l = s at *
  go_enter Tryz.func25, Tryz.ntmps25
  go_wp2
  go_loop [5, 6] (fun ov i => ∃ (k : Nat) (O : ByteArray), k ≤ l.length ∧ i = .int .i64 k ∧ ov = .string O ∧ O.size ≤ 30000 ∧ Hid (O = toB (signL q (l.take k)))) (fun _ i => l.length - (intOf i).toNat)
  case atStart => exact ⟨0, ⟨#[]⟩, Nat.zero_le _, rfl, rfl, by decide, rfl⟩
  case round =>
    obtain ⟨k, O, hk, rfl, rfl, hO, HO⟩ := hrel
    by_cases hlt : k < l.length
    · obtain ⟨p, hp⟩ : ∃ p, p = k + 1 := ⟨_, rfl⟩
      have hks : k < s.size := by rw [hsz]; exact hlt
      have hgs := HAT.out k hks hlt
      have hex := HEXT.out k hlt
      have hsn := sign_snoc q l k hlt
      obtain ⟨c, hce⟩ : ∃ c : UInt8, l[k] = c := ⟨_, rfl⟩
      rw [hce] at hgs hex hsn
      have hcut := sgC_nat q c
      have hx := u8_lt c
      rw [← hp] at hsn hex
      have hlen := signL_len q (l.take p)
      have hmk : (l.take p).length ≤ 5000 := by rw [List.length_take]; omega
      have hnext : ∀ t : ByteArray, t = toB (sgC q c) → (O ++ t).size ≤ 30000 ∧ Hid (O ++ t = toB (signL q (l.take p))) := by
        intro t ht
        have e : O ++ t = toB (signL q (l.take p)) := by rw [HO.out, ht, toB_cat, ← hsn]
        exact ⟨by rw [e, toB_size]; omega, e⟩
      have HNX := Lib.hid hnext
      have HEX := Lib.hid hex
      have HC := Lib.hid hcut
      have hop : (k : Int) + 1 = (p : Int) := by omega
      have p1 : (k : Int) ≤ (p : Int) := by omega
      have p2 : k < p := by omega
      have p3 : p ≤ l.length := by omega
      have p4 : (p : Int) ≤ (l.length : Int) := by omega
      have p5 : k ≤ p := by omega
      clear hnext hex hcut hlen hmk hsn hce hp
      have k0 : (0 : Int) ≤ (k : Int) := Int.natCast_nonneg _
      have k1 : (k : Int) < (l.length : Int) := by omega
      cases h1 : ((c.toNat : Int) == 38) with
      | true =>
        have HR : Hid (sgC q c = [38, 97, 109, 112, 59]) := by have := HC.out; rw [h1] at this; exact this
        clear HC
        go_wp2
        go_round
        case rel => exact ⟨p, _, by omega, by go_num, rfl, (HNX.out _ (by rw [HR.out]; rfl)).1, (HNX.out _ (by rw [HR.out]; rfl)).2⟩
        case measure => simp [intOf]; omega
      | false =>
        cases h2 : ((c.toNat : Int) == 60) with
        | true =>
          have HR : Hid (sgC q c = [38, 108, 116, 59]) := by have := HC.out; rw [h1, h2] at this; exact this
          clear HC
          go_wp2
          go_round
          case rel => exact ⟨p, _, by omega, by go_num, rfl, (HNX.out _ (by rw [HR.out]; rfl)).1, (HNX.out _ (by rw [HR.out]; rfl)).2⟩
          case measure => simp [intOf]; omega
        | false =>
          cases h3 : ((c.toNat : Int) == 62) with
          | true =>
            have HR : Hid (sgC q c = [38, 103, 116, 59]) := by have := HC.out; rw [h1, h2, h3] at this; exact this
            clear HC
            go_wp2
            go_round
            case rel => exact ⟨p, _, by omega, by go_num, rfl, (HNX.out _ (by rw [HR.out]; rfl)).1, (HNX.out _ (by rw [HR.out]; rfl)).2⟩
            case measure => simp [intOf]; omega
          | false =>
            cases h4 : ((c.toNat : Int) == 34) <;> cases hq : q
            case true.true =>
              have HR : Hid (sgC q c = [38, 113, 117, 111, 116, 59]) := by have := HC.out; rw [h1, h2, h3, h4, hq] at this; rw [hq]; exact this
              clear HC
              subst hq
              go_wp2
              go_round
              case rel => exact ⟨p, _, by omega, by go_num, rfl, (HNX.out _ (by rw [HR.out]; rfl)).1, (HNX.out _ (by rw [HR.out]; rfl)).2⟩
              case measure => simp [intOf]; omega
            all_goals
              have HR : Hid (sgC q c = [c]) := by have := HC.out; rw [h1, h2, h3, h4, hq] at this; rw [hq]; exact this
              clear HC
              subst hq
              obtain ⟨tc, htc⟩ : ∃ tc, tc = toB [c] := ⟨_, rfl⟩
              have hex := HEX.out
              rw [← htc] at hex
              have htz : tc.size = 1 := by rw [htc, toB_size]; rfl
              have HT := Lib.hid htc
              clear htc
              go_wp2
              go_round
              case rel => exact ⟨p, _, by omega, by go_num, rfl, (HNX.out _ (by rw [HR.out]; exact HT.out)).1, (HNX.out _ (by rw [HR.out]; exact HT.out)).2⟩
              case measure => simp [intOf]; omega
    · obtain rfl : k = l.length := by omega
      have htk : l.take l.length = l := List.take_length
      rw [htk] at HO
      clear htk
      go_wp2
      go_ret
      exact ⟨by rw [HO.out]; rfl, rfl⟩
end Rt
end Go.Proofs.YteopighhhcikcaaGreatDoor
/- The reference's Tell. Conditions: texts up to 5000 bytes. -/
namespace Go.Proofs.YteopighhhcikcaaGreatDoor
open Go.ChangeShapes Go.WideShapes Go.ChangeAt Go.RowKit
namespace Rt
open Tok Rep
theorem pre_two {a x y : UInt8} {s t l : List UInt8} (h1 : (a :: x :: s).isPrefixOf l = true) (h2 : (a :: y :: t).isPrefixOf l = true) : x = y := by
  obtain ⟨r1, e1⟩ := List.isPrefixOf_iff_prefix.1 h1
  obtain ⟨r2, e2⟩ := List.isPrefixOf_iff_prefix.1 h2
  rw [← e2] at e1
  simp only [List.cons_append, List.cons.injEq] at e1
  exact e1.2.1
theorem sgn_case (D : List UInt8) (b0 b1 b2 b3 : Bool) (h0 : List.isPrefixOf [38, 108, 116, 59] D = b0) (h1 : List.isPrefixOf [38, 103, 116, 59] D = b1) (h2 : List.isPrefixOf [38, 97, 109, 112, 59] D = b2) (h3 : List.isPrefixOf [38, 113, 117, 111, 116, 59] D = b3) :
    (b0 = true ∧ b1 = false ∧ b2 = false ∧ b3 = false ∧ sgn D = some (60, 4)) ∨ (b0 = false ∧ b1 = true ∧ b2 = false ∧ b3 = false ∧ sgn D = some (62, 4)) ∨ (b0 = false ∧ b1 = false ∧ b2 = true ∧ b3 = false ∧ sgn D = some (38, 5)) ∨ (b0 = false ∧ b1 = false ∧ b2 = false ∧ b3 = true ∧ sgn D = some (34, 6)) ∨ (b0 = false ∧ b1 = false ∧ b2 = false ∧ b3 = false ∧ sgn D = none) := by
  unfold sgn
  rw [h0, h1, h2, h3]
  cases b0 <;> cases b1 <;> cases b2 <;> cases b3
  all_goals
    first
    | (exact absurd (pre_two h0 h1) (by decide))
    | (exact absurd (pre_two h0 h2) (by decide))
    | (exact absurd (pre_two h0 h3) (by decide))
    | (exact absurd (pre_two h1 h2) (by decide))
    | (exact absurd (pre_two h1 h3) (by decide))
    | (exact absurd (pre_two h2 h3) (by decide))
    | simp
theorem tell_next {l : List UInt8} {k n : Nat} {x : UInt8} (hk : k < l.length) (h : sgn (l.drop k) = some (x, n)) : tellL (l.drop k) = x :: tellL (l.drop (k + n)) ∧ k + n ≤ l.length ∧ 0 < n := by
  have hd := List.drop_eq_getElem_cons hk
  obtain ⟨p1, p2⟩ := sgn_pos h
  rw [List.length_drop] at p2
  simp only at p1 p2
  refine ⟨?_, by omega, p1⟩
  have h' := h
  rw [hd] at h'
  rw [hd, tellL_yes h', ← hd]
  simp only
  rw [List.drop_drop]
theorem tell_same {l : List UInt8} {k : Nat} (hk : k < l.length) (h : sgn (l.drop k) = none) : tellL (l.drop k) = l[k] :: tellL (l.drop (k + 1)) := by
  have hd := List.drop_eq_getElem_cons hk
  rw [hd] at h
  rw [hd, tellL_no h]
set_option maxRecDepth 100000 in
set_option maxHeartbeats 16000000 in
theorem tell_any (l : List UInt8) (hl : l.length ≤ 5000) (w : World) : Calls Tryz.prog 23 #[.string (toB l)] w fun e w' => e = .returned (.string (toB (tellL l))) ∧ Below w.heap.size w w' := by
  have hsz : (toB l).size = l.length := toB_size l
  have hat : ∀ (k : Nat) (h : k < (toB l).size) (h2 : k < l.length), (toB l)[k]'h = l[k]'h2 := fun k h h2 => rfl
  have HAT := Lib.hid hat
  have hh0 := fun k hk w => has_any l [38, 108, 116, 59] k hl (by decide) (by decide) hk w
  have hh1 := fun k hk w => has_any l [38, 103, 116, 59] k hl (by decide) (by decide) hk w
  have hh2 := fun k hk w => has_any l [38, 97, 109, 112, 59] k hl (by decide) (by decide) hk w
  have hh3 := fun k hk w => has_any l [38, 113, 117, 111, 116, 59] k hl (by decide) (by decide) hk w
  rw [show toB [38, 108, 116, 59] = ⟨#[38, 108, 116, 59]⟩ from rfl] at hh0
  rw [show toB [38, 103, 116, 59] = ⟨#[38, 103, 116, 59]⟩ from rfl] at hh1
  rw [show toB [38, 97, 109, 112, 59] = ⟨#[38, 97, 109, 112, 59]⟩ from rfl] at hh2
  rw [show toB [38, 113, 117, 111, 116, 59] = ⟨#[38, 113, 117, 111, 116, 59]⟩ from rfl] at hh3
  have H0 := Lib.hid hh0
  have H1 := Lib.hid hh1
  have H2 := Lib.hid hh2
  have H3 := Lib.hid hh3
  clear hat hh0 hh1 hh2 hh3
  have KS := Blk.new w 9 #[.string ⟨#[38, 108, 116, 59]⟩, .string ⟨#[38, 103, 116, 59]⟩, .string ⟨#[38, 97, 109, 112, 59]⟩, .string ⟨#[38, 113, 117, 111, 116, 59]⟩]
  obtain ⟨W1, hW1⟩ : ∃ W1, W1 = w.alloc (.cells #[.string ⟨#[38, 108, 116, 59]⟩, .string ⟨#[38, 103, 116, 59]⟩, .string ⟨#[38, 97, 109, 112, 59]⟩, .string ⟨#[38, 113, 117, 111, 116, 59]⟩] 9) := ⟨_, rfl⟩
  have hB1 : Below w.heap.size w W1 := by rw [hW1]; exact below_al (Below.refl w.heap.size w) _
  have hg1 : w.heap.size + 1 = W1.heap.size := by rw [hW1, size_al]
  rw [← hW1] at KS
  have hgl : w.heap.size < W1.heap.size := by omega
  have hY0 := Bys.nil W1 W1.heap.size (Nat.le_refl _)
  have hB0 := below_al (Below.refl W1.heap.size W1) (.cells #[] 5)
  obtain ⟨tl, htl⟩ : ∃ tl, tl = toB l := ⟨_, rfl⟩
  rw [← htl] at hsz HAT H0 H1 H2 H3 ⊢
  obtain ⟨R, hR⟩ : ∃ R, R = toB (tellL l) := ⟨_, rfl⟩
  rw [← hR]
  have HR := Lib.hid hR
  have HW1 := Lib.hid hW1
  have HG1 := Lib.hid hg1
  clear htl hR hW1 hg1
  go_enter Tryz.func23, Tryz.ntmps23
  go_wp2
  rw [HG1.out, ← HW1.out]
  clear HW1 HG1
  obtain ⟨g, hg⟩ : ∃ g, g = w.heap.size := ⟨_, rfl⟩
  rw [← hg] at KS hgl ⊢
  clear hg
  go_loopw [4, 5] (fun v i wr => ∃ (k : Nat) (acc : List UInt8), k ≤ l.length ∧ i = .int .i64 k ∧ Bys wr W1.heap.size v acc ∧ acc.length ≤ k ∧ Below W1.heap.size W1 wr ∧ Hid (tellL l = acc ++ tellL (l.drop k))) (fun _ i _ => l.length - (intOf i).toNat)
  case atStart => exact ⟨0, [], Nat.zero_le _, rfl, hY0, Nat.le_refl _, hB0, rfl⟩
  case round =>
    obtain ⟨k, acc, hk, rfl, hY, hal, hB, HA⟩ := hrel
    clear hB0 hY0
    by_cases hlt : k < l.length
    · have hks : k < tl.size := by rw [hsz]; exact hlt
      have hgs := HAT.out k hks hlt
      have c0 := H0.out k (by omega)
      have c1 := H1.out k (by omega)
      have c2 := H2.out k (by omega)
      have c3 := H3.out k (by omega)
      have hcase := sgn_case (l.drop k) _ _ _ _ rfl rfl rfl rfl
      generalize List.isPrefixOf [38, 108, 116, 59] (l.drop k) = b0 at *
      generalize List.isPrefixOf [38, 103, 116, 59] (l.drop k) = b1 at *
      generalize List.isPrefixOf [38, 97, 109, 112, 59] (l.drop k) = b2 at *
      generalize List.isPrefixOf [38, 113, 117, 111, 116, 59] (l.drop k) = b3 at *
      have KR := KS.next hB
      have s0 := KR.cell 0
      have s1 := KR.cell 1
      have s2 := KR.cell 2
      have s3 := KR.cell 3
      have hle := hB.size
      have hacl : acc.length < 70000000000000 := by omega
      have k0 : (0 : Int) ≤ (k : Int) := Int.natCast_nonneg _
      have k1 : (k : Int) < (l.length : Int) := by omega
      have HTS := Lib.hid (@tell_same l k hlt)
      have HTN := Lib.hid (fun (n : Nat) (x : UInt8) => @tell_next l k n x)
      obtain ⟨c, hce⟩ : ∃ c : UInt8, l[k] = c := ⟨_, rfl⟩
      rw [hce] at hgs HTS
      clear hce KR
      rcases hcase with ⟨rfl, rfl, rfl, rfl, hs⟩ | ⟨rfl, rfl, rfl, rfl, hs⟩ | ⟨rfl, rfl, rfl, rfl, hs⟩ | ⟨rfl, rfl, rfl, rfl, hs⟩ | ⟨rfl, rfl, rfl, rfl, hs⟩
      · obtain ⟨hnx, hle2, -⟩ := HTN.out _ _ hlt hs
        obtain ⟨p, hp⟩ : ∃ p, p = k + 4 := ⟨_, rfl⟩
        rw [← hp] at hnx hle2
        have hop : (k : Int) + 4 = (p : Int) := by omega
        have hkp : k < p := by omega
        have HNX := Lib.hid hnx
        clear hnx hp hs HTS HTN
        go_wp2
        refine wp_loop_rounds 5 ?_
        rw [rounds_succ]
        go_wp2_with (first
          | (go_at_call 62; (with_reducible refine (c0 _).mono ?_); rintro e w1 ⟨rfl, rfl⟩)
          | (go_at_call 62; (with_reducible refine (c1 _).mono ?_); rintro e w1 ⟨rfl, rfl⟩)
          | (go_at_call 62; (with_reducible refine (c2 _).mono ?_); rintro e w1 ⟨rfl, rfl⟩)
          | (go_at_call 62; (with_reducible refine (c3 _).mono ?_); rintro e w1 ⟨rfl, rfl⟩)
          | (at_builtin; go_loud (refine wpList_pushU wr rfl (.tmp 36) (.tmp 38) rfl W1.heap.size _ _ 60 _ (by show bv 60 = _; rfl) _ rfl hY rfl hacl hle ?_); intro v' w' hY' hg
             have hB' := below_pushU hB hY hg
             clear hg))
        rw [rounds_succ]
        go_wp2_with (first
          | (go_at_call 62; (with_reducible refine (c0 _).mono ?_); rintro e w1 ⟨rfl, rfl⟩)
          | (go_at_call 62; (with_reducible refine (c1 _).mono ?_); rintro e w1 ⟨rfl, rfl⟩)
          | (go_at_call 62; (with_reducible refine (c2 _).mono ?_); rintro e w1 ⟨rfl, rfl⟩)
          | (go_at_call 62; (with_reducible refine (c3 _).mono ?_); rintro e w1 ⟨rfl, rfl⟩)
          | (at_builtin; go_loud (refine wpList_pushU wr rfl (.tmp 36) (.tmp 38) rfl W1.heap.size _ _ 60 _ (by show bv 60 = _; rfl) _ rfl hY rfl hacl hle ?_); intro v' w' hY' hg
             have hB' := below_pushU hB hY hg
             clear hg))
        rw [rounds_succ]
        go_wp2_with (first
          | (go_at_call 62; (with_reducible refine (c0 _).mono ?_); rintro e w1 ⟨rfl, rfl⟩)
          | (go_at_call 62; (with_reducible refine (c1 _).mono ?_); rintro e w1 ⟨rfl, rfl⟩)
          | (go_at_call 62; (with_reducible refine (c2 _).mono ?_); rintro e w1 ⟨rfl, rfl⟩)
          | (go_at_call 62; (with_reducible refine (c3 _).mono ?_); rintro e w1 ⟨rfl, rfl⟩)
          | (at_builtin; go_loud (refine wpList_pushU wr rfl (.tmp 36) (.tmp 38) rfl W1.heap.size _ _ 60 _ (by show bv 60 = _; rfl) _ rfl hY rfl hacl hle ?_); intro v' w' hY' hg
             have hB' := below_pushU hB hY hg
             clear hg))
        rw [rounds_succ]
        go_wp2_with (first
          | (go_at_call 62; (with_reducible refine (c0 _).mono ?_); rintro e w1 ⟨rfl, rfl⟩)
          | (go_at_call 62; (with_reducible refine (c1 _).mono ?_); rintro e w1 ⟨rfl, rfl⟩)
          | (go_at_call 62; (with_reducible refine (c2 _).mono ?_); rintro e w1 ⟨rfl, rfl⟩)
          | (go_at_call 62; (with_reducible refine (c3 _).mono ?_); rintro e w1 ⟨rfl, rfl⟩)
          | (at_builtin; go_loud (refine wpList_pushU wr rfl (.tmp 36) (.tmp 38) rfl W1.heap.size _ _ 60 _ (by show bv 60 = _; rfl) _ rfl hY rfl hacl hle ?_); intro v' w' hY' hg
             have hB' := below_pushU hB hY hg
             clear hg))
        rw [rounds_succ]
        go_wp2_with (first
          | (go_at_call 62; (with_reducible refine (c0 _).mono ?_); rintro e w1 ⟨rfl, rfl⟩)
          | (go_at_call 62; (with_reducible refine (c1 _).mono ?_); rintro e w1 ⟨rfl, rfl⟩)
          | (go_at_call 62; (with_reducible refine (c2 _).mono ?_); rintro e w1 ⟨rfl, rfl⟩)
          | (go_at_call 62; (with_reducible refine (c3 _).mono ?_); rintro e w1 ⟨rfl, rfl⟩)
          | (at_builtin; go_loud (refine wpList_pushU wr rfl (.tmp 36) (.tmp 38) rfl W1.heap.size _ _ 60 _ (by show bv 60 = _; rfl) _ rfl hY rfl hacl hle ?_); intro v' w' hY' hg
             have hB' := below_pushU hB hY hg
             clear hg))
        go_roundw
        case rel => exact ⟨p, _, hle2, by go_num, hY', by rw [List.length_append, List.length_singleton]; omega, hB', by show _ = _; rw [HA.out, HNX.out, List.append_assoc]; rfl⟩
        case measure => simp [intOf]; omega
      · obtain ⟨hnx, hle2, -⟩ := HTN.out _ _ hlt hs
        obtain ⟨p, hp⟩ : ∃ p, p = k + 4 := ⟨_, rfl⟩
        rw [← hp] at hnx hle2
        have hop : (k : Int) + 4 = (p : Int) := by omega
        have hkp : k < p := by omega
        have HNX := Lib.hid hnx
        clear hnx hp hs HTS HTN
        go_wp2
        refine wp_loop_rounds 5 ?_
        rw [rounds_succ]
        go_wp2_with (first
          | (go_at_call 62; (with_reducible refine (c0 _).mono ?_); rintro e w1 ⟨rfl, rfl⟩)
          | (go_at_call 62; (with_reducible refine (c1 _).mono ?_); rintro e w1 ⟨rfl, rfl⟩)
          | (go_at_call 62; (with_reducible refine (c2 _).mono ?_); rintro e w1 ⟨rfl, rfl⟩)
          | (go_at_call 62; (with_reducible refine (c3 _).mono ?_); rintro e w1 ⟨rfl, rfl⟩)
          | (at_builtin; go_loud (refine wpList_pushU wr rfl (.tmp 36) (.tmp 38) rfl W1.heap.size _ _ 62 _ (by show bv 62 = _; rfl) _ rfl hY rfl hacl hle ?_); intro v' w' hY' hg
             have hB' := below_pushU hB hY hg
             clear hg))
        rw [rounds_succ]
        go_wp2_with (first
          | (go_at_call 62; (with_reducible refine (c0 _).mono ?_); rintro e w1 ⟨rfl, rfl⟩)
          | (go_at_call 62; (with_reducible refine (c1 _).mono ?_); rintro e w1 ⟨rfl, rfl⟩)
          | (go_at_call 62; (with_reducible refine (c2 _).mono ?_); rintro e w1 ⟨rfl, rfl⟩)
          | (go_at_call 62; (with_reducible refine (c3 _).mono ?_); rintro e w1 ⟨rfl, rfl⟩)
          | (at_builtin; go_loud (refine wpList_pushU wr rfl (.tmp 36) (.tmp 38) rfl W1.heap.size _ _ 62 _ (by show bv 62 = _; rfl) _ rfl hY rfl hacl hle ?_); intro v' w' hY' hg
             have hB' := below_pushU hB hY hg
             clear hg))
        rw [rounds_succ]
        go_wp2_with (first
          | (go_at_call 62; (with_reducible refine (c0 _).mono ?_); rintro e w1 ⟨rfl, rfl⟩)
          | (go_at_call 62; (with_reducible refine (c1 _).mono ?_); rintro e w1 ⟨rfl, rfl⟩)
          | (go_at_call 62; (with_reducible refine (c2 _).mono ?_); rintro e w1 ⟨rfl, rfl⟩)
          | (go_at_call 62; (with_reducible refine (c3 _).mono ?_); rintro e w1 ⟨rfl, rfl⟩)
          | (at_builtin; go_loud (refine wpList_pushU wr rfl (.tmp 36) (.tmp 38) rfl W1.heap.size _ _ 62 _ (by show bv 62 = _; rfl) _ rfl hY rfl hacl hle ?_); intro v' w' hY' hg
             have hB' := below_pushU hB hY hg
             clear hg))
        rw [rounds_succ]
        go_wp2_with (first
          | (go_at_call 62; (with_reducible refine (c0 _).mono ?_); rintro e w1 ⟨rfl, rfl⟩)
          | (go_at_call 62; (with_reducible refine (c1 _).mono ?_); rintro e w1 ⟨rfl, rfl⟩)
          | (go_at_call 62; (with_reducible refine (c2 _).mono ?_); rintro e w1 ⟨rfl, rfl⟩)
          | (go_at_call 62; (with_reducible refine (c3 _).mono ?_); rintro e w1 ⟨rfl, rfl⟩)
          | (at_builtin; go_loud (refine wpList_pushU wr rfl (.tmp 36) (.tmp 38) rfl W1.heap.size _ _ 62 _ (by show bv 62 = _; rfl) _ rfl hY rfl hacl hle ?_); intro v' w' hY' hg
             have hB' := below_pushU hB hY hg
             clear hg))
        rw [rounds_succ]
        go_wp2_with (first
          | (go_at_call 62; (with_reducible refine (c0 _).mono ?_); rintro e w1 ⟨rfl, rfl⟩)
          | (go_at_call 62; (with_reducible refine (c1 _).mono ?_); rintro e w1 ⟨rfl, rfl⟩)
          | (go_at_call 62; (with_reducible refine (c2 _).mono ?_); rintro e w1 ⟨rfl, rfl⟩)
          | (go_at_call 62; (with_reducible refine (c3 _).mono ?_); rintro e w1 ⟨rfl, rfl⟩)
          | (at_builtin; go_loud (refine wpList_pushU wr rfl (.tmp 36) (.tmp 38) rfl W1.heap.size _ _ 62 _ (by show bv 62 = _; rfl) _ rfl hY rfl hacl hle ?_); intro v' w' hY' hg
             have hB' := below_pushU hB hY hg
             clear hg))
        go_roundw
        case rel => exact ⟨p, _, hle2, by go_num, hY', by rw [List.length_append, List.length_singleton]; omega, hB', by show _ = _; rw [HA.out, HNX.out, List.append_assoc]; rfl⟩
        case measure => simp [intOf]; omega
      · obtain ⟨hnx, hle2, -⟩ := HTN.out _ _ hlt hs
        obtain ⟨p, hp⟩ : ∃ p, p = k + 5 := ⟨_, rfl⟩
        rw [← hp] at hnx hle2
        have hop : (k : Int) + 5 = (p : Int) := by omega
        have hkp : k < p := by omega
        have HNX := Lib.hid hnx
        clear hnx hp hs HTS HTN
        go_wp2
        refine wp_loop_rounds 5 ?_
        rw [rounds_succ]
        go_wp2_with (first
          | (go_at_call 62; (with_reducible refine (c0 _).mono ?_); rintro e w1 ⟨rfl, rfl⟩)
          | (go_at_call 62; (with_reducible refine (c1 _).mono ?_); rintro e w1 ⟨rfl, rfl⟩)
          | (go_at_call 62; (with_reducible refine (c2 _).mono ?_); rintro e w1 ⟨rfl, rfl⟩)
          | (go_at_call 62; (with_reducible refine (c3 _).mono ?_); rintro e w1 ⟨rfl, rfl⟩)
          | (at_builtin; go_loud (refine wpList_pushU wr rfl (.tmp 36) (.tmp 38) rfl W1.heap.size _ _ 38 _ (by show bv 38 = _; rfl) _ rfl hY rfl hacl hle ?_); intro v' w' hY' hg
             have hB' := below_pushU hB hY hg
             clear hg))
        rw [rounds_succ]
        go_wp2_with (first
          | (go_at_call 62; (with_reducible refine (c0 _).mono ?_); rintro e w1 ⟨rfl, rfl⟩)
          | (go_at_call 62; (with_reducible refine (c1 _).mono ?_); rintro e w1 ⟨rfl, rfl⟩)
          | (go_at_call 62; (with_reducible refine (c2 _).mono ?_); rintro e w1 ⟨rfl, rfl⟩)
          | (go_at_call 62; (with_reducible refine (c3 _).mono ?_); rintro e w1 ⟨rfl, rfl⟩)
          | (at_builtin; go_loud (refine wpList_pushU wr rfl (.tmp 36) (.tmp 38) rfl W1.heap.size _ _ 38 _ (by show bv 38 = _; rfl) _ rfl hY rfl hacl hle ?_); intro v' w' hY' hg
             have hB' := below_pushU hB hY hg
             clear hg))
        rw [rounds_succ]
        go_wp2_with (first
          | (go_at_call 62; (with_reducible refine (c0 _).mono ?_); rintro e w1 ⟨rfl, rfl⟩)
          | (go_at_call 62; (with_reducible refine (c1 _).mono ?_); rintro e w1 ⟨rfl, rfl⟩)
          | (go_at_call 62; (with_reducible refine (c2 _).mono ?_); rintro e w1 ⟨rfl, rfl⟩)
          | (go_at_call 62; (with_reducible refine (c3 _).mono ?_); rintro e w1 ⟨rfl, rfl⟩)
          | (at_builtin; go_loud (refine wpList_pushU wr rfl (.tmp 36) (.tmp 38) rfl W1.heap.size _ _ 38 _ (by show bv 38 = _; rfl) _ rfl hY rfl hacl hle ?_); intro v' w' hY' hg
             have hB' := below_pushU hB hY hg
             clear hg))
        rw [rounds_succ]
        go_wp2_with (first
          | (go_at_call 62; (with_reducible refine (c0 _).mono ?_); rintro e w1 ⟨rfl, rfl⟩)
          | (go_at_call 62; (with_reducible refine (c1 _).mono ?_); rintro e w1 ⟨rfl, rfl⟩)
          | (go_at_call 62; (with_reducible refine (c2 _).mono ?_); rintro e w1 ⟨rfl, rfl⟩)
          | (go_at_call 62; (with_reducible refine (c3 _).mono ?_); rintro e w1 ⟨rfl, rfl⟩)
          | (at_builtin; go_loud (refine wpList_pushU wr rfl (.tmp 36) (.tmp 38) rfl W1.heap.size _ _ 38 _ (by show bv 38 = _; rfl) _ rfl hY rfl hacl hle ?_); intro v' w' hY' hg
             have hB' := below_pushU hB hY hg
             clear hg))
        rw [rounds_succ]
        go_wp2_with (first
          | (go_at_call 62; (with_reducible refine (c0 _).mono ?_); rintro e w1 ⟨rfl, rfl⟩)
          | (go_at_call 62; (with_reducible refine (c1 _).mono ?_); rintro e w1 ⟨rfl, rfl⟩)
          | (go_at_call 62; (with_reducible refine (c2 _).mono ?_); rintro e w1 ⟨rfl, rfl⟩)
          | (go_at_call 62; (with_reducible refine (c3 _).mono ?_); rintro e w1 ⟨rfl, rfl⟩)
          | (at_builtin; go_loud (refine wpList_pushU wr rfl (.tmp 36) (.tmp 38) rfl W1.heap.size _ _ 38 _ (by show bv 38 = _; rfl) _ rfl hY rfl hacl hle ?_); intro v' w' hY' hg
             have hB' := below_pushU hB hY hg
             clear hg))
        go_roundw
        case rel => exact ⟨p, _, hle2, by go_num, hY', by rw [List.length_append, List.length_singleton]; omega, hB', by show _ = _; rw [HA.out, HNX.out, List.append_assoc]; rfl⟩
        case measure => simp [intOf]; omega
      · obtain ⟨hnx, hle2, -⟩ := HTN.out _ _ hlt hs
        obtain ⟨p, hp⟩ : ∃ p, p = k + 6 := ⟨_, rfl⟩
        rw [← hp] at hnx hle2
        have hop : (k : Int) + 6 = (p : Int) := by omega
        have hkp : k < p := by omega
        have HNX := Lib.hid hnx
        clear hnx hp hs HTS HTN
        go_wp2
        refine wp_loop_rounds 5 ?_
        rw [rounds_succ]
        go_wp2_with (first
          | (go_at_call 62; (with_reducible refine (c0 _).mono ?_); rintro e w1 ⟨rfl, rfl⟩)
          | (go_at_call 62; (with_reducible refine (c1 _).mono ?_); rintro e w1 ⟨rfl, rfl⟩)
          | (go_at_call 62; (with_reducible refine (c2 _).mono ?_); rintro e w1 ⟨rfl, rfl⟩)
          | (go_at_call 62; (with_reducible refine (c3 _).mono ?_); rintro e w1 ⟨rfl, rfl⟩)
          | (at_builtin; go_loud (refine wpList_pushU wr rfl (.tmp 36) (.tmp 38) rfl W1.heap.size _ _ 34 _ (by show bv 34 = _; rfl) _ rfl hY rfl hacl hle ?_); intro v' w' hY' hg
             have hB' := below_pushU hB hY hg
             clear hg))
        rw [rounds_succ]
        go_wp2_with (first
          | (go_at_call 62; (with_reducible refine (c0 _).mono ?_); rintro e w1 ⟨rfl, rfl⟩)
          | (go_at_call 62; (with_reducible refine (c1 _).mono ?_); rintro e w1 ⟨rfl, rfl⟩)
          | (go_at_call 62; (with_reducible refine (c2 _).mono ?_); rintro e w1 ⟨rfl, rfl⟩)
          | (go_at_call 62; (with_reducible refine (c3 _).mono ?_); rintro e w1 ⟨rfl, rfl⟩)
          | (at_builtin; go_loud (refine wpList_pushU wr rfl (.tmp 36) (.tmp 38) rfl W1.heap.size _ _ 34 _ (by show bv 34 = _; rfl) _ rfl hY rfl hacl hle ?_); intro v' w' hY' hg
             have hB' := below_pushU hB hY hg
             clear hg))
        rw [rounds_succ]
        go_wp2_with (first
          | (go_at_call 62; (with_reducible refine (c0 _).mono ?_); rintro e w1 ⟨rfl, rfl⟩)
          | (go_at_call 62; (with_reducible refine (c1 _).mono ?_); rintro e w1 ⟨rfl, rfl⟩)
          | (go_at_call 62; (with_reducible refine (c2 _).mono ?_); rintro e w1 ⟨rfl, rfl⟩)
          | (go_at_call 62; (with_reducible refine (c3 _).mono ?_); rintro e w1 ⟨rfl, rfl⟩)
          | (at_builtin; go_loud (refine wpList_pushU wr rfl (.tmp 36) (.tmp 38) rfl W1.heap.size _ _ 34 _ (by show bv 34 = _; rfl) _ rfl hY rfl hacl hle ?_); intro v' w' hY' hg
             have hB' := below_pushU hB hY hg
             clear hg))
        rw [rounds_succ]
        go_wp2_with (first
          | (go_at_call 62; (with_reducible refine (c0 _).mono ?_); rintro e w1 ⟨rfl, rfl⟩)
          | (go_at_call 62; (with_reducible refine (c1 _).mono ?_); rintro e w1 ⟨rfl, rfl⟩)
          | (go_at_call 62; (with_reducible refine (c2 _).mono ?_); rintro e w1 ⟨rfl, rfl⟩)
          | (go_at_call 62; (with_reducible refine (c3 _).mono ?_); rintro e w1 ⟨rfl, rfl⟩)
          | (at_builtin; go_loud (refine wpList_pushU wr rfl (.tmp 36) (.tmp 38) rfl W1.heap.size _ _ 34 _ (by show bv 34 = _; rfl) _ rfl hY rfl hacl hle ?_); intro v' w' hY' hg
             have hB' := below_pushU hB hY hg
             clear hg))
        rw [rounds_succ]
        go_wp2_with (first
          | (go_at_call 62; (with_reducible refine (c0 _).mono ?_); rintro e w1 ⟨rfl, rfl⟩)
          | (go_at_call 62; (with_reducible refine (c1 _).mono ?_); rintro e w1 ⟨rfl, rfl⟩)
          | (go_at_call 62; (with_reducible refine (c2 _).mono ?_); rintro e w1 ⟨rfl, rfl⟩)
          | (go_at_call 62; (with_reducible refine (c3 _).mono ?_); rintro e w1 ⟨rfl, rfl⟩)
          | (at_builtin; go_loud (refine wpList_pushU wr rfl (.tmp 36) (.tmp 38) rfl W1.heap.size _ _ 34 _ (by show bv 34 = _; rfl) _ rfl hY rfl hacl hle ?_); intro v' w' hY' hg
             have hB' := below_pushU hB hY hg
             clear hg))
        go_roundw
        case rel => exact ⟨p, _, hle2, by go_num, hY', by rw [List.length_append, List.length_singleton]; omega, hB', by show _ = _; rw [HA.out, HNX.out, List.append_assoc]; rfl⟩
        case measure => simp [intOf]; omega
      · have hnx := HTS.out hs
        obtain ⟨p, hp⟩ : ∃ p, p = k + 1 := ⟨_, rfl⟩
        have hle2 : p ≤ l.length := by omega
        rw [← hp] at hnx
        have hop : (k : Int) + 1 = (p : Int) := by omega
        have hkp : k < p := by omega
        have HNX := Lib.hid hnx
        clear hnx hp hs HTS HTN
        go_wp2
        refine wp_loop_rounds 5 ?_
        rw [rounds_succ]
        go_wp2_with (first
          | (go_at_call 62; (with_reducible refine (c0 _).mono ?_); rintro e w1 ⟨rfl, rfl⟩)
          | (go_at_call 62; (with_reducible refine (c1 _).mono ?_); rintro e w1 ⟨rfl, rfl⟩)
          | (go_at_call 62; (with_reducible refine (c2 _).mono ?_); rintro e w1 ⟨rfl, rfl⟩)
          | (go_at_call 62; (with_reducible refine (c3 _).mono ?_); rintro e w1 ⟨rfl, rfl⟩)
          | (at_builtin; go_loud (refine wpList_pushU wr rfl (.tmp 36) (.tmp 38) rfl W1.heap.size _ _ c _ (by show bv c = _; rfl) _ rfl hY rfl hacl hle ?_); intro v' w' hY' hg
             have hB' := below_pushU hB hY hg
             clear hg))
        rw [rounds_succ]
        go_wp2_with (first
          | (go_at_call 62; (with_reducible refine (c0 _).mono ?_); rintro e w1 ⟨rfl, rfl⟩)
          | (go_at_call 62; (with_reducible refine (c1 _).mono ?_); rintro e w1 ⟨rfl, rfl⟩)
          | (go_at_call 62; (with_reducible refine (c2 _).mono ?_); rintro e w1 ⟨rfl, rfl⟩)
          | (go_at_call 62; (with_reducible refine (c3 _).mono ?_); rintro e w1 ⟨rfl, rfl⟩)
          | (at_builtin; go_loud (refine wpList_pushU wr rfl (.tmp 36) (.tmp 38) rfl W1.heap.size _ _ c _ (by show bv c = _; rfl) _ rfl hY rfl hacl hle ?_); intro v' w' hY' hg
             have hB' := below_pushU hB hY hg
             clear hg))
        rw [rounds_succ]
        go_wp2_with (first
          | (go_at_call 62; (with_reducible refine (c0 _).mono ?_); rintro e w1 ⟨rfl, rfl⟩)
          | (go_at_call 62; (with_reducible refine (c1 _).mono ?_); rintro e w1 ⟨rfl, rfl⟩)
          | (go_at_call 62; (with_reducible refine (c2 _).mono ?_); rintro e w1 ⟨rfl, rfl⟩)
          | (go_at_call 62; (with_reducible refine (c3 _).mono ?_); rintro e w1 ⟨rfl, rfl⟩)
          | (at_builtin; go_loud (refine wpList_pushU wr rfl (.tmp 36) (.tmp 38) rfl W1.heap.size _ _ c _ (by show bv c = _; rfl) _ rfl hY rfl hacl hle ?_); intro v' w' hY' hg
             have hB' := below_pushU hB hY hg
             clear hg))
        rw [rounds_succ]
        go_wp2_with (first
          | (go_at_call 62; (with_reducible refine (c0 _).mono ?_); rintro e w1 ⟨rfl, rfl⟩)
          | (go_at_call 62; (with_reducible refine (c1 _).mono ?_); rintro e w1 ⟨rfl, rfl⟩)
          | (go_at_call 62; (with_reducible refine (c2 _).mono ?_); rintro e w1 ⟨rfl, rfl⟩)
          | (go_at_call 62; (with_reducible refine (c3 _).mono ?_); rintro e w1 ⟨rfl, rfl⟩)
          | (at_builtin; go_loud (refine wpList_pushU wr rfl (.tmp 36) (.tmp 38) rfl W1.heap.size _ _ c _ (by show bv c = _; rfl) _ rfl hY rfl hacl hle ?_); intro v' w' hY' hg
             have hB' := below_pushU hB hY hg
             clear hg))
        rw [rounds_succ]
        go_wp2_with (first
          | (go_at_call 62; (with_reducible refine (c0 _).mono ?_); rintro e w1 ⟨rfl, rfl⟩)
          | (go_at_call 62; (with_reducible refine (c1 _).mono ?_); rintro e w1 ⟨rfl, rfl⟩)
          | (go_at_call 62; (with_reducible refine (c2 _).mono ?_); rintro e w1 ⟨rfl, rfl⟩)
          | (go_at_call 62; (with_reducible refine (c3 _).mono ?_); rintro e w1 ⟨rfl, rfl⟩)
          | (at_builtin; go_loud (refine wpList_pushU wr rfl (.tmp 36) (.tmp 38) rfl W1.heap.size _ _ c _ (by show bv c = _; rfl) _ rfl hY rfl hacl hle ?_); intro v' w' hY' hg
             have hB' := below_pushU hB hY hg
             clear hg))
        go_roundw
        case rel => exact ⟨p, _, hle2, by go_num, hY', by rw [List.length_append, List.length_singleton]; omega, hB', by show _ = _; rw [HA.out, HNX.out, List.append_assoc]; rfl⟩
        case measure => simp [intOf]; omega
    · obtain rfl : k = l.length := by omega
      have htk : l.drop l.length = [] := List.drop_length
      have HF : Hid (tellL l = acc) := by show _ = _; rw [HA.out, htk, tellL_nil, List.append_nil]
      have hcv := bys_text hY
      clear HA htk
      have HE : Hid ((⟨acc.toArray⟩ : ByteArray) = R) := by show _ = _; rw [HR.out, HF.out]; rfl
      generalize (⟨acc.toArray⟩ : ByteArray) = r at hcv HE
      go_wp2
      go_ret
      obtain rfl := HE.out
      exact ⟨rfl, hB1.trans (hB.mono hB1.size)⟩
end Rt
end Go.Proofs.YteopighhhcikcaaGreatDoor
namespace Go.Proofs.YteopighhhcikcaaGreatDoor
open Go.ChangeShapes Go.WideShapes Go.ChangeAt Go.RowKit
namespace Rt
open Tok Rep
theorem any_no {ats : List At} {name : List UInt8} (h : ∀ (j : Nat) (x : At), ats[j]? = some x → (x.1 == name) = false) : ats.any (fun b => b.1 == name) = false := by
  rw [List.any_eq_false]
  intro x hx
  obtain ⟨j, hj⟩ := List.getElem?_of_mem hx
  rw [h j x hj]
  decide
set_option maxRecDepth 100000 in
set_option maxHeartbeats 8000000 in
theorem attr_any (A : Option Addr) (n c : Nat) (ats : List At) (name : List UInt8) (hn : n ≤ 1000000) (w : World) (B : Nat) (h1 : Reads w B 2 A n (ats.flatMap atC)) :
    Calls Tryz.prog 78 #[.slice A n c, .string (toB name)] w fun e w' => (∃ v : ByteArray, e = .returned (.tuple #[.string v, .bool (ats.any (fun b => b.1 == name))])) ∧ w = w' := by
  have hl1 : ats.length = n := by have := h1.1; rw [flat_len atC_len] at this; omega
  obtain ⟨R, hR⟩ : ∃ R, R = ats.any (fun b => b.1 == name) := ⟨_, rfl⟩
  rw [← hR]
  have HR := Lib.hid hR
  have HL := Lib.hid hl1
  clear hR hl1
  go_enter Tryz.func78, Tryz.ntmps78
  go_wp2
  go_loop [6] (fun i => ∃ k : Nat, k ≤ n ∧ i = .int .i64 k ∧ Hid (∀ (j : Nat) (x : At), j < k → ats[j]? = some x → (x.1 == name) = false)) (fun i => n - (intOf i).toNat)
  case atStart => exact ⟨0, Nat.zero_le _, rfl, fun j x h => absurd h (by omega)⟩
  case round =>
    obtain ⟨k, hk, rfl, HK⟩ := hrel
    by_cases hlt : k < n
    · obtain ⟨a, ha⟩ : ∃ a, ats[k]? = some a := ⟨_, List.getElem?_eq_getElem (by rw [HL.out]; exact hlt)⟩
      obtain ⟨ad, rfl, -, f0, f1⟩ := attr_of h1 ha
      have heq : ((toB a.1).toList == (toB name).toList) = (a.1 == name) := by rw [toB_toList, toB_toList]
      have hm := List.mem_of_getElem? ha
      cases hc : (a.1 == name) with
      | true =>
        rw [hc] at heq
        obtain rfl : R = true := by rw [HR.out, List.any_eq_true]; exact ⟨a, hm, hc⟩
        clear ha hc hm HK
        go_wp2
        exact bodyPost_ret (v := .tuple #[.string (toB a.2), .bool true]) (by simp [results, Tryz.results78, go_sem]) rfl ⟨⟨_, rfl⟩, rfl⟩
      | false =>
        rw [hc] at heq
        have HK2 : Hid (∀ (j : Nat) (x : At), j < k + 1 → ats[j]? = some x → (x.1 == name) = false) := by
          intro j x hj hx
          by_cases e : j = k
          · subst e; rw [ha] at hx; obtain rfl := Option.some.inj hx; exact hc
          · exact HK.out j x (by omega) hx
        clear ha hc hm HK
        go_wp2
        go_round
        case rel => exact ⟨k + 1, by omega, by go_num, HK2⟩
        case measure => simp [intOf]; omega
    · obtain rfl : k = n := by omega
      obtain rfl : R = false := by
        rw [HR.out]
        exact any_no (fun j x hx => HK.out j x (by have := (List.getElem?_eq_some_iff.1 hx).1; have := HL.out; omega) hx)
      clear HK
      go_wp2
      exact bodyPost_ret (v := .tuple #[.string ⟨#[]⟩, .bool false]) (by simp [results, Tryz.results78, go_sem]) rfl ⟨⟨_, rfl⟩, rfl⟩
theorem shut_no {D : List UInt8} (h : List.isPrefixOf [60, 47] D = false) : shutP D = none := by
  unfold shutP
  split
  · simp [List.isPrefixOf] at h
  · rfl
theorem shut_yes {l : List UInt8} {o : Nat} (h : List.isPrefixOf [60, 47] (l.drop o) = true) : shutP (l.drop o) = match nameP (l.drop (o + 2)) with
    | none => none
    | some (n, r) => match endP r with
      | none => none
      | some b => some (⟨2, n, [], []⟩, b) := by
  obtain ⟨r, hr⟩ := List.isPrefixOf_iff_prefix.1 h
  have e : l.drop (o + 2) = r := by rw [← List.drop_drop, ← hr]; rfl
  rw [← hr, e]
  rfl
theorem nameP_zero {l : List UInt8} (h : (if 20 < nm l then 0 else nm l) = 0) : nameP l = none := by
  unfold nameP
  rw [if_pos]
  split at h
  · exact .inr (by assumption)
  · exact .inl h
theorem nameP_some {l : List UInt8} {N : Nat} (hN : N = if 20 < nm l then 0 else nm l) (h : N ≠ 0) : nameP l = some (lowL (l.take N), l.drop N) ∧ N ≤ l.length ∧ N ≤ 20 := by
  have hle := nm_le l
  split at hN
  · exact absurd hN h
  · unfold nameP
    rw [if_neg (by omega), hN]
    exact ⟨rfl, hle, by omega⟩
theorem endP_at {l : List UInt8} {e2 : Nat} : endP (l.drop e2) = if List.isPrefixOf [62] (l.drop (e2 + bl (l.drop e2))) = true then some (l.drop (e2 + bl (l.drop e2) + 1)) else none := by
  unfold endP
  have hiff : (l.drop e2)[bl (l.drop e2)]? = some 62 ↔ List.isPrefixOf [62] (l.drop (e2 + bl (l.drop e2))) = true := by
    rw [List.getElem?_drop]
    generalize e2 + bl (l.drop e2) = q
    constructor
    · intro h
      have hq := (List.getElem?_eq_some_iff.1 h)
      obtain ⟨hq1, hq2⟩ := hq
      rw [List.drop_eq_getElem_cons hq1, hq2]
      simp [List.isPrefixOf]
    · intro h
      obtain ⟨r, hr⟩ := List.isPrefixOf_iff_prefix.1 h
      have : (l.drop q)[0]? = some 62 := by rw [← hr]; rfl
      rwa [List.getElem?_drop, Nat.add_zero] at this
  by_cases h : List.isPrefixOf [62] (l.drop (e2 + bl (l.drop e2))) = true
  · rw [if_pos h, if_pos (hiff.2 h), List.drop_drop, Nat.add_assoc]
  · rw [if_neg h, if_neg (fun q => h (hiff.1 q))]
def ClP (l : List UInt8) (o : Nat) (K : Int) (N : List UInt8) (P : Nat) : Prop := (P = 0 ∧ shutP (l.drop o) = none) ∨ (o < P ∧ P ≤ l.length ∧ K = 2 ∧ shutP (l.drop o) = some (⟨2, N, [], []⟩, l.drop P))
set_option maxRecDepth 100000 in
set_option maxHeartbeats 8000000 in
theorem closing_any (l : List UInt8) (o : Nat) (hl : l.length ≤ 5000) (ho : o < l.length) (w : World) :
    Calls Tryz.prog 55 #[.string (toB l), .int .i64 o] w fun e w' => (∃ (K : Int) (N : List UInt8) (P : Nat), e = .returned (.tuple #[.agg #[.int .i64 K, .string (toB N), .string ⟨#[]⟩, .slice none 0 0], .int .i64 P]) ∧ ClP l o K N P) ∧ Below w.heap.size w w' := by
  obtain ⟨q2, hq2⟩ : ∃ q, q = o + 2 := ⟨_, rfl⟩
  have i2 : (o : Int) + 2 = (q2 : Int) := by omega
  obtain ⟨N, hN⟩ : ∃ N : Nat, N = if 20 < nm (l.drop q2) then 0 else nm (l.drop q2) := ⟨_, rfl⟩
  have cn := fun w => nameAt_any l q2 (by omega) (by omega) w
  rw [← hN] at cn
  have cs := fun w => has_any l [60, 47] o hl (by decide) (by decide) (by omega) w
  rw [show toB [60, 47] = ⟨#[60, 47]⟩ from rfl] at cs
  have hsz : (toB l).size = l.length := toB_size l
  have hB0 := below_al (Below.refl w.heap.size w) (.cells #[.int .i64 0, .string ⟨#[]⟩, .string ⟨#[]⟩, .slice none 0 0] 42)
  have hyes := @shut_yes l o
  rw [← hq2] at hyes
  cases hS : List.isPrefixOf [60, 47] (l.drop o) with
  | false =>
    rw [hS] at cs
    have HC : Hid (ClP l o 0 [] 0) := .inl ⟨rfl, shut_no hS⟩
    clear hyes hS hN hq2
    generalize toB l = s at *
    go_enter Tryz.func55, Tryz.ntmps55
    go_wp2_with (first
      | (go_at_call 58; (with_reducible refine (cn _).mono ?_); rintro e w1 ⟨rfl, rfl⟩)
      | (go_at_call 62; (with_reducible refine (cs _).mono ?_); rintro e w1 ⟨rfl, rfl⟩))
    exact bodyPost_ret (v := .tuple #[.agg #[.int .i64 0, .string ⟨#[]⟩, .string ⟨#[]⟩, .slice none 0 0], .int .i64 0]) (by simp [results, Tryz.results55, go_sem]) rfl ⟨⟨0, [], 0, rfl, HC⟩, hB0⟩
  | true =>
    rw [hS] at cs
    have hyes := hyes hS
    by_cases hN0 : N = 0
    · have HC : Hid (ClP l o 0 [] 0) := .inl ⟨rfl, by rw [hyes, nameP_zero (by rw [← hN]; exact hN0)]⟩
      subst hN0
      rw [show ((0 : Nat) : Int) = 0 from rfl] at cn
      clear hyes hS hN hq2
      generalize toB l = s at *
      go_enter Tryz.func55, Tryz.ntmps55
      go_wp2_with (first
        | (go_at_call 58; (with_reducible refine (cn _).mono ?_); rintro e w1 ⟨rfl, rfl⟩)
        | (go_at_call 62; (with_reducible refine (cs _).mono ?_); rintro e w1 ⟨rfl, rfl⟩))
      exact bodyPost_ret (v := .tuple #[.agg #[.int .i64 0, .string ⟨#[]⟩, .string ⟨#[]⟩, .slice none 0 0], .int .i64 0]) (by simp [results, Tryz.results55, go_sem]) rfl ⟨⟨0, [], 0, rfl, HC⟩, hB0⟩
    · obtain ⟨hnp, hNl, hN20⟩ := nameP_some hN hN0
      rw [List.length_drop] at hNl
      obtain ⟨e2, he2⟩ : ∃ q, q = q2 + N := ⟨_, rfl⟩
      have i3 : (q2 : Int) + (N : Int) = (e2 : Int) := by omega
      have hbl := bl_le (l.drop e2)
      rw [List.length_drop] at hbl
      obtain ⟨Bl, hBl⟩ : ∃ q, q = bl (l.drop e2) := ⟨_, rfl⟩
      obtain ⟨e3, he3⟩ : ∃ q, q = e2 + Bl := ⟨_, rfl⟩
      rw [hnp] at hyes
      simp only [List.drop_drop] at hyes
      rw [← he2, endP_at, ← hBl, ← he3] at hyes
      rw [← hBl] at hbl
      have i4 : (e2 : Int) + (Bl : Int) = (e3 : Int) := by omega
      have cb := fun w => blanks_any l e2 hl (by omega) w
      rw [← hBl] at cb
      have cg := fun w => has_any l [62] e3 hl (by decide) (by decide) (by omega) w
      rw [show toB [62] = ⟨#[62]⟩ from rfl] at cg
      have hN0i : ((N : Int) == 0) = false := by rw [beq_eq_false_iff_ne]; omega
      have hN0p : ¬((N : Int) = 0) := by omega
      have b1 : e3 ≤ 5000 := by omega
      have b2 : (0 : Int) ≤ (q2 : Int) := Int.natCast_nonneg _
      have b3 : (q2 : Int) ≤ (e2 : Int) := by omega
      have b4 : q2 ≤ e2 := by omega
      have b5 : e2 ≤ l.length := by omega
      have b6 : (e2 : Int) ≤ (l.length : Int) := by omega
      cases hG : List.isPrefixOf [62] (l.drop e3) with
      | false =>
        rw [hG] at cg
        rw [if_neg (by rw [hG]; decide)] at hyes
        have HC : Hid (ClP l o 0 [] 0) := .inl ⟨rfl, hyes⟩
        clear hyes hS hN hq2 he2 he3 hBl hnp hN0 hG
        generalize toB l = s at *
        go_enter Tryz.func55, Tryz.ntmps55
        go_wp2_with (first
          | (go_at_call 58; (with_reducible refine (cn _).mono ?_); rintro e w1 ⟨rfl, rfl⟩)
          | (go_at_call 90; (with_reducible refine (cb _).mono ?_); rintro e w1 ⟨rfl, rfl⟩)
          | (go_at_call 62; (with_reducible refine (cs _).mono ?_); rintro e w1 ⟨rfl, rfl⟩)
          | (go_at_call 62; (with_reducible refine (cg _).mono ?_); rintro e w1 ⟨rfl, rfl⟩))
        exact bodyPost_ret (v := .tuple #[.agg #[.int .i64 0, .string ⟨#[]⟩, .string ⟨#[]⟩, .slice none 0 0], .int .i64 0]) (by simp [results, Tryz.results55, go_sem]) rfl ⟨⟨0, [], 0, rfl, HC⟩, hB0⟩
      | true =>
        rw [hG] at cg
        rw [if_pos hG] at hyes
        have h3 := has_len hG (by decide)
        simp only [List.length_cons, List.length_nil] at h3
        obtain ⟨P, hP⟩ : ∃ q, q = e3 + 1 := ⟨_, rfl⟩
        rw [show e3 + 1 = P from hP.symm] at hyes
        have i5 : (e3 : Int) + 1 = (P : Int) := by omega
        have hext := ext_toB l q2 N
        rw [← he2] at hext
        have cl := fun w => lower_any ((l.drop q2).take N) (by rw [List.length_take]; omega) w
        have HC : Hid (ClP l o 2 (lowL ((l.drop q2).take N)) P) := .inr ⟨by omega, by omega, rfl, hyes⟩
        have b7 : P ≤ 5000 := by omega
        generalize (l.drop q2).take N = nn at *
        obtain ⟨lo, hlo⟩ : ∃ lo, lo = toB (lowL nn) := ⟨_, rfl⟩
        rw [← hlo] at cl
        have HLO := Lib.hid hlo
        generalize toB nn = tn at *
        clear hyes hS hN hq2 he2 he3 hBl hnp hN0 hG h3 hlo hP
        generalize toB l = s at *
        go_enter Tryz.func55, Tryz.ntmps55
        go_wp2_with (first
          | (go_at_call 58; (with_reducible refine (cn _).mono ?_); rintro e w1 ⟨rfl, rfl⟩)
          | (go_at_call 90; (with_reducible refine (cb _).mono ?_); rintro e w1 ⟨rfl, rfl⟩)
          | (go_at_call 62; (with_reducible refine (cs _).mono ?_); rintro e w1 ⟨rfl, rfl⟩)
          | (go_at_call 62; (with_reducible refine (cg _).mono ?_); rintro e w1 ⟨rfl, rfl⟩)
          | (go_at_call 59; (with_reducible refine (cl _).mono ?_); rintro e w2 ⟨rfl, hb2⟩
             have K2 := (Blk.new w 42 #[.int .i64 0, .string ⟨#[]⟩, .string ⟨#[]⟩, .slice none 0 0]).next hb2
             have z2 := K2.lt
             obtain ⟨x0, x1, x2, x3⟩ := blk4 K2
             have y0 := K2.frozen 0
             have y1 := K2.frozen 1
             have y2 := K2.frozen 2
             have y3 := K2.frozen 3
             have hB2 := below_next hB0 hb2))
        refine bodyPost_ret (v := .tuple #[.agg #[.int .i64 2, .string lo, .string ⟨#[]⟩, .slice none 0 0], .int .i64 P]) (by simp [results, Tryz.results55, go_sem, x0, x1, x2, x3]) rfl ⟨⟨2, lowL nn, P, by rw [HLO.out], HC⟩, ?_⟩
        exact (((hB2.setCell (Nat.le_refl _) _).setCell (Nat.le_refl _) _).setCell (Nat.le_refl _) _).setCell (Nat.le_refl _) _
end Rt
end Go.Proofs.YteopighhhcikcaaGreatDoor
namespace Go.Proofs.YteopighhhcikcaaGreatDoor
namespace Rt
open Tok Rep
/-- What is behind the attributes' end, with them. -/
def finP (ats : List At) (D : List UInt8) : Option (List At × List UInt8) := match endP (attrsP ats D).2 with
  | none => none
  | some b => some ((attrsP ats D).1, b)
theorem openP_fin (t : List UInt8) : openP (60 :: t) = match nameP t with
    | none => none
    | some (n, r) => match finP [] r with
      | none => none
      | some (ats, b) => some (⟨1, n, [], ats⟩, b) := by
  unfold openP
  simp only
  cases hn : nameP t with
  | none => rfl
  | some x =>
    obtain ⟨n, r⟩ := x
    simp only
    unfold finP
    cases he : endP (attrsP [] r).2 with
    | none => rfl
    | some b => rfl
theorem fin_stop {ats : List At} {D : List UInt8} (h : attrP D = none) : finP ats D = match endP D with
    | none => none
    | some b => some (ats, b) := by
  unfold finP
  rw [attrsP_none h]
theorem fin_step {ats : List At} {D r : List UInt8} {a : At} (h : attrP D = some (a, r)) : finP ats D = finP (addA ats a) r := by
  unfold finP
  rw [attrsP_some h]
theorem attr_none {D : List UInt8} (h : bl D = 0 ∨ nameP (D.drop (bl D)) = none) : attrP D = none := by
  unfold attrP
  by_cases h0 : bl D = 0
  · rw [if_pos h0]
  · rw [if_neg h0]
    rcases h with h | h
    · exact absurd h h0
    · rw [h]
theorem attr_some {D n r : List UInt8} (h0 : bl D ≠ 0) (h : nameP (D.drop (bl D)) = some (n, r)) : attrP D = some ((n, (valP r).1), (valP r).2) := by
  unfold attrP
  rw [if_neg h0, h]
/-- The end stands there. -/
theorem fin_end {l : List UInt8} {ats : List At} {a e : Nat} (he : e = a + bl (l.drop a)) (h : List.isPrefixOf [62] (l.drop e) = true) : finP ats (l.drop a) = some (ats, l.drop (e + 1)) := by
  have hd : (l.drop a).drop (bl (l.drop a)) = l.drop e := by rw [List.drop_drop, he]
  have hn : nameP ((l.drop a).drop (bl (l.drop a))) = none := by
    rw [hd]
    obtain ⟨r, hr⟩ := List.isPrefixOf_iff_prefix.1 h
    rw [← hr]
    exact nameP_zero (by show (if 20 < nm (62 :: r) then 0 else nm (62 :: r)) = 0; rw [nm_no r (by decide)]; rfl)
  rw [fin_stop (attr_none (.inr hn)), endP_at, ← he, if_pos h]
/-- No end, and no attribute: none. -/
theorem fin_bad {l : List UInt8} {ats : List At} {a e : Nat} (he : e = a + bl (l.drop a)) (h : List.isPrefixOf [62] (l.drop e) = false) (h2 : bl (l.drop a) = 0 ∨ nameP (l.drop e) = none) : finP ats (l.drop a) = none := by
  have hd : (l.drop a).drop (bl (l.drop a)) = l.drop e := by rw [List.drop_drop, he]
  rw [fin_stop (attr_none (by rw [hd]; exact h2)), endP_at, ← he, if_neg (by rw [h]; decide)]
/-- A sign of equality that begins no value: none. -/
theorem fin_eq {l : List UInt8} {ats : List At} {a : Nat} (h : List.isPrefixOf [61] (l.drop a) = true) : finP ats (l.drop a) = none := by
  obtain ⟨r, hr⟩ := List.isPrefixOf_iff_prefix.1 h
  have hb : bl (l.drop a) = 0 := by rw [← hr]; rfl
  refine fin_bad (e := a) (by rw [hb, Nat.add_zero]) ?_ (.inl hb)
  rw [← hr]
  rfl
theorem val_plain {r : List UInt8} (h : List.isPrefixOf [61, 34] r = false) : valP r = ([], r) := by
  unfold valP
  split
  · simp [List.isPrefixOf] at h
  · rfl
theorem val_open {l : List UInt8} {a : Nat} (h : List.isPrefixOf [61, 34] (l.drop a) = true) : valP (l.drop a) = if 34 ∈ l.drop (a + 2) then (tellL ((l.drop (a + 2)).takeWhile (· != 34)), (l.drop (a + 2)).drop (((l.drop (a + 2)).takeWhile (· != 34)).length + 1)) else ([], l.drop a) := by
  obtain ⟨r, hr⟩ := List.isPrefixOf_iff_prefix.1 h
  have e : l.drop (a + 2) = r := by rw [← List.drop_drop, ← hr]; rfl
  rw [← hr, e]
  rfl
/-- Where the quote is that ends a value. -/
theorem quote_at {q : List UInt8} {k : Nat} (h1 : ∀ (j : Nat) (c : UInt8), j < k → q[j]? = some c → c ≠ 34) (h2 : q[k]? = some 34) : 34 ∈ q ∧ (q.takeWhile (· != 34)) = q.take k := by
  refine ⟨List.mem_of_getElem? h2, ?_⟩
  induction q generalizing k with
  | nil => simp at h2
  | cons c t ih =>
    cases k with
    | zero =>
      obtain rfl : c = 34 := by simpa using h2
      rfl
    | succ k =>
      have hc : c ≠ 34 := h1 0 c (by omega) rfl
      have e := ih (k := k) (fun j d hj hd => h1 (j + 1) d (by omega) (by simpa using hd)) (by simpa using h2)
      rw [List.takeWhile_cons, if_pos (by simpa using hc), List.take_succ_cons, e]
theorem quote_no {q : List UInt8} (h1 : ∀ (j : Nat) (c : UInt8), j < q.length → q[j]? = some c → c ≠ 34) : ¬ 34 ∈ q := by
  intro h
  obtain ⟨j, hj⟩ := List.getElem?_of_mem h
  exact h1 j 34 (List.getElem?_eq_some_iff.1 hj).1 hj rfl
theorem addA_is {ats : List At} {a : At} (h : ats.any (fun b => b.1 == a.1) = true) : addA ats a = ats := by unfold addA; rw [if_pos h]
theorem addA_not {ats : List At} {a : At} (h : ats.any (fun b => b.1 == a.1) = false) : addA ats a = ats ++ [a] := by unfold addA; rw [if_neg (by rw [h]; decide)]
end Rt
end Go.Proofs.YteopighhhcikcaaGreatDoor
