/- The document's own answers of layer 8: Print. Conditions: none. -/
import Derived.Test.YtcacabpcobmgoaaGreatDoorRx8E
import Derived.Test.YtcacabpcobmgoaaGreatDoorValPn
import Derived.Test.YtcacabpcobmgoaaGreatDoorRx8I
/- The document's own answers of layer 8: text. Conditions: the number is small. -/
namespace Go.Proofs.YtcacabpcobmgoaaGreatDoor
open Go.ChangeShapes Go.WideShapes Go.ChangeAt Go.RowKit
namespace Val
set_option maxHeartbeats 8000000 in
theorem rtext_one (n : Nat) (h : n < 10) (w : World) : Calls Tryz.prog 58 #[.int .i64 n] w fun e w' => e = .returned (.string (toB (Lib.decDigits n))) ∧ w = w' := by
  rw [dec_lt h]
  have hn : n = 0 ∨ n = 1 ∨ n = 2 ∨ n = 3 ∨ n = 4 ∨ n = 5 ∨ n = 6 ∨ n = 7 ∨ n = 8 ∨ n = 9 := by omega
  rcases hn with rfl | rfl | rfl | rfl | rfl | rfl | rfl | rfl | rfl | rfl
  all_goals
    go_enter Tryz.func58, Tryz.ntmps58
    go_wp2
    go_ret
    exact ⟨rfl, rfl⟩
set_option maxHeartbeats 8000000 in
theorem rtext_any : ∀ (f n : Nat), n < 10 ^ f → n < 1000000000 → ∀ w, Calls Tryz.prog 58 #[.int .i64 n] w fun e w' => e = .returned (.string (toB (Lib.decDigits n))) ∧ w = w' := by
  intro f
  induction f with
  | zero => intro n h _ w; exact rtext_one n (by omega) w
  | succ f ih =>
    intro n h h9 w
    by_cases hl : n < 10
    · exact rtext_one n hl w
    · have c1 := fun w => ih (n / 10) (by rw [Nat.div_lt_iff_lt_mul (by omega), ← Nat.pow_succ]; exact h) (by omega) w
      have c2 := fun w => rtext_one (n % 10) (Nat.mod_lt _ (by omega)) w
      rw [dec_lt (Nat.mod_lt _ (by omega)), show ((n % 10 : Nat) : Int) = (n : Int) % 10 by omega] at c2
      rw [show ((n / 10 : Nat) : Int) = (n : Int) / 10 by omega] at c1
      have e : toB (Lib.decDigits n) = toB (Lib.decDigits (n / 10)) ++ toB [UInt8.ofNat (48 + n % 10)] := by rw [toB_cat, ← dec_ge (by omega)]
      have z1 := dec_len9 (n := n / 10) (by omega)
      rw [← toB_size] at z1
      have z2 : (toB [UInt8.ofNat (48 + n % 10)]).size = 1 := by rw [toB_size]; rfl
      rw [e]
      have n0 : (0 : Int) ≤ (n : Int) := Int.natCast_nonneg _
      have n1 : (n : Int) < 1000000000 := by omega
      have n2 : ¬ (n : Int) < 10 := by omega
      clear e ih h hl
      generalize toB (Lib.decDigits (n / 10)) = a at *
      generalize toB [UInt8.ofNat (48 + n % 10)] = b at *
      go_enter Tryz.func58, Tryz.ntmps58
      go_wp2_with (first
        | (go_at_call 58; (with_reducible refine (c1 _).mono ?_); rintro e w1 ⟨rfl, rfl⟩)
        | (go_at_call 58; (with_reducible refine (c2 _).mono ?_); rintro e w2 ⟨rfl, rfl⟩))
      go_ret
      exact ⟨rfl, rfl⟩
end Val
end Go.Proofs.YtcacabpcobmgoaaGreatDoor
/- The document's own answers of layer 8: decimal. Conditions: the number lies in a value's bounds. -/
namespace Go.Proofs.YtcacabpcobmgoaaGreatDoor
open Go.ChangeShapes Go.WideShapes Go.ChangeAt Go.RowKit
namespace Val
def szV (v : Value) : Nat := match v with
  | .string t => t.size
  | _ => 0
def tailF : Nat → Nat → List UInt8
  | 0, _ => []
  | f + 1, r => if r = 0 then [] else UInt8.ofNat (48 + 10 * r / 64) :: tailF f (10 * r % 64)
theorem tail_zero (f : Nat) : tailF f 0 = [] := by cases f <;> rfl
theorem fracs_tail : ∀ r : Fin 64, fracs r.val = if r.val = 0 then [] else 46 :: tailF 6 r.val := by decide +kernel
set_option maxHeartbeats 8000000 in
theorem rdecU_any (m : Nat) (hm : m ≤ 63999999999) (w : World) : Calls Tryz.prog 37 #[.int .i64 m] w fun e w' => e = .returned (.string (toB (decU m))) ∧ w = w' := by
  obtain ⟨a, ha⟩ : ∃ a, a = m / 64 := ⟨_, rfl⟩
  obtain ⟨r, hr⟩ : ∃ r, r = m % 64 := ⟨_, rfl⟩
  have hr64 : r < 64 := by omega
  have ha9 : a < 1000000000 := by omega
  have cA := fun w => rtext_any 9 a (by omega) ha9 w
  have hA := dec_len9 ha9
  have hR : decU m = Lib.decDigits a ++ (if r = 0 then [] else 46 :: tailF 6 r) := by
    unfold decU
    rw [← ha, ← hr, fracs_tail ⟨r, hr64⟩]
  rw [hR]
  clear hR
  have q1 : (m : Int) / 64 = (a : Int) := by omega
  have q2 : (m : Int) % 64 = (r : Int) := by omega
  have n0 : (0 : Int) ≤ (m : Int) := Int.natCast_nonneg _
  have n1 : ¬ (m : Int) < 0 := by omega
  have n2 : (m : Int) ≤ 63999999999 := by omega
  have r0 : (0 : Int) ≤ (r : Int) := Int.natCast_nonneg _
  have r1 : (r : Int) < 64 := by omega
  obtain ⟨A, hAe⟩ : ∃ A, A = Lib.decDigits a := ⟨_, rfl⟩
  rw [← hAe] at cA hA ⊢
  clear ha hr hAe
  have hAs : (toB A).size ≤ 9 := by rw [toB_size]; exact hA
  by_cases hz : r = 0
  · subst hz
    rw [if_pos rfl, List.append_nil]
    clear hA
    generalize toB A = t at *
    go_enter Tryz.func37, Tryz.ntmps37
    go_wp2_with (go_at_call 58; (with_reducible refine (cA _).mono ?_); rintro e w1 ⟨rfl, rfl⟩)
    refine wp_loop_rounds 1 ?_
    rw [rounds_succ]
    go_wp2
    go_ret
    exact ⟨rfl, rfl⟩
  · rw [if_neg hz]
    have rp : (0 : Int) < (r : Int) := by omega
    obtain ⟨R, hR⟩ : ∃ R, R = A ++ 46 :: tailF 6 r := ⟨_, rfl⟩
    have HR : Hid (R = (A ++ [46]) ++ tailF 6 r) := by show R = _; rw [hR]; simp
    rw [← hR]
    have hcat : toB A ++ ⟨#[46]⟩ = toB (A ++ [46]) := toB_cat A [46]
    have H6 : Hid (10 ^ 6 * r % 64 = 0) := by show 10 ^ 6 * r % 64 = 0; omega
    have hl : (A ++ [46]).length + 6 ≤ 16 := by simp; omega
    clear hR hA
    generalize A ++ [46] = A1 at *
    generalize toB A = t at *
    go_enter Tryz.func37, Tryz.ntmps37
    go_wp2_with (go_at_call 58; (with_reducible refine (cA _).mono ?_); rintro e w1 ⟨rfl, rfl⟩)
    rw [show decide (0 < r) = true from decide_eq_true (by omega)]
    have Q2 := Lib.hid q2
    clear q2 rp hz r0 r1
    go_loop [3, 4] (fun s q => ∃ (f x : Nat) (acc : List UInt8), s = .string (toB acc) ∧ q = .int .i64 x ∧ x < 64 ∧ f ≤ 6 ∧ acc.length + f ≤ 16 ∧ Hid (10 ^ f * x % 64 = 0) ∧ Hid (R = acc ++ tailF f x)) (fun s _ => 17 - szV s)
    case atStart => exact ⟨6, r, A1, by first | rfl | (rw [hcat]), by first | rfl | (rw [Q2.out]), hr64, Nat.le_refl _, hl, H6, HR⟩
    case round =>
      obtain ⟨f, x, acc, rfl, rfl, hx, hf, hla, H, HA⟩ := hrel
      have x0 : (0 : Int) ≤ (x : Int) := Int.natCast_nonneg _
      have x1 : (x : Int) < 64 := by omega
      have has : (toB acc).size ≤ 16 := by rw [toB_size]; omega
      by_cases hx0 : x = 0
      · subst hx0
        have hRe : R = acc := by rw [HA.out, tail_zero, List.append_nil]
        subst hRe
        clear H HA HR H6 cA
        go_wp2
        go_ret
        exact ⟨rfl, rfl⟩
      · obtain ⟨g, rfl⟩ : ∃ g, f = g + 1 := by
          cases f with
          | zero => exfalso; have := H.out; omega
          | succ g => exact ⟨g, rfl⟩
        have xp : (0 : Int) < (x : Int) := by omega
        have c2 := fun w => rtext_one (10 * x / 64) (by omega) w
        rw [dec_lt (by omega), show ((10 * x / 64 : Nat) : Int) = 10 * (x : Int) / 64 by omega] at c2
        have hcat2 : toB acc ++ toB [UInt8.ofNat (48 + 10 * x / 64)] = toB (acc ++ [UInt8.ofNat (48 + 10 * x / 64)]) := toB_cat _ _
        have z2 : (toB [UInt8.ofNat (48 + 10 * x / 64)]).size = 1 := by rw [toB_size]; rfl
        have H1 : Hid (10 ^ g * (10 * x % 64) % 64 = 0) := by
          show 10 ^ g * (10 * x % 64) % 64 = 0
          have := H.out
          rw [Nat.mul_mod, Nat.mod_mod, ← Nat.mul_mod, ← Nat.mul_assoc, ← Nat.pow_succ]
          exact this
        have HA1 : Hid (R = (acc ++ [UInt8.ofNat (48 + 10 * x / 64)]) ++ tailF g (10 * x % 64)) := by
          show R = _
          rw [HA.out, tailF, if_neg hx0, List.append_assoc]
          rfl
        have hla2 : (acc ++ [UInt8.ofNat (48 + 10 * x / 64)]).length + g ≤ 16 := by simp; omega
        have hsz : (toB (acc ++ [UInt8.ofNat (48 + 10 * x / 64)])).size = (toB acc).size + 1 := by rw [toB_size, toB_size]; simp
        have HC := Lib.hid hcat2
        clear H HA HR H6 cA hcat2
        generalize acc ++ [UInt8.ofNat (48 + 10 * x / 64)] = acc2 at *
        generalize toB [UInt8.ofNat (48 + 10 * x / 64)] = d at *
        go_wp2_with (go_at_call 58; (with_reducible refine (c2 _).mono ?_); rintro e w1 ⟨rfl, rfl⟩)
        go_round
        case rel => exact ⟨g, 10 * x % 64, acc2, by rw [HC.out], by go_num, Nat.mod_lt _ (by omega), by omega, hla2, H1, HA1⟩
        case measure => simp only [szV, HC.out, hsz]; omega
theorem fracs_len : ∀ r : Fin 64, (fracs r.val).length ≤ 7 := by decide +kernel
set_option maxHeartbeats 8000000 in
theorem rdecimal_any (n : Int) (h1 : -63999999999 ≤ n) (h2 : n ≤ 63999999999) (w : World) : Calls Tryz.prog 37 #[.int .i64 n] w fun e w' => e = .returned (.string (toB (decL n))) ∧ w = w' := by
  by_cases hn : n < 0
  · obtain ⟨m, rfl⟩ : ∃ m : Nat, n = -(m : Int) := ⟨n.natAbs, by omega⟩
    have e : decL (-(m : Int)) = 45 :: decU m := by unfold decL; rw [if_pos hn, Int.natAbs_neg, Int.natAbs_natCast]
    have e2 : toB (45 :: decU m) = ⟨#[45]⟩ ++ toB (decU m) := (toB_cat [45] (decU m)).symm
    rw [e, e2]
    have c := fun w => rdecU_any m (by omega) w
    have z : (toB (decU m)).size ≤ 16 := by
      rw [toB_size]
      unfold decU
      rw [List.length_append]
      have := dec_len9 (n := m / 64) (by omega)
      have := fracs_len ⟨m % 64, Nat.mod_lt _ (by omega)⟩
      simp only at this
      omega
    clear e e2
    generalize toB (decU m) = t at *
    go_enter Tryz.func37, Tryz.ntmps37
    go_wp2_with (go_at_call 37; (with_reducible refine (c _).mono ?_); rintro e w1 ⟨rfl, rfl⟩)
    go_ret
    exact ⟨rfl, rfl⟩
  · obtain ⟨m, rfl⟩ : ∃ m : Nat, n = (m : Int) := ⟨n.toNat, by omega⟩
    have e : decL (m : Int) = decU m := by unfold decL; rw [if_neg hn, Int.toNat_natCast]
    rw [e]
    exact rdecU_any m (by omega) w
end Val
end Go.Proofs.YtcacabpcobmgoaaGreatDoor
namespace Go.Proofs.YtcacabpcobmgoaaGreatDoor
open Go.ChangeShapes Go.WideShapes Go.ChangeAt Go.RowKit
namespace Val
def hexR : Nat → Nat → List UInt8
  | 0, _ => []
  | f + 1, n => hexR f (n / 16) ++ [hexC (n % 16)]
theorem hex6_R (n : Nat) : hex6 n = hexR 6 n := by
  have e : hex6 n = [hexC (n / 1048576 % 16), hexC (n / 65536 % 16), hexC (n / 4096 % 16), hexC (n / 256 % 16), hexC (n / 16 % 16), hexC (n / 1 % 16)] := rfl
  rw [e]
  simp only [hexR, List.nil_append, List.cons_append, Nat.div_div_eq_div_mul, Nat.div_one]
set_option maxRecDepth 100000 in
theorem hexcut (d : Nat) (hd : d < 16) (w : World) : (Instr.slice 9 (.string ⟨#[48, 49, 50, 51, 52, 53, 54, 55, 56, 57, 97, 98, 99, 100, 101, 102]⟩) (some (.int .i64 d)) (some (.int .i64 ((d : Int) + 1))) none).run Tryz.prog w = .ok (.string (toB [hexC d])) w := by
  match d, hd with
  | 0, _ => rfl
  | 1, _ => rfl
  | 2, _ => rfl
  | 3, _ => rfl
  | 4, _ => rfl
  | 5, _ => rfl
  | 6, _ => rfl
  | 7, _ => rfl
  | 8, _ => rfl
  | 9, _ => rfl
  | 10, _ => rfl
  | 11, _ => rfl
  | 12, _ => rfl
  | 13, _ => rfl
  | 14, _ => rfl
  | 15, _ => rfl
  | n + 16, h => exact absurd h (by omega)
set_option maxHeartbeats 8000000 in
set_option maxRecDepth 100000 in
theorem rprint_color (p : Int) (n : Nat) (hm : mayP p 4 n = true) (hn : n < 16777216) (w : World) : Calls Tryz.prog 17 #[.int .i64 p, vV 4 n] w fun e w' => e = .returned (.string (toB (35 :: hex6 n))) ∧ Below w.heap.size w w' := by
  have hB := below_al (Below.refl w.heap.size w) (.cells #[.int .i64 4, .int .i64 (n : Int)] 23)
  have Kv := Blk.new w 23 #[.int .i64 4, .int .i64 (n : Int)]
  have c1 := fun w => rmay_any p 4 n w
  rw [hm] at c1
  unfold vV at *
  obtain ⟨R, hR⟩ : ∃ R, R = toB (35 :: hex6 n) := ⟨_, rfl⟩
  rw [← hR]
  have HR : Hid (R = toB (35 :: (hexR 6 n ++ []))) := by show R = _; rw [hR, hex6_R, List.append_nil]
  clear hR hm
  have n0 : (0 : Int) ≤ (n : Int) := Int.natCast_nonneg _
  go_enter Tryz.func17, Tryz.ntmps17
  go_wp2_with (first
    | (go_at_call 15; (with_reducible refine (c1 _).mono ?_); rintro e w1 ⟨rfl, hb⟩
       have hB1 := below_next hB hb
       have K1 := Kv.next hb
       obtain ⟨v0, v1⟩ := blk2 K1))
  go_loop [5, 6, 7] (fun s m i => ∃ (k x : Nat) (acc : List UInt8), k ≤ 6 ∧ i = .int .i64 k ∧ m = .int .i64 x ∧ s = .string (toB acc) ∧ acc.length ≤ k ∧ x < 16777216 ∧ Hid (R = toB (35 :: (hexR (6 - k) x ++ acc)))) (fun _ _ i => 6 - (intOf i).toNat)
  case atStart => exact ⟨0, n, [], by omega, rfl, rfl, rfl, Nat.le_refl _, hn, HR⟩
  case round =>
    obtain ⟨k, x, acc, hk, rfl, rfl, rfl, hl, hx, HA⟩ := hrel
    by_cases hlt : k < 6
    · obtain ⟨D, hD⟩ : ∃ D, D = x % 16 := ⟨_, rfl⟩
      obtain ⟨Y, hY⟩ : ∃ Y, Y = x / 16 := ⟨_, rfl⟩
      have hD16 : D < 16 := by omega
      have q1 : (x : Int) % 16 = (D : Int) := by omega
      have q2 : (x : Int) / 16 = (Y : Int) := by omega
      have hcut := fun w => hexcut D hD16 w
      have hcat : toB [hexC D] ++ toB acc = toB ([hexC D] ++ acc) := toB_cat _ _
      have z1 : (toB [hexC D]).size = 1 := by rw [toB_size]; rfl
      have z2 : (toB acc).size ≤ 6 := by rw [toB_size]; omega
      have HA2 : Hid (R = toB (35 :: (hexR (6 - (k + 1)) Y ++ ([hexC D] ++ acc)))) := by
        show R = _
        rw [HA.out, show 6 - k = (6 - (k + 1)) + 1 by omega, hexR, ← hD, ← hY, List.append_assoc]
      have x0 : (0 : Int) ≤ (x : Int) := Int.natCast_nonneg _
      have D0 : (0 : Int) ≤ (D : Int) := Int.natCast_nonneg _
      have D1 : (D : Int) < 16 := by omega
      have HC := Lib.hid hcat
      have hl2 : ([hexC D] ++ acc).length ≤ k + 1 := by simp; omega
      have HL := Lib.hid hl2
      clear hl2
      have hY2 : Y < 16777216 := by omega
      clear HA HR hD hY hcat
      generalize [hexC D] ++ acc = acc2 at *
      go_wp2
      go_round
      case rel => exact ⟨k + 1, Y, acc2, by omega, by go_num, rfl, by rw [HC.out], HL.out, hY2, HA2⟩
      case measure => simp [intOf]; omega
    · obtain rfl : k = 6 := by omega
      have hRe : R = toB (35 :: acc) := by rw [HA.out]; rfl
      have hcat : (⟨#[35]⟩ : ByteArray) ++ toB acc = toB (35 :: acc) := toB_cat [35] acc
      rw [← hcat] at hRe
      subst hRe
      have z2 : (toB acc).size ≤ 6 := by rw [toB_size]; omega
      clear HA HR hcat
      go_wp2
      go_ret
      exact ⟨rfl, hB1⟩
theorem may_range {p k n : Int} (h : mayP p k n = true) : 1 ≤ k ∧ k ≤ 6 := by
  have hh : hasP p k = true := by unfold mayP at h; rw [Bool.and_eq_true] at h; exact h.1
  rcases kind_has hh with rfl | rfl | rfl | rfl | rfl | rfl <;> omega
theorem decL_small {n : Int} (h1 : -63999999999 ≤ n) (h2 : n ≤ 63999999999) : (toB (decL n)).size ≤ 17 := by
  rw [toB_size]
  have hu : ∀ m : Nat, m ≤ 63999999999 → (decU m).length ≤ 16 := by
    intro m hm
    unfold decU
    rw [List.length_append]
    have := dec_len9 (n := m / 64) (by omega)
    have := fracs_len ⟨m % 64, Nat.mod_lt _ (by omega)⟩
    simp only at this
    omega
  unfold decL
  split
  · rw [List.length_cons]; have := hu n.natAbs (by omega); omega
  · have := hu n.toNat (by omega); omega
set_option maxHeartbeats 8000000 in
set_option maxRecDepth 100000 in
theorem rprint_any (p k n : Int) (w : World) : Calls Tryz.prog 17 #[.int .i64 p, vV k n] w fun e w' => e = .returned (.string (toB (printP p k n))) ∧ Below w.heap.size w w' := by
  have hB := below_al (Below.refl w.heap.size w) (.cells #[.int .i64 k, .int .i64 n] 23)
  have Kv := Blk.new w 23 #[.int .i64 k, .int .i64 n]
  obtain ⟨u0, u1⟩ := blk2 Kv
  have c1 := fun w => rmay_any p k n w
  cases hm : mayP p k n with
  | false =>
    rw [hm] at c1
    have e : printP p k n = [] := by unfold printP; rw [hm, if_neg (by decide)]
    rw [e]
    unfold vV at *
    clear e hm
    go_enter Tryz.func17, Tryz.ntmps17
    go_wp2_with (first
      | (go_at_call 15; (with_reducible refine (c1 _).mono ?_); rintro e w1 ⟨rfl, hb⟩
         have hB1 := below_next hB hb))
    go_ret
    exact ⟨rfl, hB1⟩
  | true =>
    have e : printP p k n = textP p k n := by unfold printP; rw [hm, if_pos rfl]
    rw [e]
    obtain ⟨k1, k6⟩ := may_range hm
    rcases (by omega : k = 1 ∨ k = 2 ∨ k = 3 ∨ k = 4 ∨ k = 5 ∨ k = 6) with rfl | rfl | rfl | rfl | rfl | rfl
    · rw [hm] at c1
      rw [show textP p 1 n = [97, 117, 116, 111] from rfl]
      unfold vV at *
      clear e hm k1 k6
      go_enter Tryz.func17, Tryz.ntmps17
      go_wp2_with (first
        | (go_at_call 15; (with_reducible refine (c1 _).mono ?_); rintro e w1 ⟨rfl, hb⟩
           have hB1 := below_next hB hb
           have K1 := Kv.next hb
           obtain ⟨v0, v1⟩ := blk2 K1))
      go_ret
      exact ⟨rfl, hB1⟩
    · obtain ⟨r1, r2⟩ := range_of hm (by omega)
      rw [hm] at c1
      have c2 := fun w => rdecimal_any n r1 r2 w
      have z := decL_small r1 r2
      have hc : toB (decL n) ++ ⟨#[112, 120]⟩ = toB (decL n ++ [112, 120]) := toB_cat _ [112, 120]
      rw [show textP p 2 n = decL n ++ [112, 120] from rfl, ← hc]
      unfold vV at *
      clear e hm k1 k6 hc
      generalize toB (decL n) = t at *
      go_enter Tryz.func17, Tryz.ntmps17
      go_wp2_with (first
        | (go_at_call 15; (with_reducible refine (c1 _).mono ?_); rintro e w1 ⟨rfl, hb⟩
           have hB1 := below_next hB hb
           have K1 := Kv.next hb
           obtain ⟨v0, v1⟩ := blk2 K1)
        | (go_at_call 37; (with_reducible refine (c2 _).mono ?_); rintro e w2 ⟨rfl, rfl⟩))
      go_ret
      exact ⟨rfl, hB1⟩
    · obtain ⟨r1, r2⟩ := range_of hm (by omega)
      rw [hm] at c1
      have c2 := fun w => rdecimal_any n r1 r2 w
      have z := decL_small r1 r2
      have hc : toB (decL n) ++ ⟨#[37]⟩ = toB (decL n ++ [37]) := toB_cat _ [37]
      rw [show textP p 3 n = decL n ++ [37] from rfl, ← hc]
      unfold vV at *
      clear e hm k1 k6 hc
      generalize toB (decL n) = t at *
      go_enter Tryz.func17, Tryz.ntmps17
      go_wp2_with (first
        | (go_at_call 15; (with_reducible refine (c1 _).mono ?_); rintro e w1 ⟨rfl, hb⟩
           have hB1 := below_next hB hb
           have K1 := Kv.next hb
           obtain ⟨v0, v1⟩ := blk2 K1)
        | (go_at_call 37; (with_reducible refine (c2 _).mono ?_); rintro e w2 ⟨rfl, rfl⟩))
      go_ret
      exact ⟨rfl, hB1⟩
    · have hn : 0 ≤ n ∧ n < 16777216 := by
        have h := hm
        unfold mayP at h
        rw [Bool.and_eq_true] at h
        exact of_decide_eq_true h.2
      obtain ⟨m, rfl⟩ : ∃ m : Nat, n = (m : Int) := ⟨n.toNat, by omega⟩
      have ht : textP p 4 (m : Int) = 35 :: hex6 m := rfl
      rw [ht]
      exact rprint_color p m hm (by omega) w
    · have hn : 0 ≤ n ∧ n < (wordsP p).length := by
        have h := hm
        unfold mayP at h
        rw [Bool.and_eq_true] at h
        exact of_decide_eq_true h.2
      obtain ⟨m, rfl⟩ : ∃ m : Nat, n = (m : Int) := ⟨n.toNat, by omega⟩
      have ht : textP p 5 (m : Int) = (wordsP p).getD m [] := rfl
      rw [ht]
      rw [hm] at c1
      have c2 := fun w => rwords_any p w
      have hlt : m < (wordsP p).length := by omega
      generalize wordsP p = ws at *
      have hx : (strs ws)[m]? = some (.string (toB (ws.getD m []))) := by
        unfold strs
        rw [List.getElem?_map, List.getElem?_eq_getElem hlt, List.getD_eq_getElem?_getD, List.getElem?_eq_getElem hlt]
        rfl
      have cw : ∀ w, Calls Tryz.prog 33 #[.int .i64 p] w fun e w' => ∃ ad c, e = .returned (.slice (some ad) ws.length c) ∧ (∀ W, Below w'.heap.size w' W → W.cell? (ad.add m) = some (.string (toB (ws.getD m [])))) ∧ Below w.heap.size w w' := by
        intro w
        refine (c2 w).mono ?_
        rintro e w1 ⟨A, q, c, rfl, hr, hb⟩
        obtain rfl : ws.length = q := by have h := hr.1; rw [show (strs ws).length = ws.length from by unfold strs; simp] at h; omega
        obtain ⟨ad, rfl, hab, hcc⟩ := hr.2 (by omega)
        refine ⟨ad, c, rfl, fun W hW => ?_, hb⟩
        rw [hW.cell (p := ad.add m) (by rw [block_of_add]; exact hab)]
        exact hcc m _ hx
      generalize toB (ws.getD m []) = t at *
      unfold vV at *
      clear e hm k1 k6 c2 hx ht
      go_enter Tryz.func17, Tryz.ntmps17
      go_upto_region 7 with (first
        | (go_at_call 15; (with_reducible refine (c1 _).mono ?_); rintro e w1 ⟨rfl, hb⟩
           have hB1 := below_next hB hb
           have K1 := Kv.next hb
           have z1 := K1.lt
           obtain ⟨v0, v1⟩ := blk2 K1))
      first
      | (go_region_with (first
          | (go_at_call 33; (with_reducible refine (cw _).mono ?_); rintro e w2 ⟨ad, c, rfl, hx2, hb2⟩
             have hB2 := below_next hB1.drew hb2
             have K2 := K1.drew.next hb2
             have x2 := hx2 _ (Below.refl _ _)
             obtain ⟨y0, y1⟩ := blk2 K2)))
      | (fail)
      all_goals
        go_wp2
        go_ret
        exact ⟨rfl, hB2⟩
    · obtain ⟨r1, r2⟩ := range_of hm (by omega)
      rw [hm] at c1
      have c2 := fun w => rdecimal_any n r1 r2 w
      rw [show textP p 6 n = decL n from rfl]
      unfold vV at *
      clear e hm k1 k6
      generalize toB (decL n) = t at *
      go_enter Tryz.func17, Tryz.ntmps17
      go_wp2_with (first
        | (go_at_call 15; (with_reducible refine (c1 _).mono ?_); rintro e w1 ⟨rfl, hb⟩
           have hB1 := below_next hB hb
           have K1 := Kv.next hb
           obtain ⟨v0, v1⟩ := blk2 K1)
        | (go_at_call 37; (with_reducible refine (c2 _).mono ?_); rintro e w2 ⟨rfl, rfl⟩))
      go_ret
      exact ⟨rfl, hB1⟩
end Val
end Go.Proofs.YtcacabpcobmgoaaGreatDoor
