/- What printNumber answers. Conditions: the number lies in a value's bounds; the tables are laid. -/
import Derived.Test.YtcacabpcobmgoaaGreatDoorValRd
import Derived.Test.YtcacabpcobmgoaaGreatDoorValPrintW
/- How numbers are written: noughts ahead, base 10; printNumber. Conditions: the tables are laid. -/
namespace Go.Proofs.YtcacabpcobmgoaaGreatDoor
open Go.ChangeShapes Go.WideShapes Go.ChangeAt Go.RowKit
namespace Val
theorem rep_48 : ∀ c : Nat, Lib.repeatL [48] c = List.replicate c 48
  | 0 => rfl
  | c + 1 => by rw [Lib.repeatL, rep_48 c]; rfl
/-- A number's digits with noughts ahead, by any base. -/
theorem pad_gen {b : Nat} (hb : 2 ≤ b) (D : Nat → UInt8) (T : Nat → List UInt8) (h1 : ∀ n, n < b → T n = [D n]) (h2 : ∀ n, b ≤ n → T n = T (n / b) ++ [D (n % b)]) :
    ∀ k n, n < b ^ (k + 1) → (List.range (k + 1)).map (fun i => D (n / b ^ (k - i) % b)) = List.replicate (k + 1 - (T n).length) (D 0) ++ T n ∧ 1 ≤ (T n).length ∧ (T n).length ≤ k + 1 := by
  intro k
  induction k with
  | zero =>
    intro n hn
    have hn' : n < b := by simpa using hn
    rw [h1 n hn']
    refine ⟨?_, by simp, by simp⟩
    simp [Nat.mod_eq_of_lt hn']
  | succ k ih =>
    intro n hn
    have hq : n / b < b ^ (k + 1) := by
      rw [Nat.div_lt_iff_lt_mul (by omega)]
      rwa [← Nat.pow_succ]
    obtain ⟨e, l1, l2⟩ := ih (n / b) hq
    have hm : (List.range (k + 1)).map (fun i => D (n / b ^ (k + 1 - i) % b)) = (List.range (k + 1)).map (fun i => D (n / b / b ^ (k - i) % b)) := by
      refine List.map_congr_left fun i hi => ?_
      have := List.mem_range.1 hi
      rw [show k + 1 - i = (k - i) + 1 by omega, Nat.div_div_eq_div_mul, Nat.pow_succ, Nat.mul_comm]
    rw [List.range_succ, List.map_append, hm, e]
    have hlast : ([k + 1] : List Nat).map (fun i => D (n / b ^ (k + 1 - i) % b)) = [D (n % b)] := by simp
    rw [hlast]
    by_cases hlt : n < b
    · have h0 : n / b = 0 := Nat.div_eq_of_lt hlt
      rw [h0, h1 0 (by omega), h1 n hlt, Nat.mod_eq_of_lt hlt]
      refine ⟨?_, by simp, by simp⟩
      have er : List.replicate (k + 1 + 1 - ([D n] : List UInt8).length) (D 0) = List.replicate (k + 1 - ([D 0] : List UInt8).length) (D 0) ++ [D 0] := by
        simp only [List.length_cons, List.length_nil]
        rw [← List.replicate_succ']
        rfl
      rw [er]
    · rw [h2 n (by omega)]
      simp only [List.length_append, List.length_cons, List.length_nil]
      refine ⟨?_, by omega, by omega⟩
      rw [show k + 1 + 1 - ((T (n / b)).length + (0 + 1)) = k + 1 - (T (n / b)).length by omega, List.append_assoc]
theorem dec_lt {n : Nat} (h : n < 10) : Lib.decDigits n = [UInt8.ofNat (48 + n)] := by rw [Lib.decDigits, dif_pos h]
theorem dec_ge {n : Nat} (h : 10 ≤ n) : Lib.decDigits n = Lib.decDigits (n / 10) ++ [UInt8.ofNat (48 + n % 10)] := by
  conv => lhs; rw [Lib.decDigits, dif_neg (by omega)]
theorem pad6_is {n : Nat} (h : n < 1000000) : pad6 n = List.replicate (6 - (Lib.decDigits n).length) 48 ++ Lib.decDigits n ∧ (Lib.decDigits n).length ≤ 6 := by
  obtain ⟨e, _, l⟩ := pad_gen (b := 10) (by omega) (fun d => UInt8.ofNat (48 + d)) Lib.decDigits (fun n h => dec_lt h) (fun n h => dec_ge h) 5 n h
  exact ⟨e, l⟩
theorem fmt10_any (n : Nat) (hn : n < 9223372036854775807) (w : World) (hT : Tabs w) : Calls Tryz.prog 55 #[.int .i64 n, .int .i64 10] w fun e w' => e = .returned (.string (toB (Lib.decDigits n))) ∧ Below w.heap.size w w' := by
  refine (Tryz.strconv_FormatInt_10 (n : Int) (by omega) (by omega) w hT.pow).mono ?_
  rintro e w' ⟨rfl, k, os, rfl⟩
  refine ⟨?_, Lib.below_grow _ _ (Nat.le_refl _) _ _⟩
  have : Lib.itoa (n : Int) = Lib.decDigits n := by unfold Lib.itoa; rw [if_neg (by omega)]; simp
  rw [this]
  rfl
set_option maxHeartbeats 4000000 in
theorem padded_any (n b : Int) (t : ByteArray) (ht : t.size ≤ 6) (cF : ∀ w, Tabs w → Calls Tryz.prog 55 #[.int .i64 n, .int .i64 b] w fun e w' => e = .returned (.string t) ∧ Below w.heap.size w w') (w : World) (hT : Tabs w) :
    Calls Tryz.prog 57 #[.int .i64 n, .int .i64 b, .int .i64 6] w fun e w' => e = .returned (.string (toB (List.replicate (6 - t.size) 48) ++ t)) ∧ Below w.heap.size w w' := by
  have cR : ∀ w, Calls Tryz.prog 78 #[.string ⟨#[48]⟩, .int .i64 (6 - (t.size : Int))] w fun e w' => e = .returned (.string (toB (List.replicate (6 - t.size) 48))) ∧ Below w.heap.size w w' := by
    intro w
    have e : (6 - (t.size : Int)) = ((6 - t.size : Nat) : Int) := by omega
    rw [e, ← rep_48]
    exact Tryz.strings_Repeat ⟨#[48]⟩ (6 - t.size) w (by omega) (by show 1 * (6 - t.size) ≤ _; omega)
  have hr : (toB (List.replicate (6 - t.size) 48)).size ≤ 6 := by rw [toB_size]; simp
  generalize toB (List.replicate (6 - t.size) 48) = r at *
  go_enter Tryz.func57, Tryz.ntmps57
  go_wp2_with (first
    | (go_at_call 55; (with_reducible refine (cF _ hT).mono ?_); rintro e w1 ⟨rfl, hb1⟩)
    | (go_at_call 78; (with_reducible refine (cR _).mono ?_); rintro e w2 ⟨rfl, hb2⟩
       have hB2 := below_next hb1 hb2))
  go_ret
  exact ⟨rfl, hB2⟩
end Val
end Go.Proofs.YtcacabpcobmgoaaGreatDoor
namespace Go.Proofs.YtcacabpcobmgoaaGreatDoor
open Go.ChangeShapes Go.WideShapes Go.ChangeAt Go.RowKit
namespace Val
theorem strip_is (l : List UInt8) : (⟨(Lib.trimRightB l 48).toArray⟩ : ByteArray) = toB (stripZ l) := rfl
theorem strip_len (l : List UInt8) : (stripZ l).length ≤ l.length := by
  unfold stripZ
  rw [List.length_reverse]
  exact Nat.le_trans (List.dropWhile_suffix _).length_le (by rw [List.length_reverse]; exact Nat.le_refl _)
theorem dec_len9 {n : Nat} (h : n < 1000000000) : (Lib.decDigits n).length ≤ 9 :=
  (pad_gen (b := 10) (by omega) (fun d => UInt8.ofNat (48 + d)) Lib.decDigits (fun _ h => dec_lt h) (fun _ h => dec_ge h) 8 n h).2.2
theorem pad_cat {n : Nat} (h : n < 1000000) : toB (List.replicate (6 - (toB (Lib.decDigits n)).size) 48) ++ toB (Lib.decDigits n) = toB (pad6 n) := by
  rw [toB_size, toB_cat, (pad6_is h).1]
theorem pad6_len (n : Nat) : (pad6 n).length = 6 := by unfold pad6; simp
set_option maxHeartbeats 8000000 in
theorem number_any : NumberC := by
  intro n w hlo hhi hT
  obtain ⟨R, hR⟩ : ∃ R, R = toB (decL n) := ⟨_, rfl⟩
  rw [← hR]
  obtain ⟨m, hm⟩ : ∃ m, m = n.natAbs := ⟨_, rfl⟩
  obtain ⟨a, ha⟩ : ∃ a, a = m / 64 := ⟨_, rfl⟩
  obtain ⟨r, hr⟩ : ∃ r, r = m % 64 := ⟨_, rfl⟩
  have hR2 : R = toB (if n < 0 then 45 :: (Lib.decDigits a ++ fracs r) else Lib.decDigits a ++ fracs r) := by
    rw [hR, ha, hr]
    unfold decL decU
    by_cases h : n < 0
    · rw [if_pos h, if_pos h, hm]
    · rw [if_neg h, if_neg h, hm, show n.natAbs = n.toNat by omega]
  have ha9 : a < 1000000000 := by omega
  have hr64 : r < 64 := by omega
  have cA := fun w hT => fmt10_any a (by omega) w hT
  have hA := dec_len9 ha9
  rw [← toB_size] at hA
  have cP := fun (w : World) hT => padded_any ((r : Int) * 15625) 10 (toB (Lib.decDigits (r * 15625))) (by rw [toB_size]; exact (pad6_is (by omega)).2) (fun w hT => by
    have := fmt10_any (r * 15625) (by omega) w hT
    rwa [show ((r * 15625 : Nat) : Int) = (r : Int) * 15625 by omega] at this) w hT
  rw [pad_cat (by omega)] at cP
  have cT := fun w => Tryz.strings_TrimRight_one (toB (pad6 (r * 15625))) 48 (by decide) w (by rw [toB_size, pad6_len]; omega)
  rw [show (toB (pad6 (r * 15625))).data.toList = pad6 (r * 15625) from rfl, strip_is] at cT
  have hS : (toB (stripZ (pad6 (r * 15625)))).size ≤ 6 := by rw [toB_size]; exact Nat.le_trans (strip_len _) (by rw [pad6_len]; exact Nat.le_refl _)
  have e1 : ∀ x : Int, x = (m : Int) → x / 64 = (a : Int) ∧ x % 64 = (r : Int) := by
    rintro x rfl
    rw [ha, hr]
    exact ⟨by omega, by omega⟩
  have hm2 : (n < 0 ∧ -n = (m : Int)) ∨ (0 ≤ n ∧ n = (m : Int)) := by omega
  have hmb : m ≤ 63999999999 := by omega
  have r0 : (0 : Int) ≤ (r : Int) := Int.natCast_nonneg _
  have r1 : (r : Int) < 64 := by omega
  have hcat1 : ∀ {D F : List UInt8}, toB ([45] ++ D ++ [46] ++ F) = toB (45 :: (D ++ 46 :: F)) := fun {D F} => by simp
  have hcat2 : ∀ {D F : List UInt8}, toB ([] ++ D ++ [46] ++ F) = toB (D ++ 46 :: F) := fun {D F} => by simp
  clear hm ha hr
  by_cases hz : r = 0
  · have hR3 : R = toB (if n < 0 then 45 :: Lib.decDigits a else Lib.decDigits a) := by
      rw [hR2, hz]
      unfold fracs
      rw [if_pos rfl, List.append_nil]
    subst hz
    rcases hm2 with ⟨hn, he⟩ | ⟨hn, he⟩
    · rw [if_pos hn] at hR3
      obtain ⟨q1, q2⟩ := e1 (-n) he
      obtain rfl : n = -(m : Int) := by omega
      rw [he] at q1 q2
      have hR4 : R = ⟨#[45]⟩ ++ toB (Lib.decDigits a) := by rw [hR3]; exact (toB_cat [45] _).symm
      have HR := Lib.hid hR4
      clear hR hR2 hR3 hR4 cP cT hS hcat1 hcat2 e1 he
      generalize toB (Lib.decDigits a) = A at *
      go_enter Tryz.func35, Tryz.ntmps35
      go_wp2_with (first
        | (go_at_call 55; (with_reducible refine (cA _ hT).mono ?_); rintro e w1 ⟨rfl, hb1⟩))
      go_ret
      exact ⟨by rw [HR.out]; rfl, hb1⟩
    · rw [if_neg (by omega)] at hR3
      obtain ⟨q1, q2⟩ := e1 n he
      obtain rfl : n = (m : Int) := he
      have hR4 : R = ⟨#[]⟩ ++ toB (Lib.decDigits a) := by rw [hR3]; exact (toB_cat [] _).symm
      have HR := Lib.hid hR4
      clear hR hR2 hR3 hR4 cP cT hS hcat1 hcat2 e1
      generalize toB (Lib.decDigits a) = A at *
      go_enter Tryz.func35, Tryz.ntmps35
      go_wp2_with (first
        | (go_at_call 55; (with_reducible refine (cA _ hT).mono ?_); rintro e w1 ⟨rfl, hb1⟩))
      go_ret
      exact ⟨by rw [HR.out]; rfl, hb1⟩
  · have hR3 : R = toB (if n < 0 then 45 :: (Lib.decDigits a ++ 46 :: stripZ (pad6 (r * 15625))) else Lib.decDigits a ++ 46 :: stripZ (pad6 (r * 15625))) := by
      rw [hR2]
      unfold fracs
      rw [if_neg hz]
    have hz2 : ¬ (r : Int) * 15625 = 0 := by omega
    rcases hm2 with ⟨hn, he⟩ | ⟨hn, he⟩
    · rw [if_pos hn] at hR3
      obtain ⟨q1, q2⟩ := e1 (-n) he
      obtain rfl : n = -(m : Int) := by omega
      rw [he] at q1 q2
      have hR4 : R = ⟨#[45]⟩ ++ toB (Lib.decDigits a) ++ ⟨#[46]⟩ ++ toB (stripZ (pad6 (r * 15625))) := by
        rw [hR3, ← hcat1, ← toB_cat, ← toB_cat, ← toB_cat]
        rfl
      have HR := Lib.hid hR4
      clear hR hR2 hR3 hR4 hcat1 hcat2 e1 he
      generalize toB (Lib.decDigits a) = A at *
      generalize toB (stripZ (pad6 (r * 15625))) = S at *
      generalize toB (pad6 (r * 15625)) = P at *
      go_enter Tryz.func35, Tryz.ntmps35
      go_wp2_with (first
        | (go_at_call 55; (with_reducible refine (cA _ hT).mono ?_); rintro e w1 ⟨rfl, hb1⟩
           have hT1 := hT.at_ hb1)
        | (go_at_call 57; (with_reducible refine (cP _ hT1).mono ?_); rintro e w2 ⟨rfl, hb2⟩
           have hB2 := below_next hb1 hb2)
        | (go_at_call 56; (with_reducible refine (cT _).mono ?_); rintro e w3 ⟨rfl, rfl⟩))
      go_ret
      exact ⟨by rw [HR.out]; rfl, hB2⟩
    · rw [if_neg (by omega)] at hR3
      obtain ⟨q1, q2⟩ := e1 n he
      obtain rfl : n = (m : Int) := he
      have hR4 : R = ⟨#[]⟩ ++ toB (Lib.decDigits a) ++ ⟨#[46]⟩ ++ toB (stripZ (pad6 (r * 15625))) := by
        rw [hR3, ← hcat2, ← toB_cat, ← toB_cat, ← toB_cat]
        rfl
      have HR := Lib.hid hR4
      clear hR hR2 hR3 hR4 hcat1 hcat2 e1
      generalize toB (Lib.decDigits a) = A at *
      generalize toB (stripZ (pad6 (r * 15625))) = S at *
      generalize toB (pad6 (r * 15625)) = P at *
      go_enter Tryz.func35, Tryz.ntmps35
      go_wp2_with (first
        | (go_at_call 55; (with_reducible refine (cA _ hT).mono ?_); rintro e w1 ⟨rfl, hb1⟩
           have hT1 := hT.at_ hb1)
        | (go_at_call 57; (with_reducible refine (cP _ hT1).mono ?_); rintro e w2 ⟨rfl, hb2⟩
           have hB2 := below_next hb1 hb2)
        | (go_at_call 56; (with_reducible refine (cT _).mono ?_); rintro e w3 ⟨rfl, rfl⟩))
      go_ret
      exact ⟨by rw [HR.out]; rfl, hB2⟩
end Val
end Go.Proofs.YtcacabpcobmgoaaGreatDoor
