/- What printColor answers; Print, whole. Conditions: the number is a color's; the tables are laid. -/
import Derived.Test.YtdfcahdipalmkaaGreatDoorValRd
import Derived.Test.YtdfcahdipalmkaaGreatDoorValPrintW
import Derived.Lib.EndianBits
import Derived.Lib.TrailingZeros
/- What printNumber answers. Conditions: the number lies in a value's bounds; the tables are laid. -/
namespace Go.Proofs.YtdfcahdipalmkaaGreatDoor
open Go.ChangeShapes Go.WideShapes Go.ChangeAt Go.RowKit
namespace Val
theorem rep_48 : ∀ c : Nat, Lib.repeatL [48] c = List.replicate c 48
  | 0 => rfl
  | c + 1 => by rw [Lib.repeatL, rep_48 c]; rfl
/-- A number's digits with noughts ahead, by any base. -/
theorem pad_gen {b : Nat} (hb : 2 ≤ b) (D : Nat → UInt8) (T : Nat → List UInt8) (h1 : ∀ n, n < b → T n = [D n]) (h2 : ∀ n, b ≤ n → T n = T (n / b) ++ [D (n % b)]) :
    ∀ k n, n < b ^ (k + 1) → (List.range (k + 1)).map (fun i => D (n / b ^ (k - i) % b)) = List.replicate (k + 1 - (T n).length) (D 0) ++ T n ∧ 1 ≤ (T n).length ∧ (T n).length ≤ k + 1 := by
  intro k
  induction k with
  | zero =>
    intro n hn
    have hn' : n < b := by simpa using hn
    rw [h1 n hn']
    refine ⟨?_, by simp, by simp⟩
    simp [Nat.mod_eq_of_lt hn']
  | succ k ih =>
    intro n hn
    have hq : n / b < b ^ (k + 1) := by
      rw [Nat.div_lt_iff_lt_mul (by omega)]
      rwa [← Nat.pow_succ]
    obtain ⟨e, l1, l2⟩ := ih (n / b) hq
    have hm : (List.range (k + 1)).map (fun i => D (n / b ^ (k + 1 - i) % b)) = (List.range (k + 1)).map (fun i => D (n / b / b ^ (k - i) % b)) := by
      refine List.map_congr_left fun i hi => ?_
      have := List.mem_range.1 hi
      rw [show k + 1 - i = (k - i) + 1 by omega, Nat.div_div_eq_div_mul, Nat.pow_succ, Nat.mul_comm]
    rw [List.range_succ, List.map_append, hm, e]
    have hlast : ([k + 1] : List Nat).map (fun i => D (n / b ^ (k + 1 - i) % b)) = [D (n % b)] := by simp
    rw [hlast]
    by_cases hlt : n < b
    · have h0 : n / b = 0 := Nat.div_eq_of_lt hlt
      rw [h0, h1 0 (by omega), h1 n hlt, Nat.mod_eq_of_lt hlt]
      refine ⟨?_, by simp, by simp⟩
      have er : List.replicate (k + 1 + 1 - ([D n] : List UInt8).length) (D 0) = List.replicate (k + 1 - ([D 0] : List UInt8).length) (D 0) ++ [D 0] := by
        simp only [List.length_cons, List.length_nil]
        rw [← List.replicate_succ']
        rfl
      rw [er]
    · rw [h2 n (by omega)]
      simp only [List.length_append, List.length_cons, List.length_nil]
      refine ⟨?_, by omega, by omega⟩
      rw [show k + 1 + 1 - ((T (n / b)).length + (0 + 1)) = k + 1 - (T (n / b)).length by omega, List.append_assoc]
theorem dec_lt {n : Nat} (h : n < 10) : Lib.decDigits n = [UInt8.ofNat (48 + n)] := by rw [Lib.decDigits, dif_pos h]
theorem dec_ge {n : Nat} (h : 10 ≤ n) : Lib.decDigits n = Lib.decDigits (n / 10) ++ [UInt8.ofNat (48 + n % 10)] := by
  conv => lhs; rw [Lib.decDigits, dif_neg (by omega)]
theorem pad6_is {n : Nat} (h : n < 1000000) : pad6 n = List.replicate (6 - (Lib.decDigits n).length) 48 ++ Lib.decDigits n ∧ (Lib.decDigits n).length ≤ 6 := by
  obtain ⟨e, _, l⟩ := pad_gen (b := 10) (by omega) (fun d => UInt8.ofNat (48 + d)) Lib.decDigits (fun n h => dec_lt h) (fun n h => dec_ge h) 5 n h
  exact ⟨e, l⟩
theorem fmt10_any (n : Nat) (hn : n < 9223372036854775807) (w : World) (hT : Tabs w) : Calls Tryz.prog 188 #[.int .i64 n, .int .i64 10] w fun e w' => e = .returned (.string (toB (Lib.decDigits n))) ∧ Below w.heap.size w w' := by
  refine (Tryz.strconv_FormatInt_10 (n : Int) (by omega) (by omega) w hT.pow).mono ?_
  rintro e w' ⟨rfl, k, os, rfl⟩
  refine ⟨?_, Lib.below_grow _ _ (Nat.le_refl _) _ _⟩
  have : Lib.itoa (n : Int) = Lib.decDigits n := by unfold Lib.itoa; rw [if_neg (by omega)]; simp
  rw [this]
  rfl
set_option maxHeartbeats 4000000 in
theorem padded_any (n b : Int) (t : ByteArray) (ht : t.size ≤ 6) (cF : ∀ w, Tabs w → Calls Tryz.prog 188 #[.int .i64 n, .int .i64 b] w fun e w' => e = .returned (.string t) ∧ Below w.heap.size w w') (w : World) (hT : Tabs w) :
    Calls Tryz.prog 190 #[.int .i64 n, .int .i64 b, .int .i64 6] w fun e w' => e = .returned (.string (toB (List.replicate (6 - t.size) 48) ++ t)) ∧ Below w.heap.size w w' := by
  have cR : ∀ w, Calls Tryz.prog 201 #[.string ⟨#[48]⟩, .int .i64 (6 - (t.size : Int))] w fun e w' => e = .returned (.string (toB (List.replicate (6 - t.size) 48))) ∧ Below w.heap.size w w' := by
    intro w
    have e : (6 - (t.size : Int)) = ((6 - t.size : Nat) : Int) := by omega
    rw [e, ← rep_48]
    exact Tryz.strings_Repeat ⟨#[48]⟩ (6 - t.size) w (by omega) (by show 1 * (6 - t.size) ≤ _; omega)
  have hr : (toB (List.replicate (6 - t.size) 48)).size ≤ 6 := by rw [toB_size]; simp
  generalize toB (List.replicate (6 - t.size) 48) = r at *
  go_enter Tryz.func190, Tryz.ntmps190
  go_wp2_with (first
    | (go_at_call 188; (with_reducible refine (cF _ hT).mono ?_); rintro e w1 ⟨rfl, hb1⟩)
    | (go_at_call 201; (with_reducible refine (cR _).mono ?_); rintro e w2 ⟨rfl, hb2⟩
       have hB2 := below_next hb1 hb2))
  go_ret
  exact ⟨rfl, hB2⟩
end Val
end Go.Proofs.YtdfcahdipalmkaaGreatDoor
namespace Go.Proofs.YtdfcahdipalmkaaGreatDoor
open Go.ChangeShapes Go.WideShapes Go.ChangeAt Go.RowKit
namespace Val
theorem strip_is (l : List UInt8) : (⟨(Lib.trimRightB l 48).toArray⟩ : ByteArray) = toB (stripZ l) := rfl
theorem strip_len (l : List UInt8) : (stripZ l).length ≤ l.length := by
  unfold stripZ
  rw [List.length_reverse]
  exact Nat.le_trans (List.dropWhile_suffix _).length_le (by rw [List.length_reverse]; exact Nat.le_refl _)
theorem dec_len9 {n : Nat} (h : n < 1000000000) : (Lib.decDigits n).length ≤ 9 :=
  (pad_gen (b := 10) (by omega) (fun d => UInt8.ofNat (48 + d)) Lib.decDigits (fun _ h => dec_lt h) (fun _ h => dec_ge h) 8 n h).2.2
theorem pad_cat {n : Nat} (h : n < 1000000) : toB (List.replicate (6 - (toB (Lib.decDigits n)).size) 48) ++ toB (Lib.decDigits n) = toB (pad6 n) := by
  rw [toB_size, toB_cat, (pad6_is h).1]
theorem pad6_len (n : Nat) : (pad6 n).length = 6 := by unfold pad6; simp
set_option maxHeartbeats 8000000 in
theorem number_any : NumberC := by
  intro n w hlo hhi hT
  obtain ⟨R, hR⟩ : ∃ R, R = toB (decL n) := ⟨_, rfl⟩
  rw [← hR]
  obtain ⟨m, hm⟩ : ∃ m, m = n.natAbs := ⟨_, rfl⟩
  obtain ⟨a, ha⟩ : ∃ a, a = m / 64 := ⟨_, rfl⟩
  obtain ⟨r, hr⟩ : ∃ r, r = m % 64 := ⟨_, rfl⟩
  have hR2 : R = toB (if n < 0 then 45 :: (Lib.decDigits a ++ fracs r) else Lib.decDigits a ++ fracs r) := by
    rw [hR, ha, hr]
    unfold decL decU
    by_cases h : n < 0
    · rw [if_pos h, if_pos h, hm]
    · rw [if_neg h, if_neg h, hm, show n.natAbs = n.toNat by omega]
  have ha9 : a < 1000000000 := by omega
  have hr64 : r < 64 := by omega
  have cA := fun w hT => fmt10_any a (by omega) w hT
  have hA := dec_len9 ha9
  rw [← toB_size] at hA
  have cP := fun (w : World) hT => padded_any ((r : Int) * 15625) 10 (toB (Lib.decDigits (r * 15625))) (by rw [toB_size]; exact (pad6_is (by omega)).2) (fun w hT => by
    have := fmt10_any (r * 15625) (by omega) w hT
    rwa [show ((r * 15625 : Nat) : Int) = (r : Int) * 15625 by omega] at this) w hT
  rw [pad_cat (by omega)] at cP
  have cT := fun w => Tryz.strings_TrimRight_one (toB (pad6 (r * 15625))) 48 (by decide) w (by rw [toB_size, pad6_len]; omega)
  rw [show (toB (pad6 (r * 15625))).data.toList = pad6 (r * 15625) from rfl, strip_is] at cT
  have hS : (toB (stripZ (pad6 (r * 15625)))).size ≤ 6 := by rw [toB_size]; exact Nat.le_trans (strip_len _) (by rw [pad6_len]; exact Nat.le_refl _)
  have e1 : ∀ x : Int, x = (m : Int) → x / 64 = (a : Int) ∧ x % 64 = (r : Int) := by
    rintro x rfl
    rw [ha, hr]
    exact ⟨by omega, by omega⟩
  have hm2 : (n < 0 ∧ -n = (m : Int)) ∨ (0 ≤ n ∧ n = (m : Int)) := by omega
  have hmb : m ≤ 63999999999 := by omega
  have r0 : (0 : Int) ≤ (r : Int) := Int.natCast_nonneg _
  have r1 : (r : Int) < 64 := by omega
  have hcat1 : ∀ {D F : List UInt8}, toB ([45] ++ D ++ [46] ++ F) = toB (45 :: (D ++ 46 :: F)) := fun {D F} => by simp
  have hcat2 : ∀ {D F : List UInt8}, toB ([] ++ D ++ [46] ++ F) = toB (D ++ 46 :: F) := fun {D F} => by simp
  clear hm ha hr
  by_cases hz : r = 0
  · have hR3 : R = toB (if n < 0 then 45 :: Lib.decDigits a else Lib.decDigits a) := by
      rw [hR2, hz]
      unfold fracs
      rw [if_pos rfl, List.append_nil]
    subst hz
    rcases hm2 with ⟨hn, he⟩ | ⟨hn, he⟩
    · rw [if_pos hn] at hR3
      obtain ⟨q1, q2⟩ := e1 (-n) he
      obtain rfl : n = -(m : Int) := by omega
      rw [he] at q1 q2
      have hR4 : R = ⟨#[45]⟩ ++ toB (Lib.decDigits a) := by rw [hR3]; exact (toB_cat [45] _).symm
      have HR := Lib.hid hR4
      clear hR hR2 hR3 hR4 cP cT hS hcat1 hcat2 e1 he
      generalize toB (Lib.decDigits a) = A at *
      go_enter Tryz.func168, Tryz.ntmps168
      go_wp2_with (first
        | (go_at_call 188; (with_reducible refine (cA _ hT).mono ?_); rintro e w1 ⟨rfl, hb1⟩))
      go_ret
      exact ⟨by rw [HR.out]; rfl, hb1⟩
    · rw [if_neg (by omega)] at hR3
      obtain ⟨q1, q2⟩ := e1 n he
      obtain rfl : n = (m : Int) := he
      have hR4 : R = ⟨#[]⟩ ++ toB (Lib.decDigits a) := by rw [hR3]; exact (toB_cat [] _).symm
      have HR := Lib.hid hR4
      clear hR hR2 hR3 hR4 cP cT hS hcat1 hcat2 e1
      generalize toB (Lib.decDigits a) = A at *
      go_enter Tryz.func168, Tryz.ntmps168
      go_wp2_with (first
        | (go_at_call 188; (with_reducible refine (cA _ hT).mono ?_); rintro e w1 ⟨rfl, hb1⟩))
      go_ret
      exact ⟨by rw [HR.out]; rfl, hb1⟩
  · have hR3 : R = toB (if n < 0 then 45 :: (Lib.decDigits a ++ 46 :: stripZ (pad6 (r * 15625))) else Lib.decDigits a ++ 46 :: stripZ (pad6 (r * 15625))) := by
      rw [hR2]
      unfold fracs
      rw [if_neg hz]
    have hz2 : ¬ (r : Int) * 15625 = 0 := by omega
    rcases hm2 with ⟨hn, he⟩ | ⟨hn, he⟩
    · rw [if_pos hn] at hR3
      obtain ⟨q1, q2⟩ := e1 (-n) he
      obtain rfl : n = -(m : Int) := by omega
      rw [he] at q1 q2
      have hR4 : R = ⟨#[45]⟩ ++ toB (Lib.decDigits a) ++ ⟨#[46]⟩ ++ toB (stripZ (pad6 (r * 15625))) := by
        rw [hR3, ← hcat1, ← toB_cat, ← toB_cat, ← toB_cat]
        rfl
      have HR := Lib.hid hR4
      clear hR hR2 hR3 hR4 hcat1 hcat2 e1 he
      generalize toB (Lib.decDigits a) = A at *
      generalize toB (stripZ (pad6 (r * 15625))) = S at *
      generalize toB (pad6 (r * 15625)) = P at *
      go_enter Tryz.func168, Tryz.ntmps168
      go_wp2_with (first
        | (go_at_call 188; (with_reducible refine (cA _ hT).mono ?_); rintro e w1 ⟨rfl, hb1⟩
           have hT1 := hT.at_ hb1)
        | (go_at_call 190; (with_reducible refine (cP _ hT1).mono ?_); rintro e w2 ⟨rfl, hb2⟩
           have hB2 := below_next hb1 hb2)
        | (go_at_call 189; (with_reducible refine (cT _).mono ?_); rintro e w3 ⟨rfl, rfl⟩))
      go_ret
      exact ⟨by rw [HR.out]; rfl, hB2⟩
    · rw [if_neg (by omega)] at hR3
      obtain ⟨q1, q2⟩ := e1 n he
      obtain rfl : n = (m : Int) := he
      have hR4 : R = ⟨#[]⟩ ++ toB (Lib.decDigits a) ++ ⟨#[46]⟩ ++ toB (stripZ (pad6 (r * 15625))) := by
        rw [hR3, ← hcat2, ← toB_cat, ← toB_cat, ← toB_cat]
        rfl
      have HR := Lib.hid hR4
      clear hR hR2 hR3 hR4 hcat1 hcat2 e1
      generalize toB (Lib.decDigits a) = A at *
      generalize toB (stripZ (pad6 (r * 15625))) = S at *
      generalize toB (pad6 (r * 15625)) = P at *
      go_enter Tryz.func168, Tryz.ntmps168
      go_wp2_with (first
        | (go_at_call 188; (with_reducible refine (cA _ hT).mono ?_); rintro e w1 ⟨rfl, hb1⟩
           have hT1 := hT.at_ hb1)
        | (go_at_call 190; (with_reducible refine (cP _ hT1).mono ?_); rintro e w2 ⟨rfl, hb2⟩
           have hB2 := below_next hb1 hb2)
        | (go_at_call 189; (with_reducible refine (cT _).mono ?_); rintro e w3 ⟨rfl, rfl⟩))
      go_ret
      exact ⟨by rw [HR.out]; rfl, hB2⟩
end Val
end Go.Proofs.YtdfcahdipalmkaaGreatDoor
namespace Go.Proofs.YtdfcahdipalmkaaGreatDoor
open Go.ChangeShapes Go.WideShapes Go.ChangeAt Go.RowKit
namespace Val
def hexT (n : Nat) : List UInt8 := if n < 16 then [hexC n] else hexT (n / 16) ++ [hexC (n % 16)]
termination_by n
decreasing_by omega
theorem hexT_lt {n : Nat} (h : n < 16) : hexT n = [hexC n] := by rw [hexT, if_pos h]
theorem hexT_ge {n : Nat} (h : 16 ≤ n) : hexT n = hexT (n / 16) ++ [hexC (n % 16)] := by
  conv => lhs; rw [hexT, if_neg (by omega)]
theorem hex6_is {n : Nat} (h : n < 16777216) : hex6 n = List.replicate (6 - (hexT n).length) 48 ++ hexT n ∧ 1 ≤ (hexT n).length ∧ (hexT n).length ≤ 6 :=
  pad_gen (b := 16) (by omega) hexC hexT (fun _ h => hexT_lt h) (fun _ h => hexT_ge h) 5 n h
def digs : ByteArray := ⟨#[48, 49, 50, 51, 52, 53, 54, 55, 56, 57, 97, 98, 99, 100, 101, 102, 103, 104, 105, 106, 107, 108, 109, 110, 111, 112, 113, 114, 115, 116, 117, 118, 119, 120, 121, 122]⟩
set_option maxRecDepth 100000 in
theorem digit_at (d : Nat) (hd : d < 16) (w : World) : (Instr.index 9 (.string ⟨#[48, 49, 50, 51, 52, 53, 54, 55, 56, 57, 97, 98, 99, 100, 101, 102, 103, 104, 105, 106, 107, 108, 109, 110, 111, 112, 113, 114, 115, 116, 117, 118, 119, 120, 121, 122]⟩) (.int .u64 d)).run Tryz.prog w = .ok (.int .u8 ((hexC d).toNat : Int)) w := by
  match d, hd with
  | 0, _ => rfl
  | 1, _ => rfl
  | 2, _ => rfl
  | 3, _ => rfl
  | 4, _ => rfl
  | 5, _ => rfl
  | 6, _ => rfl
  | 7, _ => rfl
  | 8, _ => rfl
  | 9, _ => rfl
  | 10, _ => rfl
  | 11, _ => rfl
  | 12, _ => rfl
  | 13, _ => rfl
  | 14, _ => rfl
  | 15, _ => rfl
  | n + 16, h => exact absurd h (by omega)
theorem pow2_any (w : World) : Calls Tryz.prog 230 #[.int .i64 16] w fun e w' => e = .returned (.bool true) ∧ w = w' := by
  have hb : bits .and .i64 16 15 = 0 := by decide +kernel
  go_enter Tryz.func230, Tryz.ntmps230
  go_wp2
  go_ret
  exact ⟨rfl, rfl⟩
theorem ctz64_any (w : World) (hT : Tabs w) : Calls Tryz.prog 238 #[.int .u64 16] w fun e w' => e = .returned (.int .i64 4) ∧ w = w' := by
  have hb : bits .and .u64 16 (IntKind.u64.wrap (-16)) = 16 := by decide +kernel
  have hm : IntKind.u64.wrap 4573923408821661840 = 4573923408821661840 := by decide +kernel
  have hc := hT.bru.cell (g := 8) (by kernel_rfl) 15 (by decide)
  rw [show bruT.getD 15 0 = 4 from by decide] at hc
  go_enter Tryz.func238, Tryz.ntmps238
  go_wp2
  go_ret
  exact ⟨rfl, rfl⟩
theorem ctz_any (w : World) (hT : Tabs w) : Calls Tryz.prog 231 #[.int .u64 16] w fun e w' => e = .returned (.int .i64 4) ∧ w = w' := by
  go_enter Tryz.func231, Tryz.ntmps231
  go_wp2_with (go_at_call 238; (with_reducible refine (ctz64_any _ hT).mono ?_); rintro e w1 ⟨rfl, rfl⟩)
  go_ret
  exact ⟨rfl, rfl⟩
end Val
end Go.Proofs.YtdfcahdipalmkaaGreatDoor
/- Go's own formatBits at sixteen. Conditions: the number is small; the tables are laid. -/
namespace Go.Proofs.YtdfcahdipalmkaaGreatDoor
open Go.ChangeShapes Go.WideShapes Go.ChangeAt Go.RowKit
namespace Val
abbrev z65 : Array Value := (List.replicate 65 (Value.int .u8 0)).toArray
theorem zero65 (w : World) : (zeroValue 259).run Tryz.prog w = .ok (.agg z65) w := by kernel_rfl
/-- The last digits stand in the buffer, from q on. -/
def Dig (cs : Array Value) (q : Nat) (L : List UInt8) : Prop := cs.size = 65 ∧ ∀ t c, L[t]? = some c → cs[q + t]? = some (.int .u8 (c.toNat : Int))
theorem Dig.put {cs : Array Value} {q : Nat} {L : List UInt8} (h : Dig cs (q + 1) L) (hq : q < 65) (d : UInt8) : Dig (cs.setIfInBounds q (.int .u8 (d.toNat : Int))) q (d :: L) := by
  refine ⟨by simpa using h.1, fun t c ht => ?_⟩
  cases t with
  | zero =>
    simp only [List.getElem?_cons_zero, Option.some.injEq] at ht
    subst ht
    rw [Nat.add_zero, Array.getElem?_setIfInBounds_self_of_lt (by rw [h.1]; exact hq)]
  | succ t =>
    simp only [List.getElem?_cons_succ] at ht
    rw [Array.getElem?_setIfInBounds_ne (by omega)]
    have := h.2 t c ht
    rwa [show q + 1 + t = q + (t + 1) by omega] at this
theorem Dig.at_ {cs : Array Value} {q : Nat} {L : List UInt8} (h : Dig cs q L) {i : Nat} (hi : i < 65) : ∃ u, cs[i]? = some u := ⟨cs[i]'(by rw [h.1]; exact hi), Array.getElem?_eq_getElem (by rw [h.1]; exact hi)⟩
theorem slice65 (w : World) (g p : Nat) (hp : p < 65) : (Instr.sliceAt 259 (.pointer (some ⟨g, 0, none⟩)) (some (.int .i64 (p : Int))) none none).run Tryz.prog w = .ok (.slice (some ⟨g, p, none⟩) (65 - p) (65 - p)) w := by
  have hl : Tryz.prog.arrayLen 259 = 65 := by kernel_rfl
  have hs : (sizeOf (Tryz.prog.elem 259)).run Tryz.prog w = .ok 1 w := by kernel_rfl
  rw [run_sliceAt_array_l w 259 ⟨g, 0, none⟩ (by kernel_rfl) .i64 (p : Int) (by omega) (by rw [hl]; omega), hs]
  have e : slicedAt ⟨g, 0, none⟩ (p : Int).toNat 65 65 1 = .slice (some ⟨g, p, none⟩) (65 - p) (65 - p) := by
    unfold slicedAt
    rw [Int.toNat_natCast, if_neg (by omega)]
    have : (⟨g, 0, none⟩ : Addr).add (p * 1) = ⟨g, p, none⟩ := by rw [Nat.mul_one]; unfold Addr.add; split <;> simp_all
    rw [this]
  simp only [Result.andThen_ok, hl, e]
set_option maxRecDepth 100000 in
set_option maxHeartbeats 16000000 in
theorem bits16_any (n : Nat) (hn : n < 16777216) (w : World) (hT : Tabs w) : Calls Tryz.prog 216 #[.slice none 0 0, .int .u64 n, .int .i64 16, .bool false, .bool false] w fun e w' => e = .returned (.tuple #[.slice none 0 0, .string (toB (hexT n))]) ∧ Below w.heap.size w w' := by
  obtain ⟨_, _, hlen⟩ := hex6_is hn
  obtain ⟨R, hR⟩ : ∃ R, R = hexT n := ⟨_, rfl⟩
  rw [← hR] at hlen ⊢
  have HR0 : Hid (hexT n ++ [] = R) := by show hexT n ++ [] = R; rw [List.append_nil, hR]
  clear hR
  have c1 := fun w => pow2_any w
  have c2 := fun w hT => ctz_any w hT
  have hz := zero65
  have K0 : Blk (w.alloc (.cells z65 259)) w.heap.size 259 z65 := Blk.new w _ _
  have D0 : Dig z65 65 [] := ⟨by decide, fun t c h => by cases h⟩
  have hB0 := below_al (Below.refl w.heap.size w) (.cells z65 259)
  go_enter Tryz.func216, Tryz.ntmps216
  go_wp2_with (first
    | (go_at_call 230; (with_reducible refine (c1 _).mono ?_); rintro e w1 ⟨rfl, rfl⟩)
    | (go_at_call 231; (with_reducible refine (c2 _ (hT.al _)).mono ?_); rintro e w2 ⟨rfl, rfl⟩))
  go_loopw [1, 13] (fun u i wr => ∃ (v q : Nat) (L : List UInt8) (cs : Array Value), u = .int .u64 v ∧ i = .int .i64 q ∧ v < 16777216 ∧ q + L.length = 65 ∧ Hid (hexT v ++ L = R) ∧ Hid (Dig cs q L) ∧ Blk wr w.heap.size 259 cs ∧ Below w.heap.size w wr) (fun u _ _ => (intOf u).toNat)
  case atStart => exact ⟨n, 65, [], z65, rfl, rfl, hn, rfl, HR0, D0, K0, hB0⟩
  case round =>
    obtain ⟨v, q, L, cs, rfl, rfl, hv, hq, HR, HD, K, hB⟩ := hrel
    clear K0 D0 hB0 HR0
    have hlv : 1 ≤ (hexT v).length := (hex6_is hv).2.1
    have hlr : (hexT v).length + L.length = R.length := by rw [← HR.out, List.length_append]
    obtain ⟨p, rfl⟩ : ∃ p, q = p + 1 := ⟨q - 1, by omega⟩
    have p0 : (0 : Int) ≤ (p : Int) := Int.natCast_nonneg _
    have p1 : (p : Int) < 65 := by omega
    have v0 : (0 : Int) ≤ (v : Int) := Int.natCast_nonneg _
    have v1 : (v : Int) < 16777216 := by omega
    obtain ⟨old, ho⟩ := HD.out.at_ (i := p) (by omega)
    have hc := (K.cell p).trans ho
    have hf := K.frozen p
    by_cases hge : 16 ≤ v
    · have hg2 : (16 : Int) ≤ (v : Int) := by omega
      have hand : bits .and .u64 (v : Int) 15 = ((v % 16 : Nat) : Int) := by
        have := bits_mask .u64 64 (by decide) wraps_u64 4 (by decide) (v : Int) v0 (by omega)
        rw [show ((v % 16 : Nat) : Int) = (v : Int) % 16 by omega]
        simpa using this
      have hd := fun w => digit_at (v % 16) (Nat.mod_lt _ (by omega)) w
      have HR1 : Hid (hexT (v / 16) ++ (hexC (v % 16) :: L) = R) := by
        show hexT (v / 16) ++ (hexC (v % 16) :: L) = R
        rw [← HR.out, hexT_ge hge, List.append_assoc]
        rfl
      have HD1 := Lib.hid (HD.out.put (by omega) (hexC (v % 16)))
      have K1 := K.set_ p (.int .u8 ((hexC (v % 16)).toNat : Int))
      have hB1 := below_set hB (p := ⟨w.heap.size, p, none⟩) (Nat.le_refl _) (.int .u8 ((hexC (v % 16)).toNat : Int))
      generalize hexC (v % 16) = d at *
      clear hlv hlr HR HD
      generalize v % 16 = r at *
      go_wp2
      go_roundw
      case rel => exact ⟨v / 16, p, d :: L, _, by go_num, by go_num, by omega, by simp only [List.length_cons]; omega, HR1, HD1, K1, hB1⟩
      case measure => simp [intOf]; omega
    · have hg2 : ¬ (16 : Int) ≤ (v : Int) := by omega
      have hd := fun w => digit_at v (by omega) w
      have HR1 : Hid (hexC v :: L = R) := by
        show hexC v :: L = R
        rw [← HR.out, hexT_lt (by omega)]
        rfl
      have HD1 := HD.out.put (by omega) (hexC v)
      have K1 := K.set_ p (.int .u8 ((hexC v).toNat : Int))
      have hB1 := below_set hB (p := ⟨w.heap.size, p, none⟩) (Nat.le_refl _) (.int .u8 ((hexC v).toNat : Int))
      have hcv := fun cap => run_convert_bytes_back (P := Tryz.prog) (wr.setCell ⟨w.heap.size, p, none⟩ (.int .u8 ((hexC v).toNat : Int))) 91 9 5 ⟨w.heap.size, p, none⟩ cap (hexC v :: L) Tryz.underlying91 Tryz.underlying5 Tryz.underlying9 (fun j hj => by
        have h := HD1.2 j _ (List.getElem?_eq_getElem hj)
        rw [← K1.cell] at h
        have e : (⟨w.heap.size, p, none⟩ : Addr).add j = ⟨w.heap.size, p + j, none⟩ := by unfold Addr.add; split <;> simp_all
        rw [e, h])
      have hL1 : L.length + 1 = 65 - p := by omega
      rw [HR1.out] at hcv
      have hRl : R.length = 65 - p := by rw [← HR1.out, List.length_cons]; omega
      rw [hRl] at hcv
      have hsl := fun W => slice65 W w.heap.size p (by omega)
      clear HR1 HD1
      generalize hexC v = d at *
      clear hlv hlr HR HD
      go_wp2
      go_ret2
      exact ⟨rfl, hB1⟩
end Val
end Go.Proofs.YtdfcahdipalmkaaGreatDoor
namespace Go.Proofs.YtdfcahdipalmkaaGreatDoor
open Go.ChangeShapes Go.WideShapes Go.ChangeAt Go.RowKit
namespace Val
set_option maxHeartbeats 4000000 in
theorem fmtI16_any (n : Nat) (hn : n < 16777216) (w : World) (hT : Tabs w) : Calls Tryz.prog 200 #[.int .i64 n, .int .i64 16] w fun e w' => e = .returned (.string (toB (hexT n))) ∧ Below w.heap.size w w' := by
  have c := bits16_any n hn w hT
  have n0 : (0 : Int) ≤ (n : Int) := Int.natCast_nonneg _
  have n1 : (n : Int) < 16777216 := by omega
  have n2 : ¬ (n : Int) < 0 := by omega
  generalize toB (hexT n) = t at *
  go_enter Tryz.func200, Tryz.ntmps200
  go_wp2_with (go_at_call 216; (with_reducible refine c.mono ?_); rintro e w1 ⟨rfl, hb⟩)
  go_ret
  exact ⟨rfl, hb⟩
theorem fmt16_any (n : Nat) (hn : n < 16777216) (w : World) (hT : Tabs w) : Calls Tryz.prog 188 #[.int .i64 n, .int .i64 16] w fun e w' => e = .returned (.string (toB (hexT n))) ∧ Below w.heap.size w w' := by
  have c := fmtI16_any n hn w hT
  generalize toB (hexT n) = t at *
  go_enter Tryz.func188, Tryz.ntmps188
  go_wp2_with (go_at_call 200; (with_reducible refine c.mono ?_); rintro e w1 ⟨rfl, hb⟩)
  go_ret
  exact ⟨rfl, hb⟩
theorem color_any : ColorC := by
  intro n w h0 h1 hT
  obtain ⟨m, rfl⟩ : ∃ m : Nat, n = (m : Int) := ⟨n.toNat, by omega⟩
  have hm : m < 16777216 := by omega
  rw [Int.toNat_natCast]
  obtain ⟨e6, _, l6⟩ := hex6_is hm
  have c := padded_any (m : Int) 16 (toB (hexT m)) (by rw [toB_size]; exact l6) (fun w hT => fmt16_any m hm w hT) w hT
  rw [toB_size, toB_cat, ← e6] at c
  have hl : (toB (hex6 m)).size = 6 := by rw [toB_size]; unfold hex6; simp
  have hR : ⟨#[35]⟩ ++ toB (hex6 m) = toB (35 :: hex6 m) := toB_cat [35] (hex6 m)
  rw [← hR]
  clear hR e6 l6
  generalize toB (hex6 m) = t at *
  go_enter Tryz.func169, Tryz.ntmps169
  go_wp2_with (go_at_call 190; (with_reducible refine c.mono ?_); rintro e w1 ⟨rfl, hb⟩)
  go_ret
  exact ⟨rfl, hb⟩
end Val
end Go.Proofs.YtdfcahdipalmkaaGreatDoor
