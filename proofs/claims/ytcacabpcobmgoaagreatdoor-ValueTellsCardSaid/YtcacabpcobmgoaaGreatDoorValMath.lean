/- Numbers' texts of package value: what is printed is read as what it was. Conditions: none. -/
import Derived.Test.YtcacabpcobmgoaaGreatDoorScanMath
import Derived.Lib.ItoaMem
import Derived.Lib.ItoaNum
namespace Go.Proofs.YtcacabpcobmgoaaGreatDoor
def isDg (c : UInt8) : Bool := decide (48 ≤ c) && decide (c ≤ 57)
def valD (l : List UInt8) : Nat := l.foldl (fun n c => 10 * n + (c.toNat - 48)) 0
def okD (most : Nat) (l : List UInt8) : Bool := !l.isEmpty && decide (l.length ≤ most) && l.all isDg
def behindDot (l : List UInt8) : List UInt8 := match l.dropWhile (· != 46) with
  | [] => [48]
  | _ :: t => t
/-- The units of a number's text without a sign. -/
def numU (l : List UInt8) : Option Nat :=
  if okD 9 (l.takeWhile (· != 46)) && okD 6 (behindDot l) then some (64 * valD (l.takeWhile (· != 46)) + 64 * valD (behindDot l) / 10 ^ (behindDot l).length) else none
/-- The units of a number's text. -/
def numL : List UInt8 → Option Int
  | [] => none
  | c :: t => if c = 45 then Option.map (fun n : Nat => -(n : Int)) (numU t) else Option.map (fun n : Nat => (n : Int)) (numU (c :: t))
/-- Six digits. -/
def pad6 (n : Nat) : List UInt8 := (List.range 6).map fun i => UInt8.ofNat (48 + n / 10 ^ (5 - i) % 10)
def stripZ (l : List UInt8) : List UInt8 := (l.reverse.dropWhile (· == 48)).reverse
/-- The dot and what stands behind it, of r units. -/
def fracs (r : Nat) : List UInt8 := if r = 0 then [] else 46 :: stripZ (pad6 (r * 15625))
def decU (n : Nat) : List UInt8 := Lib.decDigits (n / 64) ++ fracs (n % 64)
def decL (n : Int) : List UInt8 := if n < 0 then 45 :: decU n.natAbs else decU n.toNat
theorem valD_snoc (l : List UInt8) (c : UInt8) : valD (l ++ [c]) = 10 * valD l + (c.toNat - 48) := by unfold valD; rw [List.foldl_append]; rfl
theorem dg_nat {d : Nat} (h : d < 10) : (UInt8.ofNat (48 + d)).toNat = 48 + d := by
  rw [UInt8.toNat_ofNat']
  omega
theorem isDg_of {d : Nat} (h : d < 10) : isDg (UInt8.ofNat (48 + d)) = true := by
  have : ∀ d : Fin 10, isDg (UInt8.ofNat (48 + d.val)) = true := by decide
  exact this ⟨d, h⟩
theorem valD_dec (u : Nat) : valD (Lib.decDigits u) = u := by
  induction u using Nat.strongRecOn with
  | _ u ih =>
    by_cases h : u < 10
    · rw [Lib.decDigits, dif_pos h]
      show 10 * 0 + ((UInt8.ofNat (48 + u)).toNat - 48) = u
      rw [dg_nat h]
      omega
    · rw [Lib.decDigits, dif_neg h, valD_snoc, ih (u / 10) (by omega), dg_nat (Nat.mod_lt _ (by omega))]
      omega
theorem dec_all (u : Nat) : (Lib.decDigits u).all isDg = true := by
  induction u using Nat.strongRecOn with
  | _ u ih =>
    by_cases h : u < 10
    · rw [Lib.decDigits, dif_pos h]
      rw [List.all_cons, isDg_of h]; rfl
    · rw [Lib.decDigits, dif_neg h, List.all_append, ih (u / 10) (by omega)]
      rw [List.all_cons, isDg_of (Nat.mod_lt u (by omega : 0 < 10))]; rfl
theorem nDigits_le : ∀ (k u : Nat), u < 10 ^ (k + 1) → Lib.nDigits u ≤ k + 1
  | 0, u, h => by rw [Lib.nDigits_small (by simpa using h)]; exact Nat.le_refl _
  | k + 1, u, h => by
    by_cases hu : u < 10
    · rw [Lib.nDigits_small hu]; omega
    · rw [Lib.nDigits_big hu]
      have := nDigits_le k (u / 10) (by rw [Nat.pow_succ] at h; omega)
      omega
theorem dec_ok {u : Nat} (h : u < 1000000000) : okD 9 (Lib.decDigits u) = true := by
  have h1 := Lib.decDigits_length u
  have h2 := nDigits_le 8 u h
  have h3 := Lib.nDigits_pos u
  unfold okD
  rw [dec_all u, decide_eq_true (by omega)]
  cases e : Lib.decDigits u with
  | nil => rw [e] at h1; simp only [List.length_nil] at h1; omega
  | cons _ _ => rfl
theorem fracs_fin : ∀ r : Fin 64, r.val = 0 ∨ (okD 6 (stripZ (pad6 (r.val * 15625))) = true ∧ 64 * valD (stripZ (pad6 (r.val * 15625))) / 10 ^ (stripZ (pad6 (r.val * 15625))).length = r.val) := by decide +kernel
theorem all_not_dot {l : List UInt8} (h : l.all isDg = true) : ∀ c ∈ l, (c != 46) = true := by
  intro c hc
  have := List.all_eq_true.1 h c hc
  cases e : (c != 46)
  · have : c = 46 := by simpa using e
    subst this
    exact absurd ‹isDg 46 = true› (by decide)
  · rfl
theorem take_dot (l t : List UInt8) (h : l.all isDg = true) (ht : t = [] ∨ ∃ b, t = 46 :: b) : (l ++ t).takeWhile (· != 46) = l ∧ (l ++ t).dropWhile (· != 46) = t := by
  rw [List.takeWhile_append_of_pos (all_not_dot h), List.dropWhile_append_of_pos (all_not_dot h)]
  rcases ht with rfl | ⟨b, rfl⟩
  · exact ⟨List.append_nil _, rfl⟩
  · exact ⟨by show l ++ [] = l; exact List.append_nil _, rfl⟩
theorem numU_decU {n : Nat} (h : n ≤ 63999999999) : numU (decU n) = some n := by
  have h1 : n / 64 < 1000000000 := by omega
  have h2 : n % 64 < 64 := Nat.mod_lt _ (by omega)
  have hf := fracs_fin ⟨n % 64, h2⟩
  simp only at hf
  have hd := take_dot (Lib.decDigits (n / 64)) (fracs (n % 64)) (dec_all _) (by
    unfold fracs
    by_cases h0 : n % 64 = 0
    · rw [if_pos h0]; exact .inl rfl
    · rw [if_neg h0]; exact .inr ⟨_, rfl⟩)
  unfold numU behindDot decU
  rw [hd.1, hd.2, dec_ok h1, valD_dec]
  unfold fracs
  by_cases h0 : n % 64 = 0
  · rw [if_pos h0]
    have e6 : okD 6 [48] = true := by decide
    have ev : 64 * valD [48] / 10 ^ ([48] : List UInt8).length = 0 := by decide
    simp only [e6, ev, Bool.and_self, if_true, Option.some.injEq]
    omega
  · rw [if_neg h0]
    obtain ⟨f1, f2⟩ := hf.resolve_left h0
    simp only [f1, f2, Bool.and_self, if_true, Option.some.injEq]
    omega
theorem dec_first (u : Nat) : ∃ c t, Lib.decDigits u = c :: t ∧ isDg c = true := by
  have h := dec_all u
  have h1 := Lib.decDigits_length u
  have h3 := Lib.nDigits_pos u
  cases e : Lib.decDigits u with
  | nil => rw [e] at h1; simp only [List.length_nil] at h1; omega
  | cons c t => rw [e] at h; exact ⟨c, t, rfl, List.all_eq_true.1 h c (by simp)⟩
theorem numL_neg (t : List UInt8) : numL (45 :: t) = Option.map (fun n : Nat => -(n : Int)) (numU t) := by unfold numL; exact if_pos rfl
theorem numL_pos {c : UInt8} (t : List UInt8) (h : ¬ c = 45) : numL (c :: t) = Option.map (fun n : Nat => (n : Int)) (numU (c :: t)) := by unfold numL; exact if_neg h
theorem numL_decL {n : Int} (h1 : -63999999999 ≤ n) (h2 : n ≤ 63999999999) : numL (decL n) = some n := by
  unfold decL
  by_cases h : n < 0
  · rw [if_pos h]
    rw [numL_neg, numU_decU (by omega)]
    simp only [Option.map_some, Option.some.injEq]
    omega
  · rw [if_neg h]
    obtain ⟨c, t, e, hc⟩ := dec_first (n.toNat / 64)
    have hn := numU_decU (n := n.toNat) (by omega)
    have e2 : decU n.toNat = c :: (t ++ fracs (n.toNat % 64)) := by unfold decU; rw [e]; rfl
    rw [e2] at hn ⊢
    rw [numL_pos _ (by rintro rfl; revert hc; decide), hn]
    simp only [Option.map_some, Option.some.injEq]
    omega
end Go.Proofs.YtcacabpcobmgoaaGreatDoor
