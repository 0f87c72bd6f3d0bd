/- strings.makeGenericReplacer, over the four signs. Conditions: the texts lie in memory. -/
import Derived.Test.YthacboofbbfmlaaDoorRepE
namespace Go.Proofs.YthacboofbbfmlaaDoor
open Go.ChangeShapes Go.WideShapes Go.ChangeAt Go.RowKit
namespace Rep
def tellP : List (List UInt8) := [[38, 108, 116, 59], [60], [38, 103, 116, 59], [62], [38, 97, 109, 112, 59], [38], [38, 113, 117, 111, 116, 59], [34]]
def markB (m : Nat → Int) (key : List UInt8) : Nat → Int := key.foldl (fun m c => upd m c.toNat 1) m
theorem markB_step (m : Nat → Int) (key : List UInt8) (q : Nat) (h : q < key.length) : markB m (key.take (q + 1)) = upd (markB m (key.take q)) (key[q]).toNat 1 := by
  unfold markB
  rw [List.take_succ_eq_append_getElem h, List.foldl_append]
  rfl
def markK (l : List (List UInt8)) : Nat → (Nat → Int)
  | 0 => fun _ => 0
  | k + 1 => markB (markK l k) (l.getD (2 * k) [])
def sumK (m : Nat → Int) : Nat → Int
  | 0 => 0
  | k + 1 => sumK m k + m k
def bits (m : Nat → Int) : Prop := ∀ i, m i = 0 ∨ m i = 1
theorem bits_markB {m : Nat → Int} (h : bits m) : ∀ key : List UInt8, bits (markB m key) := by
  intro key
  induction key generalizing m with
  | nil => exact h
  | cons c t ih =>
    refine ih (m := upd m c.toNat 1) (fun i => ?_)
    unfold upd
    split
    · exact .inr rfl
    · exact h i
theorem bits_markK (l : List (List UInt8)) : ∀ k, bits (markK l k) := by
  intro k
  induction k with
  | zero => exact fun i => .inl rfl
  | succ k ih => exact bits_markB ih _
theorem sumK_le {m : Nat → Int} (h : bits m) : ∀ k : Nat, 0 ≤ sumK m k ∧ sumK m k ≤ k := by
  intro k
  induction k with
  | zero => exact ⟨Int.le_refl _, Int.le_refl _⟩
  | succ k ih => have := h k; unfold sumK; omega
/-- The mapping, when it is turned up to k. -/
def turnK (m : Nat → Int) (ts : Int) (k : Nat) : Nat → Int := fun i => if i < k then (if m i = 0 then ts else sumK m i) else m i
theorem turn_step (m : Nat → Int) (ts : Int) (k : Nat) (v : Int) (hv : v = if m k = 0 then ts else sumK m k) : upd (turnK m ts k) k v = turnK m ts (k + 1) := by
  funext i
  unfold upd turnK
  by_cases e : i = k
  · subst e
    rw [if_pos rfl, if_pos (by omega), hv]
  · rw [if_neg e]
    by_cases h : i < k
    · simp only [h, show i < k + 1 by omega, if_true]
    · simp only [h, show ¬ i < k + 1 by omega, if_false]
theorem turn_zero (m : Nat → Int) (ts : Int) : turnK m ts 0 = m := by funext i; unfold turnK; rw [if_neg (by omega)]
theorem sumK_mono {m : Nat → Int} (h : bits m) {k n : Nat} (hk : k ≤ n) : sumK m k ≤ sumK m n := by
  induction n with
  | zero =>
    obtain rfl : k = 0 := by omega
    exact Int.le_refl _
  | succ n ih =>
    by_cases e : k = n + 1
    · subst e; exact Int.le_refl _
    · have := ih (by omega)
      have := h n
      rw [sumK]
      omega
/-- The mapping of the four signs' bytes. -/
def mapT : Nat → Int := turnK (markK tellP 4) 11 256
theorem mapT_vals : mapT 38 = 0 ∧ mapT 108 = 4 ∧ mapT 103 = 3 ∧ mapT 97 = 2 ∧ mapT 113 = 8 := by decide +kernel
def fT (A : Nat) : Nat → Value := updV (updV nilP 4 (ptr A)) 3 (ptr (A + 1))
theorem Oth.undrew2 {b : Nat} {w w' : World} (h : Oth b w.drew.drew w') : Oth b w w' := ⟨h.os, h.tape, h.output, h.size, h.block⟩
theorem tx_oth {w w' : World} {g b : Nat} {l : List (List UInt8)} (h : TxAt w g l) (hO : Oth b w w') (hb : g < b) : TxAt w' g l :=
  ⟨Nat.lt_of_lt_of_le h.1 hO.size, fun j x hx => (hO.cell h.1 (Nat.ne_of_lt hb)).trans (h.2 j x hx)⟩
end Rep
end Go.Proofs.YthacboofbbfmlaaDoor
