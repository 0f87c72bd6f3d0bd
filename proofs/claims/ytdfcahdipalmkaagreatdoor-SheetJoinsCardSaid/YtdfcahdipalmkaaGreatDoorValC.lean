/- What each function of package value is to answer, as plain propositions over the seat's program. Conditions: none (these are definitions). -/
import Derived.Test.YtdfcahdipalmkaaGreatDoorScanSpec
import Derived.Lib.ItoaMem
import Derived.Lib.ItoaNum
import Derived.Lib.AppendIntMem
import Derived.Lib.TrailingZeros
/- Numbers' texts of package value: what is printed is read as what it was. Conditions: none. -/
namespace Go.Proofs.YtdfcahdipalmkaaGreatDoor
def isDg (c : UInt8) : Bool := decide (48 ≤ c) && decide (c ≤ 57)
def valD (l : List UInt8) : Nat := l.foldl (fun n c => 10 * n + (c.toNat - 48)) 0
def okD (most : Nat) (l : List UInt8) : Bool := !l.isEmpty && decide (l.length ≤ most) && l.all isDg
def behindDot (l : List UInt8) : List UInt8 := match l.dropWhile (· != 46) with
  | [] => [48]
  | _ :: t => t
/-- The units of a number's text without a sign. -/
def numU (l : List UInt8) : Option Nat :=
  if okD 9 (l.takeWhile (· != 46)) && okD 6 (behindDot l) then some (64 * valD (l.takeWhile (· != 46)) + 64 * valD (behindDot l) / 10 ^ (behindDot l).length) else none
/-- The units of a number's text. -/
def numL : List UInt8 → Option Int
  | [] => none
  | c :: t => if c = 45 then Option.map (fun n : Nat => -(n : Int)) (numU t) else Option.map (fun n : Nat => (n : Int)) (numU (c :: t))
/-- Six digits. -/
def pad6 (n : Nat) : List UInt8 := (List.range 6).map fun i => UInt8.ofNat (48 + n / 10 ^ (5 - i) % 10)
def stripZ (l : List UInt8) : List UInt8 := (l.reverse.dropWhile (· == 48)).reverse
/-- The dot and what stands behind it, of r units. -/
def fracs (r : Nat) : List UInt8 := if r = 0 then [] else 46 :: stripZ (pad6 (r * 15625))
def decU (n : Nat) : List UInt8 := Lib.decDigits (n / 64) ++ fracs (n % 64)
def decL (n : Int) : List UInt8 := if n < 0 then 45 :: decU n.natAbs else decU n.toNat
theorem valD_snoc (l : List UInt8) (c : UInt8) : valD (l ++ [c]) = 10 * valD l + (c.toNat - 48) := by unfold valD; rw [List.foldl_append]; rfl
theorem dg_nat {d : Nat} (h : d < 10) : (UInt8.ofNat (48 + d)).toNat = 48 + d := by
  rw [UInt8.toNat_ofNat']
  omega
theorem isDg_of {d : Nat} (h : d < 10) : isDg (UInt8.ofNat (48 + d)) = true := by
  have : ∀ d : Fin 10, isDg (UInt8.ofNat (48 + d.val)) = true := by decide
  exact this ⟨d, h⟩
theorem valD_dec (u : Nat) : valD (Lib.decDigits u) = u := by
  induction u using Nat.strongRecOn with
  | _ u ih =>
    by_cases h : u < 10
    · rw [Lib.decDigits, dif_pos h]
      show 10 * 0 + ((UInt8.ofNat (48 + u)).toNat - 48) = u
      rw [dg_nat h]
      omega
    · rw [Lib.decDigits, dif_neg h, valD_snoc, ih (u / 10) (by omega), dg_nat (Nat.mod_lt _ (by omega))]
      omega
theorem dec_all (u : Nat) : (Lib.decDigits u).all isDg = true := by
  induction u using Nat.strongRecOn with
  | _ u ih =>
    by_cases h : u < 10
    · rw [Lib.decDigits, dif_pos h]
      rw [List.all_cons, isDg_of h]; rfl
    · rw [Lib.decDigits, dif_neg h, List.all_append, ih (u / 10) (by omega)]
      rw [List.all_cons, isDg_of (Nat.mod_lt u (by omega : 0 < 10))]; rfl
theorem nDigits_le : ∀ (k u : Nat), u < 10 ^ (k + 1) → Lib.nDigits u ≤ k + 1
  | 0, u, h => by rw [Lib.nDigits_small (by simpa using h)]; exact Nat.le_refl _
  | k + 1, u, h => by
    by_cases hu : u < 10
    · rw [Lib.nDigits_small hu]; omega
    · rw [Lib.nDigits_big hu]
      have := nDigits_le k (u / 10) (by rw [Nat.pow_succ] at h; omega)
      omega
theorem dec_ok {u : Nat} (h : u < 1000000000) : okD 9 (Lib.decDigits u) = true := by
  have h1 := Lib.decDigits_length u
  have h2 := nDigits_le 8 u h
  have h3 := Lib.nDigits_pos u
  unfold okD
  rw [dec_all u, decide_eq_true (by omega)]
  cases e : Lib.decDigits u with
  | nil => rw [e] at h1; simp only [List.length_nil] at h1; omega
  | cons _ _ => rfl
theorem fracs_fin : ∀ r : Fin 64, r.val = 0 ∨ (okD 6 (stripZ (pad6 (r.val * 15625))) = true ∧ 64 * valD (stripZ (pad6 (r.val * 15625))) / 10 ^ (stripZ (pad6 (r.val * 15625))).length = r.val) := by decide +kernel
theorem all_not_dot {l : List UInt8} (h : l.all isDg = true) : ∀ c ∈ l, (c != 46) = true := by
  intro c hc
  have := List.all_eq_true.1 h c hc
  cases e : (c != 46)
  · have : c = 46 := by simpa using e
    subst this
    exact absurd ‹isDg 46 = true› (by decide)
  · rfl
theorem take_dot (l t : List UInt8) (h : l.all isDg = true) (ht : t = [] ∨ ∃ b, t = 46 :: b) : (l ++ t).takeWhile (· != 46) = l ∧ (l ++ t).dropWhile (· != 46) = t := by
  rw [List.takeWhile_append_of_pos (all_not_dot h), List.dropWhile_append_of_pos (all_not_dot h)]
  rcases ht with rfl | ⟨b, rfl⟩
  · exact ⟨List.append_nil _, rfl⟩
  · exact ⟨by show l ++ [] = l; exact List.append_nil _, rfl⟩
theorem numU_decU {n : Nat} (h : n ≤ 63999999999) : numU (decU n) = some n := by
  have h1 : n / 64 < 1000000000 := by omega
  have h2 : n % 64 < 64 := Nat.mod_lt _ (by omega)
  have hf := fracs_fin ⟨n % 64, h2⟩
  simp only at hf
  have hd := take_dot (Lib.decDigits (n / 64)) (fracs (n % 64)) (dec_all _) (by
    unfold fracs
    by_cases h0 : n % 64 = 0
    · rw [if_pos h0]; exact .inl rfl
    · rw [if_neg h0]; exact .inr ⟨_, rfl⟩)
  unfold numU behindDot decU
  rw [hd.1, hd.2, dec_ok h1, valD_dec]
  unfold fracs
  by_cases h0 : n % 64 = 0
  · rw [if_pos h0]
    have e6 : okD 6 [48] = true := by decide
    have ev : 64 * valD [48] / 10 ^ ([48] : List UInt8).length = 0 := by decide
    simp only [e6, ev, Bool.and_self, if_true, Option.some.injEq]
    omega
  · rw [if_neg h0]
    obtain ⟨f1, f2⟩ := hf.resolve_left h0
    simp only [f1, f2, Bool.and_self, if_true, Option.some.injEq]
    omega
theorem dec_first (u : Nat) : ∃ c t, Lib.decDigits u = c :: t ∧ isDg c = true := by
  have h := dec_all u
  have h1 := Lib.decDigits_length u
  have h3 := Lib.nDigits_pos u
  cases e : Lib.decDigits u with
  | nil => rw [e] at h1; simp only [List.length_nil] at h1; omega
  | cons c t => rw [e] at h; exact ⟨c, t, rfl, List.all_eq_true.1 h c (by simp)⟩
theorem numL_neg (t : List UInt8) : numL (45 :: t) = Option.map (fun n : Nat => -(n : Int)) (numU t) := by unfold numL; exact if_pos rfl
theorem numL_pos {c : UInt8} (t : List UInt8) (h : ¬ c = 45) : numL (c :: t) = Option.map (fun n : Nat => (n : Int)) (numU (c :: t)) := by unfold numL; exact if_neg h
theorem numL_decL {n : Int} (h1 : -63999999999 ≤ n) (h2 : n ≤ 63999999999) : numL (decL n) = some n := by
  unfold decL
  by_cases h : n < 0
  · rw [if_pos h]
    rw [numL_neg, numU_decU (by omega)]
    simp only [Option.map_some, Option.some.injEq]
    omega
  · rw [if_neg h]
    obtain ⟨c, t, e, hc⟩ := dec_first (n.toNat / 64)
    have hn := numU_decU (n := n.toNat) (by omega)
    have e2 : decU n.toNat = c :: (t ++ fracs (n.toNat % 64)) := by unfold decU; rw [e]; rfl
    rw [e2] at hn ⊢
    rw [numL_pos _ (by rintro rfl; revert hc; decide), hn]
    simp only [Option.map_some, Option.some.injEq]
    omega
end Go.Proofs.YtdfcahdipalmkaaGreatDoor
/- Package value's tables, and what its functions are to answer; what is printed is read as what it was. Conditions: none. -/
namespace Go.Proofs.YtdfcahdipalmkaaGreatDoor
/-- Has a property values of a kind? -/
def hasP (p k : Int) : Bool :=
  if k = 1 then decide (2 ≤ p ∧ p ≤ 7) else if k = 2 then decide ((2 ≤ p ∧ p ≤ 15) ∨ p = 18 ∨ p = 25 ∨ p = 26) else if k = 3 then decide (p = 2 ∨ p = 3)
  else if k = 4 then decide (p = 16 ∨ p = 17) else if k = 5 then decide (p = 1 ∨ p = 19 ∨ p = 22 ∨ p = 23) else if k = 6 then decide (p = 20 ∨ p = 21 ∨ p = 24) else false
def belowP (p : Int) : Bool := decide ((4 ≤ p ∧ p ≤ 7) ∨ (24 ≤ p ∧ p ≤ 26))
def wordsP (p : Int) : List (List UInt8) :=
  if p = 1 then [[98, 108, 111, 99, 107], [105, 110, 108, 105, 110, 101], [102, 108, 101, 120], [110, 111, 110, 101]]
  else if p = 19 then [[108, 101, 102, 116], [99, 101, 110, 116, 101, 114], [114, 105, 103, 104, 116]]
  else if p = 22 then [[114, 111, 119], [99, 111, 108, 117, 109, 110]]
  else if p = 23 then [[115, 116, 97, 114, 116], [99, 101, 110, 116, 101, 114], [101, 110, 100], [98, 101, 116, 119, 101, 101, 110]] else []
def mayP (p k n : Int) : Bool :=
  hasP p k && (if k = 1 then decide (n = 0) else if k = 4 then decide (0 ≤ n ∧ n < 16777216) else if k = 5 then decide (0 ≤ n ∧ n < (wordsP p).length) else decide (n ≤ 63999999999 ∧ (0 ≤ n ∨ (belowP p = true ∧ -63999999999 ≤ n))))
/-- A digit's number by sixteen. -/
def hexD (c : UInt8) : Option Nat := if 48 ≤ c ∧ c ≤ 57 then some (c.toNat - 48) else if 97 ≤ c ∧ c ≤ 102 then some (c.toNat - 87) else none
def hexV : List UInt8 → Nat → Option Nat
  | [], n => some n
  | c :: t, n => match hexD c with
    | some d => hexV t (16 * n + d)
    | none => none
def colorsT : List (List UInt8 × Nat) := [([98, 108, 97, 99, 107], 0), ([119, 104, 105, 116, 101], 16777215), ([114, 101, 100], 16711680), ([103, 114, 101, 101, 110], 32768), ([98, 108, 117, 101], 255)]
def colorL (l : List UInt8) : Option Nat := match colorsT.lookup l with
  | some n => some n
  | none => match l with
    | c :: t => if c = 35 ∧ t.length = 6 then hexV t 0 else none
    | [] => none
/-- A text without an end. -/
def cutEnd (e l : List UInt8) : Option (List UInt8) := if l.drop (l.length - e.length) = e ∧ e.length ≤ l.length then some (l.take (l.length - e.length)) else none
def idxOf (l : List UInt8) : List (List UInt8) → Nat → Option Nat
  | [], _ => none
  | x :: t, n => if x = l then some n else idxOf l t (n + 1)
def readK (p k : Int) (l : List UInt8) : Option Int :=
  if k = 1 then (if l = [97, 117, 116, 111] then some 0 else none)
  else if k = 2 then (if l = [48] then some 0 else (cutEnd [112, 120] l).bind numL)
  else if k = 3 then (cutEnd [37] l).bind numL
  else if k = 4 then Option.map (fun n : Nat => (n : Int)) (colorL l)
  else if k = 5 then Option.map (fun n : Nat => (n : Int)) (idxOf l (wordsP p) 0)
  else numL l
def oneP (p k : Int) (l : List UInt8) : Option (Int × Int) := match readK p k l with
  | some n => if mayP p k n then some (k, n) else none
  | none => none
/-- The value, of a kind and a number, of a text that is trimmed, and small. -/
def readP (p : Int) (l : List UInt8) : Option (Int × Int) := ([1, 2, 3, 4, 5, 6] : List Int).findSome? fun k => oneP p k l
def hexC (d : Nat) : UInt8 := if d < 10 then UInt8.ofNat (48 + d) else UInt8.ofNat (87 + d)
def hex6 (n : Nat) : List UInt8 := (List.range 6).map fun i => hexC (n / 16 ^ (5 - i) % 16)
def textP (p k n : Int) : List UInt8 :=
  if k = 1 then [97, 117, 116, 111] else if k = 2 then decL n ++ [112, 120] else if k = 3 then decL n ++ [37] else if k = 4 then 35 :: hex6 n.toNat else if k = 5 then (wordsP p).getD n.toNat [] else decL n
def printP (p k n : Int) : List UInt8 := if mayP p k n then textP p k n else []
theorem one_may {p k : Int} {l : List UInt8} {k' n : Int} (h : oneP p k l = some (k', n)) : k' = k ∧ readK p k l = some n ∧ mayP p k n = true := by
  unfold oneP at h
  cases hr : readK p k l with
  | none => rw [hr] at h; cases h
  | some m =>
    rw [hr] at h
    simp only at h
    split at h
    · rename_i hm
      simp only [Option.some.injEq, Prod.mk.injEq] at h
      obtain ⟨rfl, rfl⟩ := h
      exact ⟨rfl, rfl, hm⟩
    · cases h
/-- What is read may be. -/
theorem read_may {p : Int} {l : List UInt8} {k n : Int} (h : readP p l = some (k, n)) : mayP p k n = true := by
  unfold readP at h
  obtain ⟨a, _, b⟩ := List.exists_of_findSome?_eq_some h
  obtain ⟨rfl, _, hm⟩ := one_may b
  exact hm
theorem has_not {p k n : Int} (h : hasP p k = false) : mayP p k n = false := by unfold mayP; rw [h]; rfl
theorem one_not {p k : Int} {l : List UInt8} (h : hasP p k = false) : oneP p k l = none := by
  unfold oneP
  cases readK p k l with
  | none => rfl
  | some m => simp only; rw [has_not h]; rfl
theorem one_none {p k : Int} {l : List UInt8} (h : readK p k l = none) : oneP p k l = none := by unfold oneP; rw [h]
theorem one_some {p k n : Int} {l : List UInt8} (h : readK p k l = some n) (hm : mayP p k n = true) : oneP p k l = some (k, n) := by unfold oneP; rw [h]; simp only; rw [hm]; rfl
theorem cutEnd_app (a e : List UInt8) : cutEnd e (a ++ e) = some a := by
  unfold cutEnd
  have h1 : (a ++ e).length - e.length = a.length := by rw [List.length_append]; omega
  rw [h1, List.drop_left, List.take_left, if_pos ⟨rfl, by rw [List.length_append]; omega⟩]
/-- A text that ends with another byte has not that end. -/
theorem cutEnd_not {a e : List UInt8} {c d : UInt8} (h : ¬ c = d) : cutEnd (e ++ [d]) (a ++ [c]) = none := by
  unfold cutEnd
  rw [if_neg]
  rintro ⟨h1, h2⟩
  have e1 := congrArg List.getLast? h1
  rw [List.getLast?_drop, if_neg (by simp only [List.length_append, List.length_cons, List.length_nil] at h2 ⊢; omega)] at e1
  rw [List.getLast?_concat, List.getLast?_concat] at e1
  exact h (Option.some.inj e1)
theorem range_of {p k n : Int} (h : mayP p k n = true) (hk : k = 2 ∨ k = 3 ∨ k = 6) : -63999999999 ≤ n ∧ n ≤ 63999999999 := by
  unfold mayP at h
  rw [Bool.and_eq_true] at h
  have h2 := h.2
  rw [if_neg (by omega), if_neg (by omega), if_neg (by omega)] at h2
  have := of_decide_eq_true h2
  omega
theorem hexD_hexC : ∀ d : Fin 16, hexD (hexC d.val) = some d.val := by decide
theorem hex6_val {n : Nat} (h : n < 16777216) : hexV (hex6 n) 0 = some n := by
  unfold hex6
  have e : (List.range 6).map (fun i => hexC (n / 16 ^ (5 - i) % 16)) = [hexC (n / 1048576 % 16), hexC (n / 65536 % 16), hexC (n / 4096 % 16), hexC (n / 256 % 16), hexC (n / 16 % 16), hexC (n / 1 % 16)] := rfl
  rw [e]
  have k : ∀ m, hexD (hexC (m % 16)) = some (m % 16) := fun m => hexD_hexC ⟨m % 16, Nat.mod_lt _ (by omega)⟩
  simp only [hexV, k, Option.some.injEq]
  omega
theorem colors_not (t : List UInt8) : colorsT.lookup (35 :: t) = none := by
  have : ∀ c r, ((35 :: t : List UInt8) == c :: r) = false ∨ c = 35 := by
    intro c r
    by_cases h : c = 35
    · exact .inr h
    · left
      rw [beq_eq_false_iff_ne]
      intro e
      exact h (List.cons.inj e).1.symm
  unfold colorsT
  simp only [List.lookup]
  have q := fun c (hc : ¬ c = 35) r => (this c r).resolve_right hc
  simp only [q 98 (by decide), q 119 (by decide), q 114 (by decide), q 103 (by decide)]
theorem words_fin : ∀ p : Fin 27, ∀ i : Fin 4, i.val < (wordsP p.val).length → idxOf ((wordsP p.val).getD i.val []) (wordsP p.val) 0 = some i.val := by decide
theorem range_has {p k : Int} (h : hasP p k = true) : 1 ≤ p ∧ p ≤ 26 := by
  unfold hasP at h
  split at h
  · have := of_decide_eq_true h; omega
  · split at h
    · have := of_decide_eq_true h; omega
    · split at h
      · have := of_decide_eq_true h; omega
      · split at h
        · have := of_decide_eq_true h; omega
        · split at h
          · have := of_decide_eq_true h; omega
          · split at h
            · have := of_decide_eq_true h; omega
            · cases h
theorem kind_has {p k : Int} (h : hasP p k = true) : k = 1 ∨ k = 2 ∨ k = 3 ∨ k = 4 ∨ k = 5 ∨ k = 6 := by
  unfold hasP at h
  by_cases h1 : k = 1
  · exact .inl h1
  by_cases h2 : k = 2
  · omega
  by_cases h3 : k = 3
  · omega
  by_cases h4 : k = 4
  · omega
  by_cases h5 : k = 5
  · omega
  by_cases h6 : k = 6
  · omega
  rw [if_neg h1, if_neg h2, if_neg h3, if_neg h4, if_neg h5, if_neg h6] at h
  cases h
theorem has_fin : ∀ p : Fin 27, (hasP p.val 4 = true → hasP p.val 1 = false ∧ hasP p.val 2 = false ∧ hasP p.val 3 = false) ∧ (hasP p.val 5 = true → hasP p.val 1 = false ∧ hasP p.val 2 = false ∧ hasP p.val 3 = false ∧ hasP p.val 4 = false) ∧
    (hasP p.val 6 = true → hasP p.val 1 = false ∧ hasP p.val 2 = false ∧ hasP p.val 3 = false ∧ hasP p.val 4 = false ∧ hasP p.val 5 = false) := by decide
theorem nat_of {p k : Int} (h : hasP p k = true) : ∃ q : Fin 27, p = q.val := by
  obtain ⟨a, b⟩ := range_has h
  exact ⟨⟨p.toNat, by omega⟩, by simp only; omega⟩
theorem first_dec (n : Int) : ∃ c t, decL n = c :: t ∧ ¬ c = 97 := by
  unfold decL
  by_cases h : n < 0
  · rw [if_pos h]; exact ⟨_, _, rfl, by decide⟩
  · rw [if_neg h]
    obtain ⟨c, t, e, hc⟩ := dec_first (n.toNat / 64)
    refine ⟨c, t ++ fracs (n.toNat % 64), by unfold decU; rw [e]; rfl, ?_⟩
    rintro rfl
    revert hc; decide
/-- What is printed is read as what it was. -/
theorem read_text {p k n : Int} (h : mayP p k n = true) : readP p (textP p k n) = some (k, n) := by
  have hh : hasP p k = true := by unfold mayP at h; rw [Bool.and_eq_true] at h; exact h.1
  obtain ⟨q, hq⟩ := nat_of hh
  have hf := has_fin q
  rw [← hq] at hf
  unfold readP
  rcases kind_has hh with rfl | rfl | rfl | rfl | rfl | rfl
  · have e : textP p 1 n = [97, 117, 116, 111] := rfl
    have hn : n = 0 := by unfold mayP at h; rw [Bool.and_eq_true] at h; exact of_decide_eq_true h.2
    subst hn
    rw [e]
    have r : readK p 1 [97, 117, 116, 111] = some 0 := rfl
    rw [List.findSome?_cons, one_some r h]
  · have e : textP p 2 n = decL n ++ [112, 120] := rfl
    obtain ⟨c, t, ec, hc⟩ := first_dec n
    have r1 : readK p 1 (decL n ++ [112, 120]) = none := by
      unfold readK
      rw [if_pos rfl, if_neg]
      rw [ec]
      intro q
      exact hc (List.cons.inj q).1
    have r2 : readK p 2 (decL n ++ [112, 120]) = some n := by
      unfold readK
      rw [if_neg (by omega), if_pos rfl, if_neg, cutEnd_app]
      · exact numL_decL (range_of h (by omega)).1 (range_of h (by omega)).2
      · intro q
        have := congrArg List.length q
        simp only [List.length_append, List.length_cons, List.length_nil] at this
        omega
    rw [e, List.findSome?_cons, one_none r1]
    simp only
    rw [List.findSome?_cons, one_some r2 h]
  · have e : textP p 3 n = decL n ++ [37] := rfl
    obtain ⟨c, t, ec, hc⟩ := first_dec n
    have r1 : readK p 1 (decL n ++ [37]) = none := by
      unfold readK
      rw [if_pos rfl, if_neg]
      rw [ec]
      intro q
      exact hc (List.cons.inj q).1
    have r2 : readK p 2 (decL n ++ [37]) = none := by
      unfold readK
      rw [if_neg (by omega), if_pos rfl, if_neg, show ([112, 120] : List UInt8) = [112] ++ [120] from rfl, cutEnd_not (by decide)]
      · rfl
      · rw [ec]
        intro q
        have := congrArg List.length q
        simp only [List.length_append, List.length_cons, List.length_nil] at this
        omega
    have r3 : readK p 3 (decL n ++ [37]) = some n := by
      unfold readK
      rw [if_neg (by omega), if_neg (by omega), if_pos rfl, cutEnd_app]
      exact numL_decL (range_of h (by omega)).1 (range_of h (by omega)).2
    rw [e, List.findSome?_cons, one_none r1]
    simp only
    rw [List.findSome?_cons, one_none r2]
    simp only
    rw [List.findSome?_cons, one_some r3 h]
  · obtain ⟨f1, f2, f3⟩ := hf.1 hh
    have hn : 0 ≤ n ∧ n < 16777216 := by unfold mayP at h; rw [Bool.and_eq_true] at h; exact of_decide_eq_true h.2
    have r4 : readK p 4 (textP p 4 n) = some n := by
      show Option.map _ (colorL (35 :: hex6 n.toNat)) = _
      have : colorL (35 :: hex6 n.toNat) = some n.toNat := by
        unfold colorL
        rw [colors_not]
        simp only
        rw [if_pos ⟨trivial, by unfold hex6; simp⟩, hex6_val (by omega)]
      rw [this]
      simp only [Option.map_some, Option.some.injEq]
      omega
    rw [List.findSome?_cons, one_not f1]
    simp only
    rw [List.findSome?_cons, one_not f2]
    simp only
    rw [List.findSome?_cons, one_not f3]
    simp only
    rw [List.findSome?_cons, one_some r4 h]
  · obtain ⟨f1, f2, f3, f4⟩ := hf.2.1 hh
    have hn : 0 ≤ n ∧ n < (wordsP p).length := by unfold mayP at h; rw [Bool.and_eq_true] at h; exact of_decide_eq_true h.2
    have r5 : readK p 5 (textP p 5 n) = some n := by
      show Option.map _ (idxOf ((wordsP p).getD n.toNat []) (wordsP p) 0) = _
      have hl : (wordsP p).length ≤ 4 := by
        have : ∀ q : Fin 27, (wordsP q.val).length ≤ 4 := by decide
        rw [hq]; exact this q
      have := words_fin q ⟨n.toNat, by omega⟩ (by rw [← hq]; simp only; omega)
      rw [← hq] at this
      simp only at this
      rw [this]
      simp only [Option.map_some, Option.some.injEq]
      omega
    rw [List.findSome?_cons, one_not f1]
    simp only
    rw [List.findSome?_cons, one_not f2]
    simp only
    rw [List.findSome?_cons, one_not f3]
    simp only
    rw [List.findSome?_cons, one_not f4]
    simp only
    rw [List.findSome?_cons, one_some r5 h]
  · obtain ⟨f1, f2, f3, f4, f5⟩ := hf.2.2 hh
    have r6 : readK p 6 (textP p 6 n) = some n := numL_decL (range_of h (by omega)).1 (range_of h (by omega)).2
    rw [List.findSome?_cons, one_not f1]
    simp only
    rw [List.findSome?_cons, one_not f2]
    simp only
    rw [List.findSome?_cons, one_not f3]
    simp only
    rw [List.findSome?_cons, one_not f4]
    simp only
    rw [List.findSome?_cons, one_not f5]
    simp only
    rw [List.findSome?_cons, one_some r6 h]
end Go.Proofs.YtdfcahdipalmkaaGreatDoor
/- Package value: texts as printed are trimmed and small; names; what is at first; whole pixels and quarters. Conditions: none. -/
namespace Go.Proofs.YtdfcahdipalmkaaGreatDoor
def plainC (c : UInt8) : Bool := !isBlank c && decide (lowC c = c)
theorem plain_same {l : List UInt8} (h : ∀ c ∈ l, plainC c = true) : lowL (trimL l) = l := by
  have hb : ∀ c ∈ l, isBlank c = false := fun c hc => by
    have := h c hc
    unfold plainC at this
    rw [Bool.and_eq_true, Bool.not_eq_true'] at this
    exact this.1
  have hl : ∀ c ∈ l, lowC c = c := fun c hc => by
    have := h c hc
    unfold plainC at this
    rw [Bool.and_eq_true] at this
    exact of_decide_eq_true this.2
  have e1 : l.dropWhile isBlank = l := dropWhile_self fun a t e => hb a (by rw [e]; exact List.mem_cons_self)
  have e2 : l.reverse.dropWhile isBlank = l.reverse := dropWhile_self fun a t e => hb a (by
    have : a ∈ l.reverse := by rw [e]; exact List.mem_cons_self
    exact List.mem_reverse.1 this)
  unfold trimL lowL
  rw [e1, e2, List.reverse_reverse]
  exact (List.map_congr_left hl).trans (List.map_id' _)
theorem plain_dg {c : UInt8} (h : isDg c = true) : plainC c = true := by
  have : ∀ d : Fin 10, plainC (UInt8.ofNat (48 + d.val)) = true := by decide
  unfold isDg at h
  rw [Bool.and_eq_true] at h
  have h1 : 48 ≤ c.toNat := UInt8.le_iff_toNat_le.1 (of_decide_eq_true h.1)
  have h2 : c.toNat ≤ 57 := UInt8.le_iff_toNat_le.1 (of_decide_eq_true h.2)
  have e : c = UInt8.ofNat (48 + (c.toNat - 48)) := by
    refine UInt8.toNat_inj.1 ?_
    rw [dg_nat (by omega)]
    omega
  rw [e]
  exact this ⟨c.toNat - 48, by omega⟩
theorem fracs_plain : ∀ r : Fin 64, (fracs r.val).all plainC = true := by decide +kernel
theorem plain_decU (n : Nat) : ∀ c ∈ decU n, plainC c = true := by
  intro c hc
  unfold decU at hc
  rcases List.mem_append.1 hc with h | h
  · exact plain_dg (List.all_eq_true.1 (dec_all _) c h)
  · exact List.all_eq_true.1 (fracs_plain ⟨n % 64, Nat.mod_lt _ (by omega)⟩) c h
theorem plain_decL (n : Int) : ∀ c ∈ decL n, plainC c = true := by
  intro c hc
  unfold decL at hc
  split at hc
  · rcases List.mem_cons.1 hc with h | h
    · subst h; decide
    · exact plain_decU _ c h
  · exact plain_decU _ c hc
theorem hexC_plain : ∀ d : Fin 16, plainC (hexC d.val) = true := by decide
theorem words_plain : ∀ p : Fin 27, ∀ i : Fin 5, ((wordsP p.val).getD i.val []).all plainC = true := by decide
theorem plain_text {p k n : Int} (h : mayP p k n = true) : ∀ c ∈ textP p k n, plainC c = true := by
  have hh : hasP p k = true := by unfold mayP at h; rw [Bool.and_eq_true] at h; exact h.1
  obtain ⟨q, hq⟩ := nat_of hh
  intro c hc
  have lit : ∀ l : List UInt8, l.all plainC = true → c ∈ l → plainC c = true := fun l hl hm => List.all_eq_true.1 hl c hm
  rcases kind_has hh with rfl | rfl | rfl | rfl | rfl | rfl
  · exact lit [97, 117, 116, 111] (by decide) hc
  · rcases List.mem_append.1 (show c ∈ decL n ++ [112, 120] from hc) with h1 | h1
    · exact plain_decL n c h1
    · exact lit [112, 120] (by decide) h1
  · rcases List.mem_append.1 (show c ∈ decL n ++ [37] from hc) with h1 | h1
    · exact plain_decL n c h1
    · exact lit [37] (by decide) h1
  · rcases List.mem_cons.1 (show c ∈ 35 :: hex6 n.toNat from hc) with h1 | h1
    · subst h1; decide
    · unfold hex6 at h1
      obtain ⟨i, _, rfl⟩ := List.mem_map.1 h1
      exact hexC_plain ⟨_, Nat.mod_lt _ (by omega)⟩
  · have hn : 0 ≤ n ∧ n < (wordsP p).length := by unfold mayP at h; rw [Bool.and_eq_true] at h; exact of_decide_eq_true h.2
    have hl : (wordsP p).length ≤ 4 := by
      have : ∀ q : Fin 27, (wordsP q.val).length ≤ 4 := by decide
      rw [hq]; exact this q
    have := words_plain q ⟨n.toNat, by omega⟩
    rw [← hq] at this
    exact lit _ this hc
  · exact plain_decL n c hc
/-- Read's answer. -/
def readF (p : Int) (l : List UInt8) : Option (Int × Int) := readP p (lowL (trimL l))
theorem print_may {p k n : Int} (h : mayP p k n = true) : readF p (printP p k n) = some (k, n) := by
  unfold printP readF
  rw [if_pos h, plain_same (plain_text h), read_text h]
theorem idxOf_nil : ∀ (ws : List (List UInt8)) (n : Nat), (∀ w ∈ ws, w ≠ []) → idxOf [] ws n = none
  | [], _, _ => rfl
  | x :: t, n, h => by unfold idxOf; rw [if_neg (h x (by simp)), idxOf_nil t (n + 1) (fun w hw => h w (by simp [hw]))]
theorem read_empty (p : Int) : readP p [] = none := by
  have hw : ∀ w ∈ wordsP p, w ≠ [] := by
    intro w hw
    unfold wordsP at hw
    repeat (split at hw; · revert w; decide)
    cases hw
  have r1 : readK p 1 [] = none := rfl
  have r2 : readK p 2 [] = none := by show (cutEnd [112, 120] []).bind numL = none; decide
  have r3 : readK p 3 [] = none := by show (cutEnd [37] []).bind numL = none; decide
  have r4 : readK p 4 [] = none := rfl
  have r5 : readK p 5 [] = none := by
    show Option.map _ (idxOf [] (wordsP p) 0) = none
    rw [idxOf_nil _ _ hw]; rfl
  have r6 : readK p 6 [] = none := rfl
  unfold readP
  simp only [List.findSome?_cons, List.findSome?_nil, one_none r1, one_none r2, one_none r3, one_none r4, one_none r5, one_none r6]
theorem print_not {p k n : Int} (h : mayP p k n = false) : printP p k n = [] ∧ readF p (printP p k n) = none := by
  unfold printP readF
  rw [h]
  exact ⟨rfl, read_empty p⟩
/-! ### names -/
def namesP : List (List UInt8) := [[], [100, 105, 115, 112, 108, 97, 121], [119, 105, 100, 116, 104], [104, 101, 105, 103, 104, 116], [109, 97, 114, 103, 105, 110, 45, 116, 111, 112], [109, 97, 114, 103, 105, 110, 45, 114, 105, 103, 104, 116],
  [109, 97, 114, 103, 105, 110, 45, 98, 111, 116, 116, 111, 109], [109, 97, 114, 103, 105, 110, 45, 108, 101, 102, 116], [112, 97, 100, 100, 105, 110, 103, 45, 116, 111, 112], [112, 97, 100, 100, 105, 110, 103, 45, 114, 105, 103, 104, 116],
  [112, 97, 100, 100, 105, 110, 103, 45, 98, 111, 116, 116, 111, 109], [112, 97, 100, 100, 105, 110, 103, 45, 108, 101, 102, 116], [98, 111, 114, 100, 101, 114, 45, 116, 111, 112, 45, 119, 105, 100, 116, 104],
  [98, 111, 114, 100, 101, 114, 45, 114, 105, 103, 104, 116, 45, 119, 105, 100, 116, 104], [98, 111, 114, 100, 101, 114, 45, 98, 111, 116, 116, 111, 109, 45, 119, 105, 100, 116, 104], [98, 111, 114, 100, 101, 114, 45, 108, 101, 102, 116, 45, 119, 105, 100, 116, 104],
  [99, 111, 108, 111, 114], [98, 97, 99, 107, 103, 114, 111, 117, 110, 100, 45, 99, 111, 108, 111, 114], [102, 111, 110, 116, 45, 115, 105, 122, 101], [116, 101, 120, 116, 45, 97, 108, 105, 103, 110], [102, 108, 101, 120, 45, 103, 114, 111, 119],
  [102, 108, 101, 120, 45, 115, 104, 114, 105, 110, 107], [102, 108, 101, 120, 45, 100, 105, 114, 101, 99, 116, 105, 111, 110], [106, 117, 115, 116, 105, 102, 121, 45, 99, 111, 110, 116, 101, 110, 116], [111, 114, 100, 101, 114], [108, 101, 102, 116], [116, 111, 112]]
def nameP (p : Int) : List UInt8 := if 0 ≤ p ∧ p < 27 then namesP.getD p.toNat [] else []
/-- The first property from 1 on of that name. -/
def propP (l : List UInt8) : Int := match (List.range 26).find? (fun i => namesP.getD (i + 1) [] == l) with
  | some i => i + 1
  | none => 0
theorem names_len : namesP.length = 27 := by decide
theorem prop_fin : ∀ p : Fin 26, propP (namesP.getD (p.val + 1) []) = p.val + 1 := by decide +kernel
theorem prop_name {p : Int} (h1 : 1 ≤ p) (h2 : p ≤ 26) : propP (nameP p) = p := by
  have := prop_fin ⟨p.toNat - 1, by omega⟩
  simp only at this
  rw [show p.toNat - 1 + 1 = p.toNat by omega] at this
  unfold nameP
  rw [if_pos (by omega), this]
  omega
theorem name_prop (l : List UInt8) : 0 ≤ propP l ∧ propP l < 27 ∧ (propP l ≠ 0 → nameP (propP l) = l) := by
  unfold propP
  cases h : (List.range 26).find? (fun i => namesP.getD (i + 1) [] == l) with
  | none => exact ⟨by simp, by simp, fun q => absurd rfl q⟩
  | some i =>
    have h1 := List.find?_some h
    have h2 := List.mem_range.1 (List.mem_of_find?_eq_some h)
    simp only at h1 ⊢
    refine ⟨by omega, by omega, fun _ => ?_⟩
    unfold nameP
    rw [if_pos (by omega), show ((i : Int) + 1).toNat = i + 1 by omega]
    exact eq_of_beq h1
theorem name_else {p : Int} (h : p < 1 ∨ 27 ≤ p) : nameP p = [] := by
  unfold nameP
  by_cases h0 : p = 0
  · subst h0; rfl
  · rw [if_neg (by omega)]
/-! ### what is at first -/
def firstP (p : Int) : Int × Int :=
  if p = 1 then (5, 1) else if p = 2 ∨ p = 3 then (1, 0) else if p = 16 then (4, 0) else if p = 17 then (4, 16777215) else if p = 18 then (2, 1024) else if p = 19 ∨ p = 22 ∨ p = 23 then (5, 0)
  else if p = 20 ∨ p = 24 then (6, 0) else if p = 21 then (6, 64) else if (4 ≤ p ∧ p ≤ 15) ∨ p = 25 ∨ p = 26 then (2, 0) else (0, 0)
theorem first_fin : ∀ p : Fin 26, mayP (p.val + 1) (firstP (p.val + 1)).1 (firstP (p.val + 1)).2 = true := by decide
theorem first_may {p : Int} (h1 : 1 ≤ p) (h2 : p ≤ 26) : mayP p (firstP p).1 (firstP p).2 = true := by
  have := first_fin ⟨p.toNat - 1, by omega⟩
  simp only at this
  rwa [show ((p.toNat - 1 : Nat) : Int) + 1 = p by omega] at this
theorem first_else {p : Int} (h : p < 1 ∨ 27 ≤ p) : firstP p = (0, 0) := by
  unfold firstP
  repeat rw [if_neg (by omega)]
/-! ### whole pixels, and quarters -/
def quarterL (q : Nat) : List UInt8 := if q = 0 then [] else if q = 1 then [46, 50, 53] else if q = 2 then [46, 53, 48] else [46, 55, 53]
def unitsL (n q : Nat) : List UInt8 := Lib.decDigits n ++ quarterL q
theorem numU_units {n q : Nat} (h : n ≤ 999999999) (hq : q ≤ 3) : numU (unitsL n q) = some (n * 64 + q * 16) := by
  have hd := take_dot (Lib.decDigits n) (quarterL q) (dec_all _) (by
    unfold quarterL
    by_cases h0 : q = 0
    · rw [if_pos h0]; exact .inl rfl
    · rw [if_neg h0]
      by_cases h1 : q = 1
      · rw [if_pos h1]; exact .inr ⟨_, rfl⟩
      · rw [if_neg h1]
        by_cases h2 : q = 2
        · rw [if_pos h2]; exact .inr ⟨_, rfl⟩
        · rw [if_neg h2]; exact .inr ⟨_, rfl⟩)
  unfold numU behindDot unitsL
  rw [hd.1, hd.2, dec_ok (by omega), valD_dec]
  have hc : q = 0 ∨ q = 1 ∨ q = 2 ∨ q = 3 := by omega
  rcases hc with rfl | rfl | rfl | rfl
  · have e6 : okD 6 [48] = true := by decide
    have ev : 64 * valD [48] / 10 ^ ([48] : List UInt8).length = 0 := by decide
    simp only [quarterL, if_true, e6, ev, Bool.and_self, Option.some.injEq]
    omega
  · have e6 : okD 6 [50, 53] = true := by decide
    have ev : 64 * valD [50, 53] / 10 ^ ([50, 53] : List UInt8).length = 16 := by decide
    simp only [quarterL, show ¬ (1 : Nat) = 0 by decide, if_false, if_true, e6, ev, Bool.and_self, Option.some.injEq]
    omega
  · have e6 : okD 6 [53, 48] = true := by decide
    have ev : 64 * valD [53, 48] / 10 ^ ([53, 48] : List UInt8).length = 32 := by decide
    simp only [quarterL, show ¬ (2 : Nat) = 0 by decide, show ¬ (2 : Nat) = 1 by decide, if_false, if_true, e6, ev, Bool.and_self, Option.some.injEq]
    omega
  · have e6 : okD 6 [55, 53] = true := by decide
    have ev : 64 * valD [55, 53] / 10 ^ ([55, 53] : List UInt8).length = 48 := by decide
    simp only [quarterL, show ¬ (3 : Nat) = 0 by decide, show ¬ (3 : Nat) = 1 by decide, show ¬ (3 : Nat) = 2 by decide, if_false, if_true, e6, ev, Bool.and_self, Option.some.injEq]
    omega
theorem plain_units (n q : Nat) : ∀ c ∈ unitsL n q, plainC c = true := by
  intro c hc
  rcases List.mem_append.1 hc with h | h
  · exact plain_dg (List.all_eq_true.1 (dec_all _) c h)
  · unfold quarterL at h
    have lit : ∀ l : List UInt8, l.all plainC = true → c ∈ l → plainC c = true := fun l hl hm => List.all_eq_true.1 hl c hm
    split at h
    · cases h
    · split at h
      · exact lit _ (by decide) h
      · split at h
        · exact lit _ (by decide) h
        · exact lit _ (by decide) h
theorem first_units (n q : Nat) : ∃ c t, unitsL n q = c :: t ∧ isDg c = true := by
  obtain ⟨c, t, e, hc⟩ := dec_first n
  exact ⟨c, t ++ quarterL q, by unfold unitsL; rw [e]; rfl, hc⟩
theorem numL_units {n q : Nat} (h : n ≤ 999999999) (hq : q ≤ 3) : numL (unitsL n q) = some ((n * 64 + q * 16 : Nat) : Int) := by
  have hn := numU_units h hq
  obtain ⟨c, t, e, hc⟩ := first_units n q
  rw [e] at hn ⊢
  rw [numL_pos _ (by rintro rfl; revert hc; decide), hn]
  rfl
theorem numL_below {n q : Nat} (h : n ≤ 999999999) (hq : q ≤ 3) : numL (45 :: unitsL n q) = some (-((n * 64 + q * 16 : Nat) : Int)) := by
  rw [numL_neg, numU_units h hq]
  rfl
/-- A length that Left reads. -/
theorem read_left {l : List UInt8} {z : Int} (hp : ∀ c ∈ l, plainC c = true) (hc : ∃ c t, l = c :: t ∧ ¬ c = 97) (hn : numL l = some z) (h1 : -63999999999 ≤ z) (h2 : z ≤ 63999999999) : readF 25 (l ++ [112, 120]) = some (2, z) := by
  obtain ⟨c, t, ec, hc⟩ := hc
  have hs : ∀ c ∈ l ++ [112, 120], plainC c = true := by
    intro c h
    rcases List.mem_append.1 h with h | h
    · exact hp c h
    · exact List.all_eq_true.1 (show ([112, 120] : List UInt8).all plainC = true by decide) c h
  unfold readF
  rw [plain_same hs]
  have r1 : readK 25 1 (l ++ [112, 120]) = none := by
    unfold readK
    rw [if_pos rfl, if_neg]
    rw [ec]
    intro q
    exact hc (List.cons.inj q).1
  have r2 : readK 25 2 (l ++ [112, 120]) = some z := by
    unfold readK
    rw [if_neg (by omega), if_pos rfl, if_neg, cutEnd_app]
    · exact hn
    · intro q
      have := congrArg List.length q
      simp only [List.length_append, List.length_cons, List.length_nil] at this
      omega
  have hm : mayP 25 2 z = true := by
    show (hasP 25 2 && decide (z ≤ 63999999999 ∧ (0 ≤ z ∨ (belowP 25 = true ∧ -63999999999 ≤ z)))) = true
    rw [Bool.and_eq_true]
    exact ⟨by decide, decide_eq_true ⟨h2, .inr ⟨by decide, h1⟩⟩⟩
  unfold readP
  rw [List.findSome?_cons, one_none r1]
  simp only
  rw [List.findSome?_cons, one_some r2 hm]
/-- A percentage that Height reads. -/
theorem read_height {l : List UInt8} {z : Int} (hp : ∀ c ∈ l, plainC c = true) (hc : ∃ c t, l = c :: t ∧ ¬ c = 97) (hn : numL l = some z) (h1 : 0 ≤ z) (h2 : z ≤ 63999999999) : readF 3 (l ++ [37]) = some (3, z) := by
  obtain ⟨c, t, ec, hc⟩ := hc
  have hs : ∀ c ∈ l ++ [37], plainC c = true := by
    intro c h
    rcases List.mem_append.1 h with h | h
    · exact hp c h
    · exact List.all_eq_true.1 (show ([37] : List UInt8).all plainC = true by decide) c h
  unfold readF
  rw [plain_same hs]
  have r1 : readK 3 1 (l ++ [37]) = none := by
    unfold readK
    rw [if_pos rfl, if_neg]
    rw [ec]
    intro q
    exact hc (List.cons.inj q).1
  have r2 : readK 3 2 (l ++ [37]) = none := by
    unfold readK
    rw [if_neg (by omega), if_pos rfl, if_neg, show ([112, 120] : List UInt8) = [112] ++ [120] from rfl, cutEnd_not (by decide)]
    · rfl
    · rw [ec]
      intro q
      have := congrArg List.length q
      simp only [List.length_append, List.length_cons, List.length_nil] at this
      omega
  have r3 : readK 3 3 (l ++ [37]) = some z := by
    unfold readK
    rw [if_neg (by omega), if_neg (by omega), if_pos rfl, cutEnd_app]
    exact hn
  have hm : mayP 3 3 z = true := by
    show (hasP 3 3 && decide (z ≤ 63999999999 ∧ (0 ≤ z ∨ (belowP 3 = true ∧ -63999999999 ≤ z)))) = true
    rw [Bool.and_eq_true]
    exact ⟨by decide, decide_eq_true ⟨h2, .inl h1⟩⟩
  unfold readP
  rw [List.findSome?_cons, one_none r1]
  simp only
  rw [List.findSome?_cons, one_none r2]
  simp only
  rw [List.findSome?_cons, one_some r3 hm]
/-- ValueUnits, as texts. -/
theorem units_read {n q : Nat} (h : n ≤ 999999999) (hq : q ≤ 3) :
    readF 25 (unitsL n q ++ [112, 120]) = some (2, ((n * 64 + q * 16 : Nat) : Int)) ∧ readF 25 (45 :: (unitsL n q ++ [112, 120])) = some (2, -((n * 64 + q * 16 : Nat) : Int)) ∧ readF 3 (unitsL n q ++ [37]) = some (3, ((n * 64 + q * 16 : Nat) : Int)) := by
  obtain ⟨c, t, e, hc⟩ := first_units n q
  have hc' : ¬ c = 97 := by rintro rfl; revert hc; decide
  refine ⟨read_left (plain_units n q) ⟨c, t, e, hc'⟩ (numL_units h hq) (by omega) (by omega), ?_, read_height (plain_units n q) ⟨c, t, e, hc'⟩ (numL_units h hq) (by omega) (by omega)⟩
  exact read_left (l := 45 :: unitsL n q) (fun d hd => by
    rcases List.mem_cons.1 hd with h | h
    · subst h; decide
    · exact plain_units n q d h) ⟨45, _, rfl, by decide⟩ (numL_below h hq) (by omega) (by omega)
end Go.Proofs.YtdfcahdipalmkaaGreatDoor
namespace Go.Proofs.YtdfcahdipalmkaaGreatDoor
open Go.ChangeShapes Go.WideShapes Go.ChangeAt Go.RowKit
def vV (k n : Int) : Value := .agg #[.int .i64 k, .int .i64 n]
def vO : Option (Int × Int) → Value
  | some x => vV x.1 x.2
  | none => vV 0 0
namespace Val
def bruT : List Int := Lib.deBruijn64tab.map fun (n : Nat) => (n : Int)
/-- The tables of Go's library that numbers' texts are read and written by. -/
structure Tabs (w : World) : Prop where
  pow : Lib.TabIs Tryz.prog w "internal/strconv.uint64pow10" .u64 Lib.pow10Tab
  err : ∃ tp p, w.cell? ⟨3, 0, none⟩ = some (.iface tp p)
  bru : Lib.TabIs Tryz.prog w "math/bits.deBruijn64tab" .u8 bruT
  len : ∃ m, w.cell? ⟨0, 0, none⟩ = some (.int .i64 m)
theorem Tabs.at_ {w w' : World} (h : Tabs w) (hb : Below w.heap.size w w') : Tabs w' := by
  refine ⟨(Lib.tabBelow_of_tabIs h.pow) w' hb, ?_, (Lib.tabBelow_of_tabIs h.bru) w' hb, ?_⟩
  · obtain ⟨tp, p, e⟩ := h.err
    exact ⟨tp, p, (hb.cell (p := ⟨3, 0, none⟩) (lt_of_cell' e)).trans e⟩
  · obtain ⟨m, e⟩ := h.len
    exact ⟨m, (hb.cell (p := ⟨0, 0, none⟩) (lt_of_cell' e)).trans e⟩
def ReadC : Prop := ∀ (p : Int) (s : ByteArray) (w : World), s.size ≤ mostB → Tabs w → Calls Tryz.prog 66 #[.int .i64 p, .string s] w fun e w' => e = .returned (.tuple #[vO (readF p s.data.toList), .bool (readF p s.data.toList).isSome]) ∧ Below w.heap.size w w'
def MayC : Prop := ∀ (p k n : Int) (w : World), Calls Tryz.prog 79 #[.int .i64 p, vV k n] w fun e w' => e = .returned (.bool (mayP p k n)) ∧ Below w.heap.size w w'
def PrintC : Prop := ∀ (p k n : Int) (w : World), Tabs w → Calls Tryz.prog 126 #[.int .i64 p, vV k n] w fun e w' => e = .returned (.string (toB (printP p k n))) ∧ Below w.heap.size w w'
def NameC : Prop := ∀ (p : Int) (w : World), Calls Tryz.prog 125 #[.int .i64 p] w fun e w' => e = .returned (.string (toB (nameP p))) ∧ Below w.heap.size w w'
def PropC : Prop := ∀ (s : ByteArray) (w : World), s.size ≤ mostB → Calls Tryz.prog 65 #[.string s] w fun e w' => e = .returned (.int .i64 (propP s.data.toList)) ∧ Below w.heap.size w w'
end Val
end Go.Proofs.YtdfcahdipalmkaaGreatDoor
