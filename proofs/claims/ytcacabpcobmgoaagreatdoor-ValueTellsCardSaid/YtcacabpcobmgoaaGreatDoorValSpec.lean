/- Package value's tables, and what its functions are to answer; what is printed is read as what it was. Conditions: none. -/
import Derived.Test.YtcacabpcobmgoaaGreatDoorValMath
namespace Go.Proofs.YtcacabpcobmgoaaGreatDoor
/-- Has a property values of a kind? -/
def hasP (p k : Int) : Bool :=
  if k = 1 then decide (2 ≤ p ∧ p ≤ 7) else if k = 2 then decide ((2 ≤ p ∧ p ≤ 15) ∨ p = 18 ∨ p = 25 ∨ p = 26) else if k = 3 then decide (p = 2 ∨ p = 3)
  else if k = 4 then decide (p = 16 ∨ p = 17) else if k = 5 then decide (p = 1 ∨ p = 19 ∨ p = 22 ∨ p = 23) else if k = 6 then decide (p = 20 ∨ p = 21 ∨ p = 24) else false
def belowP (p : Int) : Bool := decide ((4 ≤ p ∧ p ≤ 7) ∨ (24 ≤ p ∧ p ≤ 26))
def wordsP (p : Int) : List (List UInt8) :=
  if p = 1 then [[98, 108, 111, 99, 107], [105, 110, 108, 105, 110, 101], [102, 108, 101, 120], [110, 111, 110, 101]]
  else if p = 19 then [[108, 101, 102, 116], [99, 101, 110, 116, 101, 114], [114, 105, 103, 104, 116]]
  else if p = 22 then [[114, 111, 119], [99, 111, 108, 117, 109, 110]]
  else if p = 23 then [[115, 116, 97, 114, 116], [99, 101, 110, 116, 101, 114], [101, 110, 100], [98, 101, 116, 119, 101, 101, 110]] else []
def mayP (p k n : Int) : Bool :=
  hasP p k && (if k = 1 then decide (n = 0) else if k = 4 then decide (0 ≤ n ∧ n < 16777216) else if k = 5 then decide (0 ≤ n ∧ n < (wordsP p).length) else decide (n ≤ 63999999999 ∧ (0 ≤ n ∨ (belowP p = true ∧ -63999999999 ≤ n))))
/-- A digit's number by sixteen. -/
def hexD (c : UInt8) : Option Nat := if 48 ≤ c ∧ c ≤ 57 then some (c.toNat - 48) else if 97 ≤ c ∧ c ≤ 102 then some (c.toNat - 87) else none
def hexV : List UInt8 → Nat → Option Nat
  | [], n => some n
  | c :: t, n => match hexD c with
    | some d => hexV t (16 * n + d)
    | none => none
def colorsT : List (List UInt8 × Nat) := [([98, 108, 97, 99, 107], 0), ([119, 104, 105, 116, 101], 16777215), ([114, 101, 100], 16711680), ([103, 114, 101, 101, 110], 32768), ([98, 108, 117, 101], 255)]
def colorL (l : List UInt8) : Option Nat := match colorsT.lookup l with
  | some n => some n
  | none => match l with
    | c :: t => if c = 35 ∧ t.length = 6 then hexV t 0 else none
    | [] => none
/-- A text without an end. -/
def cutEnd (e l : List UInt8) : Option (List UInt8) := if l.drop (l.length - e.length) = e ∧ e.length ≤ l.length then some (l.take (l.length - e.length)) else none
def idxOf (l : List UInt8) : List (List UInt8) → Nat → Option Nat
  | [], _ => none
  | x :: t, n => if x = l then some n else idxOf l t (n + 1)
def readK (p k : Int) (l : List UInt8) : Option Int :=
  if k = 1 then (if l = [97, 117, 116, 111] then some 0 else none)
  else if k = 2 then (if l = [48] then some 0 else (cutEnd [112, 120] l).bind numL)
  else if k = 3 then (cutEnd [37] l).bind numL
  else if k = 4 then Option.map (fun n : Nat => (n : Int)) (colorL l)
  else if k = 5 then Option.map (fun n : Nat => (n : Int)) (idxOf l (wordsP p) 0)
  else numL l
def oneP (p k : Int) (l : List UInt8) : Option (Int × Int) := match readK p k l with
  | some n => if mayP p k n then some (k, n) else none
  | none => none
/-- The value, of a kind and a number, of a text that is trimmed, and small. -/
def readP (p : Int) (l : List UInt8) : Option (Int × Int) := ([1, 2, 3, 4, 5, 6] : List Int).findSome? fun k => oneP p k l
def hexC (d : Nat) : UInt8 := if d < 10 then UInt8.ofNat (48 + d) else UInt8.ofNat (87 + d)
def hex6 (n : Nat) : List UInt8 := (List.range 6).map fun i => hexC (n / 16 ^ (5 - i) % 16)
def textP (p k n : Int) : List UInt8 :=
  if k = 1 then [97, 117, 116, 111] else if k = 2 then decL n ++ [112, 120] else if k = 3 then decL n ++ [37] else if k = 4 then 35 :: hex6 n.toNat else if k = 5 then (wordsP p).getD n.toNat [] else decL n
def printP (p k n : Int) : List UInt8 := if mayP p k n then textP p k n else []
theorem one_may {p k : Int} {l : List UInt8} {k' n : Int} (h : oneP p k l = some (k', n)) : k' = k ∧ readK p k l = some n ∧ mayP p k n = true := by
  unfold oneP at h
  cases hr : readK p k l with
  | none => rw [hr] at h; cases h
  | some m =>
    rw [hr] at h
    simp only at h
    split at h
    · rename_i hm
      simp only [Option.some.injEq, Prod.mk.injEq] at h
      obtain ⟨rfl, rfl⟩ := h
      exact ⟨rfl, rfl, hm⟩
    · cases h
/-- What is read may be. -/
theorem read_may {p : Int} {l : List UInt8} {k n : Int} (h : readP p l = some (k, n)) : mayP p k n = true := by
  unfold readP at h
  obtain ⟨a, _, b⟩ := List.exists_of_findSome?_eq_some h
  obtain ⟨rfl, _, hm⟩ := one_may b
  exact hm
theorem has_not {p k n : Int} (h : hasP p k = false) : mayP p k n = false := by unfold mayP; rw [h]; rfl
theorem one_not {p k : Int} {l : List UInt8} (h : hasP p k = false) : oneP p k l = none := by
  unfold oneP
  cases readK p k l with
  | none => rfl
  | some m => simp only; rw [has_not h]; rfl
theorem one_none {p k : Int} {l : List UInt8} (h : readK p k l = none) : oneP p k l = none := by unfold oneP; rw [h]
theorem one_some {p k n : Int} {l : List UInt8} (h : readK p k l = some n) (hm : mayP p k n = true) : oneP p k l = some (k, n) := by unfold oneP; rw [h]; simp only; rw [hm]; rfl
theorem cutEnd_app (a e : List UInt8) : cutEnd e (a ++ e) = some a := by
  unfold cutEnd
  have h1 : (a ++ e).length - e.length = a.length := by rw [List.length_append]; omega
  rw [h1, List.drop_left, List.take_left, if_pos ⟨rfl, by rw [List.length_append]; omega⟩]
/-- A text that ends with another byte has not that end. -/
theorem cutEnd_not {a e : List UInt8} {c d : UInt8} (h : ¬ c = d) : cutEnd (e ++ [d]) (a ++ [c]) = none := by
  unfold cutEnd
  rw [if_neg]
  rintro ⟨h1, h2⟩
  have e1 := congrArg List.getLast? h1
  rw [List.getLast?_drop, if_neg (by simp only [List.length_append, List.length_cons, List.length_nil] at h2 ⊢; omega)] at e1
  rw [List.getLast?_concat, List.getLast?_concat] at e1
  exact h (Option.some.inj e1)
theorem range_of {p k n : Int} (h : mayP p k n = true) (hk : k = 2 ∨ k = 3 ∨ k = 6) : -63999999999 ≤ n ∧ n ≤ 63999999999 := by
  unfold mayP at h
  rw [Bool.and_eq_true] at h
  have h2 := h.2
  rw [if_neg (by omega), if_neg (by omega), if_neg (by omega)] at h2
  have := of_decide_eq_true h2
  omega
theorem hexD_hexC : ∀ d : Fin 16, hexD (hexC d.val) = some d.val := by decide
theorem hex6_val {n : Nat} (h : n < 16777216) : hexV (hex6 n) 0 = some n := by
  unfold hex6
  have e : (List.range 6).map (fun i => hexC (n / 16 ^ (5 - i) % 16)) = [hexC (n / 1048576 % 16), hexC (n / 65536 % 16), hexC (n / 4096 % 16), hexC (n / 256 % 16), hexC (n / 16 % 16), hexC (n / 1 % 16)] := rfl
  rw [e]
  have k : ∀ m, hexD (hexC (m % 16)) = some (m % 16) := fun m => hexD_hexC ⟨m % 16, Nat.mod_lt _ (by omega)⟩
  simp only [hexV, k, Option.some.injEq]
  omega
theorem colors_not (t : List UInt8) : colorsT.lookup (35 :: t) = none := by
  have : ∀ c r, ((35 :: t : List UInt8) == c :: r) = false ∨ c = 35 := by
    intro c r
    by_cases h : c = 35
    · exact .inr h
    · left
      rw [beq_eq_false_iff_ne]
      intro e
      exact h (List.cons.inj e).1.symm
  unfold colorsT
  simp only [List.lookup]
  have q := fun c (hc : ¬ c = 35) r => (this c r).resolve_right hc
  simp only [q 98 (by decide), q 119 (by decide), q 114 (by decide), q 103 (by decide)]
theorem words_fin : ∀ p : Fin 27, ∀ i : Fin 4, i.val < (wordsP p.val).length → idxOf ((wordsP p.val).getD i.val []) (wordsP p.val) 0 = some i.val := by decide
theorem range_has {p k : Int} (h : hasP p k = true) : 1 ≤ p ∧ p ≤ 26 := by
  unfold hasP at h
  split at h
  · have := of_decide_eq_true h; omega
  · split at h
    · have := of_decide_eq_true h; omega
    · split at h
      · have := of_decide_eq_true h; omega
      · split at h
        · have := of_decide_eq_true h; omega
        · split at h
          · have := of_decide_eq_true h; omega
          · split at h
            · have := of_decide_eq_true h; omega
            · cases h
theorem kind_has {p k : Int} (h : hasP p k = true) : k = 1 ∨ k = 2 ∨ k = 3 ∨ k = 4 ∨ k = 5 ∨ k = 6 := by
  unfold hasP at h
  by_cases h1 : k = 1
  · exact .inl h1
  by_cases h2 : k = 2
  · omega
  by_cases h3 : k = 3
  · omega
  by_cases h4 : k = 4
  · omega
  by_cases h5 : k = 5
  · omega
  by_cases h6 : k = 6
  · omega
  rw [if_neg h1, if_neg h2, if_neg h3, if_neg h4, if_neg h5, if_neg h6] at h
  cases h
theorem has_fin : ∀ p : Fin 27, (hasP p.val 4 = true → hasP p.val 1 = false ∧ hasP p.val 2 = false ∧ hasP p.val 3 = false) ∧ (hasP p.val 5 = true → hasP p.val 1 = false ∧ hasP p.val 2 = false ∧ hasP p.val 3 = false ∧ hasP p.val 4 = false) ∧
    (hasP p.val 6 = true → hasP p.val 1 = false ∧ hasP p.val 2 = false ∧ hasP p.val 3 = false ∧ hasP p.val 4 = false ∧ hasP p.val 5 = false) := by decide
theorem nat_of {p k : Int} (h : hasP p k = true) : ∃ q : Fin 27, p = q.val := by
  obtain ⟨a, b⟩ := range_has h
  exact ⟨⟨p.toNat, by omega⟩, by simp only; omega⟩
theorem first_dec (n : Int) : ∃ c t, decL n = c :: t ∧ ¬ c = 97 := by
  unfold decL
  by_cases h : n < 0
  · rw [if_pos h]; exact ⟨_, _, rfl, by decide⟩
  · rw [if_neg h]
    obtain ⟨c, t, e, hc⟩ := dec_first (n.toNat / 64)
    refine ⟨c, t ++ fracs (n.toNat % 64), by unfold decU; rw [e]; rfl, ?_⟩
    rintro rfl
    revert hc; decide
/-- What is printed is read as what it was. -/
theorem read_text {p k n : Int} (h : mayP p k n = true) : readP p (textP p k n) = some (k, n) := by
  have hh : hasP p k = true := by unfold mayP at h; rw [Bool.and_eq_true] at h; exact h.1
  obtain ⟨q, hq⟩ := nat_of hh
  have hf := has_fin q
  rw [← hq] at hf
  unfold readP
  rcases kind_has hh with rfl | rfl | rfl | rfl | rfl | rfl
  · have e : textP p 1 n = [97, 117, 116, 111] := rfl
    have hn : n = 0 := by unfold mayP at h; rw [Bool.and_eq_true] at h; exact of_decide_eq_true h.2
    subst hn
    rw [e]
    have r : readK p 1 [97, 117, 116, 111] = some 0 := rfl
    rw [List.findSome?_cons, one_some r h]
  · have e : textP p 2 n = decL n ++ [112, 120] := rfl
    obtain ⟨c, t, ec, hc⟩ := first_dec n
    have r1 : readK p 1 (decL n ++ [112, 120]) = none := by
      unfold readK
      rw [if_pos rfl, if_neg]
      rw [ec]
      intro q
      exact hc (List.cons.inj q).1
    have r2 : readK p 2 (decL n ++ [112, 120]) = some n := by
      unfold readK
      rw [if_neg (by omega), if_pos rfl, if_neg, cutEnd_app]
      · exact numL_decL (range_of h (by omega)).1 (range_of h (by omega)).2
      · intro q
        have := congrArg List.length q
        simp only [List.length_append, List.length_cons, List.length_nil] at this
        omega
    rw [e, List.findSome?_cons, one_none r1]
    simp only
    rw [List.findSome?_cons, one_some r2 h]
  · have e : textP p 3 n = decL n ++ [37] := rfl
    obtain ⟨c, t, ec, hc⟩ := first_dec n
    have r1 : readK p 1 (decL n ++ [37]) = none := by
      unfold readK
      rw [if_pos rfl, if_neg]
      rw [ec]
      intro q
      exact hc (List.cons.inj q).1
    have r2 : readK p 2 (decL n ++ [37]) = none := by
      unfold readK
      rw [if_neg (by omega), if_pos rfl, if_neg, show ([112, 120] : List UInt8) = [112] ++ [120] from rfl, cutEnd_not (by decide)]
      · rfl
      · rw [ec]
        intro q
        have := congrArg List.length q
        simp only [List.length_append, List.length_cons, List.length_nil] at this
        omega
    have r3 : readK p 3 (decL n ++ [37]) = some n := by
      unfold readK
      rw [if_neg (by omega), if_neg (by omega), if_pos rfl, cutEnd_app]
      exact numL_decL (range_of h (by omega)).1 (range_of h (by omega)).2
    rw [e, List.findSome?_cons, one_none r1]
    simp only
    rw [List.findSome?_cons, one_none r2]
    simp only
    rw [List.findSome?_cons, one_some r3 h]
  · obtain ⟨f1, f2, f3⟩ := hf.1 hh
    have hn : 0 ≤ n ∧ n < 16777216 := by unfold mayP at h; rw [Bool.and_eq_true] at h; exact of_decide_eq_true h.2
    have r4 : readK p 4 (textP p 4 n) = some n := by
      show Option.map _ (colorL (35 :: hex6 n.toNat)) = _
      have : colorL (35 :: hex6 n.toNat) = some n.toNat := by
        unfold colorL
        rw [colors_not]
        simp only
        rw [if_pos ⟨trivial, by unfold hex6; simp⟩, hex6_val (by omega)]
      rw [this]
      simp only [Option.map_some, Option.some.injEq]
      omega
    rw [List.findSome?_cons, one_not f1]
    simp only
    rw [List.findSome?_cons, one_not f2]
    simp only
    rw [List.findSome?_cons, one_not f3]
    simp only
    rw [List.findSome?_cons, one_some r4 h]
  · obtain ⟨f1, f2, f3, f4⟩ := hf.2.1 hh
    have hn : 0 ≤ n ∧ n < (wordsP p).length := by unfold mayP at h; rw [Bool.and_eq_true] at h; exact of_decide_eq_true h.2
    have r5 : readK p 5 (textP p 5 n) = some n := by
      show Option.map _ (idxOf ((wordsP p).getD n.toNat []) (wordsP p) 0) = _
      have hl : (wordsP p).length ≤ 4 := by
        have : ∀ q : Fin 27, (wordsP q.val).length ≤ 4 := by decide
        rw [hq]; exact this q
      have := words_fin q ⟨n.toNat, by omega⟩ (by rw [← hq]; simp only; omega)
      rw [← hq] at this
      simp only at this
      rw [this]
      simp only [Option.map_some, Option.some.injEq]
      omega
    rw [List.findSome?_cons, one_not f1]
    simp only
    rw [List.findSome?_cons, one_not f2]
    simp only
    rw [List.findSome?_cons, one_not f3]
    simp only
    rw [List.findSome?_cons, one_not f4]
    simp only
    rw [List.findSome?_cons, one_some r5 h]
  · obtain ⟨f1, f2, f3, f4, f5⟩ := hf.2.2 hh
    have r6 : readK p 6 (textP p 6 n) = some n := numL_decL (range_of h (by omega)).1 (range_of h (by omega)).2
    rw [List.findSome?_cons, one_not f1]
    simp only
    rw [List.findSome?_cons, one_not f2]
    simp only
    rw [List.findSome?_cons, one_not f3]
    simp only
    rw [List.findSome?_cons, one_not f4]
    simp only
    rw [List.findSome?_cons, one_not f5]
    simp only
    rw [List.findSome?_cons, one_some r6 h]
end Go.Proofs.YtcacabpcobmgoaaGreatDoor
