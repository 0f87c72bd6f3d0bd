/- Package value: texts as printed are trimmed and small; names; what is at first; whole pixels and quarters. Conditions: none. -/
import Derived.Test.YtcacabpcobmgoaaGreatDoorValSpec
namespace Go.Proofs.YtcacabpcobmgoaaGreatDoor
def plainC (c : UInt8) : Bool := !isBlank c && decide (lowC c = c)
theorem plain_same {l : List UInt8} (h : ∀ c ∈ l, plainC c = true) : lowL (trimL l) = l := by
  have hb : ∀ c ∈ l, isBlank c = false := fun c hc => by
    have := h c hc
    unfold plainC at this
    rw [Bool.and_eq_true, Bool.not_eq_true'] at this
    exact this.1
  have hl : ∀ c ∈ l, lowC c = c := fun c hc => by
    have := h c hc
    unfold plainC at this
    rw [Bool.and_eq_true] at this
    exact of_decide_eq_true this.2
  have e1 : l.dropWhile isBlank = l := dropWhile_self fun a t e => hb a (by rw [e]; exact List.mem_cons_self)
  have e2 : l.reverse.dropWhile isBlank = l.reverse := dropWhile_self fun a t e => hb a (by
    have : a ∈ l.reverse := by rw [e]; exact List.mem_cons_self
    exact List.mem_reverse.1 this)
  unfold trimL lowL
  rw [e1, e2, List.reverse_reverse]
  exact (List.map_congr_left hl).trans (List.map_id' _)
theorem plain_dg {c : UInt8} (h : isDg c = true) : plainC c = true := by
  have : ∀ d : Fin 10, plainC (UInt8.ofNat (48 + d.val)) = true := by decide
  unfold isDg at h
  rw [Bool.and_eq_true] at h
  have h1 : 48 ≤ c.toNat := UInt8.le_iff_toNat_le.1 (of_decide_eq_true h.1)
  have h2 : c.toNat ≤ 57 := UInt8.le_iff_toNat_le.1 (of_decide_eq_true h.2)
  have e : c = UInt8.ofNat (48 + (c.toNat - 48)) := by
    refine UInt8.toNat_inj.1 ?_
    rw [dg_nat (by omega)]
    omega
  rw [e]
  exact this ⟨c.toNat - 48, by omega⟩
theorem fracs_plain : ∀ r : Fin 64, (fracs r.val).all plainC = true := by decide +kernel
theorem plain_decU (n : Nat) : ∀ c ∈ decU n, plainC c = true := by
  intro c hc
  unfold decU at hc
  rcases List.mem_append.1 hc with h | h
  · exact plain_dg (List.all_eq_true.1 (dec_all _) c h)
  · exact List.all_eq_true.1 (fracs_plain ⟨n % 64, Nat.mod_lt _ (by omega)⟩) c h
theorem plain_decL (n : Int) : ∀ c ∈ decL n, plainC c = true := by
  intro c hc
  unfold decL at hc
  split at hc
  · rcases List.mem_cons.1 hc with h | h
    · subst h; decide
    · exact plain_decU _ c h
  · exact plain_decU _ c hc
theorem hexC_plain : ∀ d : Fin 16, plainC (hexC d.val) = true := by decide
theorem words_plain : ∀ p : Fin 27, ∀ i : Fin 5, ((wordsP p.val).getD i.val []).all plainC = true := by decide
theorem plain_text {p k n : Int} (h : mayP p k n = true) : ∀ c ∈ textP p k n, plainC c = true := by
  have hh : hasP p k = true := by unfold mayP at h; rw [Bool.and_eq_true] at h; exact h.1
  obtain ⟨q, hq⟩ := nat_of hh
  intro c hc
  have lit : ∀ l : List UInt8, l.all plainC = true → c ∈ l → plainC c = true := fun l hl hm => List.all_eq_true.1 hl c hm
  rcases kind_has hh with rfl | rfl | rfl | rfl | rfl | rfl
  · exact lit [97, 117, 116, 111] (by decide) hc
  · rcases List.mem_append.1 (show c ∈ decL n ++ [112, 120] from hc) with h1 | h1
    · exact plain_decL n c h1
    · exact lit [112, 120] (by decide) h1
  · rcases List.mem_append.1 (show c ∈ decL n ++ [37] from hc) with h1 | h1
    · exact plain_decL n c h1
    · exact lit [37] (by decide) h1
  · rcases List.mem_cons.1 (show c ∈ 35 :: hex6 n.toNat from hc) with h1 | h1
    · subst h1; decide
    · unfold hex6 at h1
      obtain ⟨i, _, rfl⟩ := List.mem_map.1 h1
      exact hexC_plain ⟨_, Nat.mod_lt _ (by omega)⟩
  · have hn : 0 ≤ n ∧ n < (wordsP p).length := by unfold mayP at h; rw [Bool.and_eq_true] at h; exact of_decide_eq_true h.2
    have hl : (wordsP p).length ≤ 4 := by
      have : ∀ q : Fin 27, (wordsP q.val).length ≤ 4 := by decide
      rw [hq]; exact this q
    have := words_plain q ⟨n.toNat, by omega⟩
    rw [← hq] at this
    exact lit _ this hc
  · exact plain_decL n c hc
/-- Read's answer. -/
def readF (p : Int) (l : List UInt8) : Option (Int × Int) := readP p (lowL (trimL l))
theorem print_may {p k n : Int} (h : mayP p k n = true) : readF p (printP p k n) = some (k, n) := by
  unfold printP readF
  rw [if_pos h, plain_same (plain_text h), read_text h]
theorem idxOf_nil : ∀ (ws : List (List UInt8)) (n : Nat), (∀ w ∈ ws, w ≠ []) → idxOf [] ws n = none
  | [], _, _ => rfl
  | x :: t, n, h => by unfold idxOf; rw [if_neg (h x (by simp)), idxOf_nil t (n + 1) (fun w hw => h w (by simp [hw]))]
theorem read_empty (p : Int) : readP p [] = none := by
  have hw : ∀ w ∈ wordsP p, w ≠ [] := by
    intro w hw
    unfold wordsP at hw
    repeat (split at hw; · revert w; decide)
    cases hw
  have r1 : readK p 1 [] = none := rfl
  have r2 : readK p 2 [] = none := by show (cutEnd [112, 120] []).bind numL = none; decide
  have r3 : readK p 3 [] = none := by show (cutEnd [37] []).bind numL = none; decide
  have r4 : readK p 4 [] = none := rfl
  have r5 : readK p 5 [] = none := by
    show Option.map _ (idxOf [] (wordsP p) 0) = none
    rw [idxOf_nil _ _ hw]; rfl
  have r6 : readK p 6 [] = none := rfl
  unfold readP
  simp only [List.findSome?_cons, List.findSome?_nil, one_none r1, one_none r2, one_none r3, one_none r4, one_none r5, one_none r6]
theorem print_not {p k n : Int} (h : mayP p k n = false) : printP p k n = [] ∧ readF p (printP p k n) = none := by
  unfold printP readF
  rw [h]
  exact ⟨rfl, read_empty p⟩
/-! ### names -/
def namesP : List (List UInt8) := [[], [100, 105, 115, 112, 108, 97, 121], [119, 105, 100, 116, 104], [104, 101, 105, 103, 104, 116], [109, 97, 114, 103, 105, 110, 45, 116, 111, 112], [109, 97, 114, 103, 105, 110, 45, 114, 105, 103, 104, 116],
  [109, 97, 114, 103, 105, 110, 45, 98, 111, 116, 116, 111, 109], [109, 97, 114, 103, 105, 110, 45, 108, 101, 102, 116], [112, 97, 100, 100, 105, 110, 103, 45, 116, 111, 112], [112, 97, 100, 100, 105, 110, 103, 45, 114, 105, 103, 104, 116],
  [112, 97, 100, 100, 105, 110, 103, 45, 98, 111, 116, 116, 111, 109], [112, 97, 100, 100, 105, 110, 103, 45, 108, 101, 102, 116], [98, 111, 114, 100, 101, 114, 45, 116, 111, 112, 45, 119, 105, 100, 116, 104],
  [98, 111, 114, 100, 101, 114, 45, 114, 105, 103, 104, 116, 45, 119, 105, 100, 116, 104], [98, 111, 114, 100, 101, 114, 45, 98, 111, 116, 116, 111, 109, 45, 119, 105, 100, 116, 104], [98, 111, 114, 100, 101, 114, 45, 108, 101, 102, 116, 45, 119, 105, 100, 116, 104],
  [99, 111, 108, 111, 114], [98, 97, 99, 107, 103, 114, 111, 117, 110, 100, 45, 99, 111, 108, 111, 114], [102, 111, 110, 116, 45, 115, 105, 122, 101], [116, 101, 120, 116, 45, 97, 108, 105, 103, 110], [102, 108, 101, 120, 45, 103, 114, 111, 119],
  [102, 108, 101, 120, 45, 115, 104, 114, 105, 110, 107], [102, 108, 101, 120, 45, 100, 105, 114, 101, 99, 116, 105, 111, 110], [106, 117, 115, 116, 105, 102, 121, 45, 99, 111, 110, 116, 101, 110, 116], [111, 114, 100, 101, 114], [108, 101, 102, 116], [116, 111, 112]]
def nameP (p : Int) : List UInt8 := if 0 ≤ p ∧ p < 27 then namesP.getD p.toNat [] else []
/-- The first property from 1 on of that name. -/
def propP (l : List UInt8) : Int := match (List.range 26).find? (fun i => namesP.getD (i + 1) [] == l) with
  | some i => i + 1
  | none => 0
theorem names_len : namesP.length = 27 := by decide
theorem prop_fin : ∀ p : Fin 26, propP (namesP.getD (p.val + 1) []) = p.val + 1 := by decide +kernel
theorem prop_name {p : Int} (h1 : 1 ≤ p) (h2 : p ≤ 26) : propP (nameP p) = p := by
  have := prop_fin ⟨p.toNat - 1, by omega⟩
  simp only at this
  rw [show p.toNat - 1 + 1 = p.toNat by omega] at this
  unfold nameP
  rw [if_pos (by omega), this]
  omega
theorem name_prop (l : List UInt8) : 0 ≤ propP l ∧ propP l < 27 ∧ (propP l ≠ 0 → nameP (propP l) = l) := by
  unfold propP
  cases h : (List.range 26).find? (fun i => namesP.getD (i + 1) [] == l) with
  | none => exact ⟨by simp, by simp, fun q => absurd rfl q⟩
  | some i =>
    have h1 := List.find?_some h
    have h2 := List.mem_range.1 (List.mem_of_find?_eq_some h)
    simp only at h1 ⊢
    refine ⟨by omega, by omega, fun _ => ?_⟩
    unfold nameP
    rw [if_pos (by omega), show ((i : Int) + 1).toNat = i + 1 by omega]
    exact eq_of_beq h1
theorem name_else {p : Int} (h : p < 1 ∨ 27 ≤ p) : nameP p = [] := by
  unfold nameP
  by_cases h0 : p = 0
  · subst h0; rfl
  · rw [if_neg (by omega)]
/-! ### what is at first -/
def firstP (p : Int) : Int × Int :=
  if p = 1 then (5, 1) else if p = 2 ∨ p = 3 then (1, 0) else if p = 16 then (4, 0) else if p = 17 then (4, 16777215) else if p = 18 then (2, 1024) else if p = 19 ∨ p = 22 ∨ p = 23 then (5, 0)
  else if p = 20 ∨ p = 24 then (6, 0) else if p = 21 then (6, 64) else if (4 ≤ p ∧ p ≤ 15) ∨ p = 25 ∨ p = 26 then (2, 0) else (0, 0)
theorem first_fin : ∀ p : Fin 26, mayP (p.val + 1) (firstP (p.val + 1)).1 (firstP (p.val + 1)).2 = true := by decide
theorem first_may {p : Int} (h1 : 1 ≤ p) (h2 : p ≤ 26) : mayP p (firstP p).1 (firstP p).2 = true := by
  have := first_fin ⟨p.toNat - 1, by omega⟩
  simp only at this
  rwa [show ((p.toNat - 1 : Nat) : Int) + 1 = p by omega] at this
theorem first_else {p : Int} (h : p < 1 ∨ 27 ≤ p) : firstP p = (0, 0) := by
  unfold firstP
  repeat rw [if_neg (by omega)]
/-! ### whole pixels, and quarters -/
def quarterL (q : Nat) : List UInt8 := if q = 0 then [] else if q = 1 then [46, 50, 53] else if q = 2 then [46, 53, 48] else [46, 55, 53]
def unitsL (n q : Nat) : List UInt8 := Lib.decDigits n ++ quarterL q
theorem numU_units {n q : Nat} (h : n ≤ 999999999) (hq : q ≤ 3) : numU (unitsL n q) = some (n * 64 + q * 16) := by
  have hd := take_dot (Lib.decDigits n) (quarterL q) (dec_all _) (by
    unfold quarterL
    by_cases h0 : q = 0
    · rw [if_pos h0]; exact .inl rfl
    · rw [if_neg h0]
      by_cases h1 : q = 1
      · rw [if_pos h1]; exact .inr ⟨_, rfl⟩
      · rw [if_neg h1]
        by_cases h2 : q = 2
        · rw [if_pos h2]; exact .inr ⟨_, rfl⟩
        · rw [if_neg h2]; exact .inr ⟨_, rfl⟩)
  unfold numU behindDot unitsL
  rw [hd.1, hd.2, dec_ok (by omega), valD_dec]
  have hc : q = 0 ∨ q = 1 ∨ q = 2 ∨ q = 3 := by omega
  rcases hc with rfl | rfl | rfl | rfl
  · have e6 : okD 6 [48] = true := by decide
    have ev : 64 * valD [48] / 10 ^ ([48] : List UInt8).length = 0 := by decide
    simp only [quarterL, if_true, e6, ev, Bool.and_self, Option.some.injEq]
    omega
  · have e6 : okD 6 [50, 53] = true := by decide
    have ev : 64 * valD [50, 53] / 10 ^ ([50, 53] : List UInt8).length = 16 := by decide
    simp only [quarterL, show ¬ (1 : Nat) = 0 by decide, if_false, if_true, e6, ev, Bool.and_self, Option.some.injEq]
    omega
  · have e6 : okD 6 [53, 48] = true := by decide
    have ev : 64 * valD [53, 48] / 10 ^ ([53, 48] : List UInt8).length = 32 := by decide
    simp only [quarterL, show ¬ (2 : Nat) = 0 by decide, show ¬ (2 : Nat) = 1 by decide, if_false, if_true, e6, ev, Bool.and_self, Option.some.injEq]
    omega
  · have e6 : okD 6 [55, 53] = true := by decide
    have ev : 64 * valD [55, 53] / 10 ^ ([55, 53] : List UInt8).length = 48 := by decide
    simp only [quarterL, show ¬ (3 : Nat) = 0 by decide, show ¬ (3 : Nat) = 1 by decide, show ¬ (3 : Nat) = 2 by decide, if_false, if_true, e6, ev, Bool.and_self, Option.some.injEq]
    omega
theorem plain_units (n q : Nat) : ∀ c ∈ unitsL n q, plainC c = true := by
  intro c hc
  rcases List.mem_append.1 hc with h | h
  · exact plain_dg (List.all_eq_true.1 (dec_all _) c h)
  · unfold quarterL at h
    have lit : ∀ l : List UInt8, l.all plainC = true → c ∈ l → plainC c = true := fun l hl hm => List.all_eq_true.1 hl c hm
    split at h
    · cases h
    · split at h
      · exact lit _ (by decide) h
      · split at h
        · exact lit _ (by decide) h
        · exact lit _ (by decide) h
theorem first_units (n q : Nat) : ∃ c t, unitsL n q = c :: t ∧ isDg c = true := by
  obtain ⟨c, t, e, hc⟩ := dec_first n
  exact ⟨c, t ++ quarterL q, by unfold unitsL; rw [e]; rfl, hc⟩
theorem numL_units {n q : Nat} (h : n ≤ 999999999) (hq : q ≤ 3) : numL (unitsL n q) = some ((n * 64 + q * 16 : Nat) : Int) := by
  have hn := numU_units h hq
  obtain ⟨c, t, e, hc⟩ := first_units n q
  rw [e] at hn ⊢
  rw [numL_pos _ (by rintro rfl; revert hc; decide), hn]
  rfl
theorem numL_below {n q : Nat} (h : n ≤ 999999999) (hq : q ≤ 3) : numL (45 :: unitsL n q) = some (-((n * 64 + q * 16 : Nat) : Int)) := by
  rw [numL_neg, numU_units h hq]
  rfl
/-- A length that Left reads. -/
theorem read_left {l : List UInt8} {z : Int} (hp : ∀ c ∈ l, plainC c = true) (hc : ∃ c t, l = c :: t ∧ ¬ c = 97) (hn : numL l = some z) (h1 : -63999999999 ≤ z) (h2 : z ≤ 63999999999) : readF 25 (l ++ [112, 120]) = some (2, z) := by
  obtain ⟨c, t, ec, hc⟩ := hc
  have hs : ∀ c ∈ l ++ [112, 120], plainC c = true := by
    intro c h
    rcases List.mem_append.1 h with h | h
    · exact hp c h
    · exact List.all_eq_true.1 (show ([112, 120] : List UInt8).all plainC = true by decide) c h
  unfold readF
  rw [plain_same hs]
  have r1 : readK 25 1 (l ++ [112, 120]) = none := by
    unfold readK
    rw [if_pos rfl, if_neg]
    rw [ec]
    intro q
    exact hc (List.cons.inj q).1
  have r2 : readK 25 2 (l ++ [112, 120]) = some z := by
    unfold readK
    rw [if_neg (by omega), if_pos rfl, if_neg, cutEnd_app]
    · exact hn
    · intro q
      have := congrArg List.length q
      simp only [List.length_append, List.length_cons, List.length_nil] at this
      omega
  have hm : mayP 25 2 z = true := by
    show (hasP 25 2 && decide (z ≤ 63999999999 ∧ (0 ≤ z ∨ (belowP 25 = true ∧ -63999999999 ≤ z)))) = true
    rw [Bool.and_eq_true]
    exact ⟨by decide, decide_eq_true ⟨h2, .inr ⟨by decide, h1⟩⟩⟩
  unfold readP
  rw [List.findSome?_cons, one_none r1]
  simp only
  rw [List.findSome?_cons, one_some r2 hm]
/-- A percentage that Height reads. -/
theorem read_height {l : List UInt8} {z : Int} (hp : ∀ c ∈ l, plainC c = true) (hc : ∃ c t, l = c :: t ∧ ¬ c = 97) (hn : numL l = some z) (h1 : 0 ≤ z) (h2 : z ≤ 63999999999) : readF 3 (l ++ [37]) = some (3, z) := by
  obtain ⟨c, t, ec, hc⟩ := hc
  have hs : ∀ c ∈ l ++ [37], plainC c = true := by
    intro c h
    rcases List.mem_append.1 h with h | h
    · exact hp c h
    · exact List.all_eq_true.1 (show ([37] : List UInt8).all plainC = true by decide) c h
  unfold readF
  rw [plain_same hs]
  have r1 : readK 3 1 (l ++ [37]) = none := by
    unfold readK
    rw [if_pos rfl, if_neg]
    rw [ec]
    intro q
    exact hc (List.cons.inj q).1
  have r2 : readK 3 2 (l ++ [37]) = none := by
    unfold readK
    rw [if_neg (by omega), if_pos rfl, if_neg, show ([112, 120] : List UInt8) = [112] ++ [120] from rfl, cutEnd_not (by decide)]
    · rfl
    · rw [ec]
      intro q
      have := congrArg List.length q
      simp only [List.length_append, List.length_cons, List.length_nil] at this
      omega
  have r3 : readK 3 3 (l ++ [37]) = some z := by
    unfold readK
    rw [if_neg (by omega), if_neg (by omega), if_pos rfl, cutEnd_app]
    exact hn
  have hm : mayP 3 3 z = true := by
    show (hasP 3 3 && decide (z ≤ 63999999999 ∧ (0 ≤ z ∨ (belowP 3 = true ∧ -63999999999 ≤ z)))) = true
    rw [Bool.and_eq_true]
    exact ⟨by decide, decide_eq_true ⟨h2, .inl h1⟩⟩
  unfold readP
  rw [List.findSome?_cons, one_none r1]
  simp only
  rw [List.findSome?_cons, one_none r2]
  simp only
  rw [List.findSome?_cons, one_some r3 hm]
/-- ValueUnits, as texts. -/
theorem units_read {n q : Nat} (h : n ≤ 999999999) (hq : q ≤ 3) :
    readF 25 (unitsL n q ++ [112, 120]) = some (2, ((n * 64 + q * 16 : Nat) : Int)) ∧ readF 25 (45 :: (unitsL n q ++ [112, 120])) = some (2, -((n * 64 + q * 16 : Nat) : Int)) ∧ readF 3 (unitsL n q ++ [37]) = some (3, ((n * 64 + q * 16 : Nat) : Int)) := by
  obtain ⟨c, t, e, hc⟩ := first_units n q
  have hc' : ¬ c = 97 := by rintro rfl; revert hc; decide
  refine ⟨read_left (plain_units n q) ⟨c, t, e, hc'⟩ (numL_units h hq) (by omega) (by omega), ?_, read_height (plain_units n q) ⟨c, t, e, hc'⟩ (numL_units h hq) (by omega) (by omega)⟩
  exact read_left (l := 45 :: unitsL n q) (fun d hd => by
    rcases List.mem_cons.1 hd with h | h
    · subst h; decide
    · exact plain_units n q d h) ⟨45, _, rfl, by decide⟩ (numL_below h hq) (by omega) (by omega)
end Go.Proofs.YtcacabpcobmgoaaGreatDoor
