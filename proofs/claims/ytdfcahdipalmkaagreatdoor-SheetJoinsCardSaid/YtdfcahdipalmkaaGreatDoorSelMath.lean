/- The plain mathematics of selectors: what is read, printed, weighed. Conditions: none. -/
import Derived.Test.YtdfcahdipalmkaaGreatDoorTokMath2
namespace Go.Proofs.YtdfcahdipalmkaaGreatDoor
namespace Sel
open Tok
/-- One part of a selector. -/
structure Sim where
  tag : List UInt8
  ids : List (List UInt8)
  classes : List (List UInt8)
  link : Bool
  visited : Bool
deriving DecidableEq
/-- A selector. -/
structure Slr where
  parts : List Sim
  close : List Bool
deriving DecidableEq
def isBt (c : UInt8) : Bool := isBlank c || c == 62
def isBg (c : UInt8) : Bool := c == 35 || c == 46 || c == 58
/-- What stands between two parts: was there a >, and what comes behind. -/
def gap : Bool → List UInt8 → Option (Bool × List UInt8)
  | k, [] => some (k, [])
  | k, c :: t => if c = 62 then (if k then none else gap true t) else if isBlank c then gap k t else some (k, c :: t)
def txt (l : List UInt8) : List UInt8 := l.takeWhile fun c => !isBt c
def rst (l : List UInt8) : List UInt8 := l.dropWhile fun c => !isBt c
def partF : Nat → List UInt8 → Option (List (List UInt8) × List Bool)
  | 0, _ => none
  | f + 1, l => match gap false (rst l) with
    | none => none
    | some (k, []) => if k then none else some ([txt l], [])
    | some (k, c :: r) => match partF f (c :: r) with
      | none => none
      | some (ts, cs) => some (txt l :: ts, k :: cs)
def partP (l : List UInt8) : Option (List (List UInt8) × List Bool) := partF (l.length + 1) l
def own1 (t : List UInt8) : List UInt8 := t.takeWhile fun c => !isBg c
def own2 (t : List UInt8) : List UInt8 := t.dropWhile fun c => !isBg c
def linkT : List UInt8 := [58, 108, 105, 110, 107]
def visT : List UInt8 := [58, 118, 105, 115, 105, 116, 101, 100]
/-- A part of a part, taken. -/
def takeS (p : Sim) (own : List UInt8) : Option Sim :=
  if own = linkT then some { p with link := true }
  else if own = visT then some { p with visited := true }
  else match own with
    | [] => none
    | c :: n => if c = 35 ∧ nameB n = true then some { p with ids := p.ids ++ [n] } else if c = 46 ∧ nameB n = true then some { p with classes := p.classes ++ [n] } else none
def ownF : Nat → List UInt8 → Sim → Option Sim
  | _, [], p => some p
  | 0, _ :: _, _ => none
  | n + 1, c :: t, p => match takeS p (c :: own1 t) with
    | none => none
    | some p' => ownF n (own2 t) p'
def sim0 : Sim := ⟨[], [], [], false, false⟩
def tagP (l : List UInt8) : List UInt8 := if own1 l = [42] then [] else own1 l
def simF (l : List UInt8) : Option Sim := if l = [] ∨ (tagP l ≠ [] ∧ nameB (tagP l) = false) then none else ownF 8 (own2 l) { sim0 with tag := tagP l }
def allS : List (List UInt8) → Option (List Sim)
  | [] => some []
  | t :: ts => match simF t with
    | none => none
    | some p => match allS ts with
      | none => none
      | some ps => some (p :: ps)
def readL (m : List UInt8) : Option Slr := match partP m with
  | none => none
  | some (ts, cs) => if 8 < ts.length then none else match allS ts with
    | none => none
    | some ps => some ⟨ps, cs⟩
/-- The selector of a text. -/
def readP (l : List UInt8) : Option Slr := readL (lowL (trimL l))
def b1 (b : Bool) : Nat := if b then 1 else 0
def maySim (p : Sim) : Bool := (decide (p.tag = []) || nameB p.tag) && p.ids.all nameB && p.classes.all nameB && decide (p.ids.length + p.classes.length + (b1 p.link + b1 p.visited) ≤ 8)
def maySlr (x : Slr) : Bool := decide (1 ≤ x.parts.length) && decide (x.parts.length ≤ 8) && decide (x.close.length + 1 = x.parts.length) && x.parts.all maySim
def ownL (p : Sim) : List (List UInt8) := p.ids.map (35 :: ·) ++ (p.classes.map (46 :: ·) ++ ((if p.link then [linkT] else []) ++ (if p.visited then [visT] else [])))
def raw (p : Sim) : List UInt8 := p.tag ++ (ownL p).flatten
def printS (p : Sim) : List UInt8 := if raw p = [] then [42] else raw p
def sep (b : Bool) : List UInt8 := if b then [32, 62, 32] else [32]
def joinL : List Sim → List Bool → List UInt8
  | p :: ps, c :: cs => sep c ++ (printS p ++ joinL ps cs)
  | _, _ => []
def textL : List Sim → List Bool → List UInt8
  | p :: ps, cs => printS p ++ joinL ps cs
  | [], _ => []
def printP (x : Slr) : List UInt8 := if maySlr x then textL x.parts x.close else []
def wS (p : Sim) : Nat := 10000 * p.ids.length + 100 * (p.classes.length + (b1 p.link + b1 p.visited)) + (if p.tag = [] then 0 else 1)
def weighP (x : Slr) : Nat := (x.parts.map wS).sum
def listP (l : List UInt8) (f : List UInt8 → List (List UInt8)) : Option (List Slr) := go (f l)
where go : List (List UInt8) → Option (List Slr)
  | [] => some []
  | t :: ts => match readP t with
    | none => none
    | some x => match go ts with
      | none => none
      | some xs => some (x :: xs)

/-! ### names -/
theorem name_chars {n : List UInt8} (h : nameB n = true) : n ≠ [] ∧ ∀ c ∈ n, isM c = true ∧ lowC c = c := by
  obtain ⟨h1, h2, h3, h4⟩ := (nameB_def n).1 h
  refine ⟨fun e => (by subst e; simp at h3; omega), fun c hc => ?_⟩
  obtain ⟨k, hk, rfl⟩ := List.getElem_of_mem hc
  have h5 := nm_at n k (by omega)
  refine ⟨?_, ?_⟩
  · unfold inNm at h5
    unfold isM
    rw [Bool.or_eq_true] at h5 ⊢
    rcases h5 with h5 | h5
    · exact .inl h5
    · rw [Bool.and_eq_true] at h5; exact .inr h5.2
  · have h6 : (lowL n)[k]? = n[k]? := by rw [h4]
    unfold lowL at h6
    rw [List.getElem?_map, List.getElem?_eq_getElem hk] at h6
    exact Option.some.inj h6
theorem isM_plain {c : UInt8} (h : isM c = true) : isBt c = false ∧ isBg c = false ∧ (c == 44) = false ∧ (c == 42) = false := by
  revert h
  revert c
  have key : ∀ k : Fin 256, isM (UInt8.ofNat k.val) = true → isBt (UInt8.ofNat k.val) = false ∧ isBg (UInt8.ofNat k.val) = false ∧ (UInt8.ofNat k.val == 44) = false ∧ (UInt8.ofNat k.val == 42) = false := by decide +kernel
  intro c
  have := key ⟨c.toNat, c.toNat_lt⟩
  simpa using this
theorem tw_app {p : UInt8 → Bool} {a r : List UInt8} (ha : ∀ x ∈ a, p x = true) (hr : ∀ c t, r = c :: t → p c = false) : (a ++ r).takeWhile p = a ∧ (a ++ r).dropWhile p = r := by
  induction a with
  | nil =>
    cases r with
    | nil => exact ⟨rfl, rfl⟩
    | cons c t =>
      have := hr c t rfl
      rw [List.nil_append, List.takeWhile_cons, List.dropWhile_cons, this]
      exact ⟨rfl, rfl⟩
  | cons x t ih =>
    have h1 := ih (fun y hy => ha y (List.mem_cons_of_mem _ hy))
    rw [List.cons_append, List.takeWhile_cons, List.dropWhile_cons, ha x List.mem_cons_self]
    exact ⟨by rw [if_pos rfl, h1.1], by rw [if_pos rfl]; exact h1.2⟩

/-! ### parts of a part -/
/-- What begins with a sign, if with anything. -/
def Bgs (r : List UInt8) : Prop := ∀ c t, r = c :: t → isBg c = true
theorem own_step {c : UInt8} {n r : List UInt8} (hn : ∀ x ∈ n, isBg x = false) (hr : Bgs r) (k : Nat) (p : Sim) : ownF (k + 1) (c :: n ++ r) p = match takeS p (c :: n) with
    | none => none
    | some p' => ownF k r p' := by
  obtain ⟨h1, h2⟩ := tw_app (p := fun c => !isBg c) (a := n) (r := r) (fun x hx => by rw [hn x hx]; rfl) (fun c t e => by rw [hr c t e]; rfl)
  show (match takeS p (c :: own1 (n ++ r)) with | none => none | some p' => ownF k (own2 (n ++ r)) p') = _
  unfold own1 own2
  rw [h1, h2]
theorem take_id {p : Sim} {n : List UInt8} (h : nameB n = true) : takeS p (35 :: n) = some { p with ids := p.ids ++ [n] } := by
  unfold takeS
  rw [if_neg (by unfold linkT; intro e; injection e with e; revert e; decide), if_neg (by unfold visT; intro e; injection e with e; revert e; decide)]
  show (if (35 : UInt8) = 35 ∧ nameB n = true then _ else _) = _
  rw [if_pos ⟨rfl, h⟩]
theorem take_class {p : Sim} {n : List UInt8} (h : nameB n = true) : takeS p (46 :: n) = some { p with classes := p.classes ++ [n] } := by
  unfold takeS
  rw [if_neg (by unfold linkT; intro e; injection e with e; revert e; decide), if_neg (by unfold visT; intro e; injection e with e; revert e; decide)]
  show (if (46 : UInt8) = 35 ∧ nameB n = true then _ else if (46 : UInt8) = 46 ∧ nameB n = true then _ else _) = _
  rw [if_neg (by rintro ⟨e, -⟩; revert e; decide), if_pos ⟨rfl, h⟩]
theorem name_bg {n : List UInt8} (h : nameB n = true) : ∀ x ∈ n, isBg x = false := fun x hx => (isM_plain ((name_chars h).2 x hx).1).2.1
theorem bgs_flat (c : UInt8) (hc : isBg c = true) (ns : List (List UInt8)) (r : List UInt8) (hr : Bgs r) : Bgs ((ns.map (c :: ·)).flatten ++ r) := by
  cases ns with
  | nil => exact hr
  | cons n ns =>
    intro d t e
    injection e with e
    rw [← e]; exact hc
theorem own_ids (ns : List (List UInt8)) : ∀ (k : Nat) (p : Sim) (r : List UInt8), ns.all nameB = true → Bgs r → ownF (ns.length + k) ((ns.map (35 :: ·)).flatten ++ r) p = ownF k r { p with ids := p.ids ++ ns } := by
  induction ns with
  | nil => intro k p r _ _; simp
  | cons n ns ih =>
    intro k p r h hr
    rw [List.all_cons, Bool.and_eq_true] at h
    rw [List.map_cons, List.flatten_cons, List.append_assoc, List.length_cons, show ns.length + 1 + k = (ns.length + k) + 1 by omega, own_step (name_bg h.1) (bgs_flat 35 rfl ns r hr), take_id h.1]
    show ownF (ns.length + k) _ _ = _
    rw [ih k _ r h.2 hr]
    simp
theorem own_classes (ns : List (List UInt8)) : ∀ (k : Nat) (p : Sim) (r : List UInt8), ns.all nameB = true → Bgs r → ownF (ns.length + k) ((ns.map (46 :: ·)).flatten ++ r) p = ownF k r { p with classes := p.classes ++ ns } := by
  induction ns with
  | nil => intro k p r _ _; simp
  | cons n ns ih =>
    intro k p r h hr
    rw [List.all_cons, Bool.and_eq_true] at h
    rw [List.map_cons, List.flatten_cons, List.append_assoc, List.length_cons, show ns.length + 1 + k = (ns.length + k) + 1 by omega, own_step (name_bg h.1) (bgs_flat 46 rfl ns r hr), take_class h.1]
    show ownF (ns.length + k) _ _ = _
    rw [ih k _ r h.2 hr]
    simp
theorem own_done (k : Nat) (p : Sim) : ownF k [] p = some p := by cases k <;> rfl
theorem own_link (b : Bool) (k : Nat) (p : Sim) (r : List UInt8) (hr : Bgs r) (hp : p.link = false) : ownF (b1 b + k) ((if b then [linkT] else []).flatten ++ r) p = ownF k r { p with link := b } := by
  cases b with
  | false => simp only [b1, Bool.false_eq_true, if_false, List.flatten_nil, List.nil_append, Nat.zero_add]; congr 1; rw [← hp]
  | true =>
    show ownF (1 + k) (linkT ++ [] ++ r) p = _
    rw [List.append_nil, Nat.add_comm 1 k]
    unfold linkT
    rw [own_step (n := [108, 105, 110, 107]) (by decide) hr]
    rfl
theorem own_vis (b : Bool) (k : Nat) (p : Sim) (r : List UInt8) (hr : Bgs r) (hp : p.visited = false) : ownF (b1 b + k) ((if b then [visT] else []).flatten ++ r) p = ownF k r { p with visited := b } := by
  cases b with
  | false => simp only [b1, Bool.false_eq_true, if_false, List.flatten_nil, List.nil_append, Nat.zero_add]; congr 1; rw [← hp]
  | true =>
    show ownF (1 + k) (visT ++ [] ++ r) p = _
    rw [List.append_nil, Nat.add_comm 1 k]
    unfold visT
    rw [own_step (n := [118, 105, 115, 105, 116, 101, 100]) (by decide) hr]
    rfl
theorem bgs_nil : Bgs [] := fun c t e => by cases e
theorem bgs_vis (b : Bool) : Bgs ((if b then [visT] else []).flatten ++ []) := by
  cases b with
  | false => exact bgs_nil
  | true => intro c t e; injection e with e; rw [← e]; rfl
theorem bgs_link (a : Bool) (r : List UInt8) (hr : Bgs r) : Bgs ((if a then [linkT] else []).flatten ++ r) := by
  cases a with
  | false => exact hr
  | true => intro c t e; injection e with e; rw [← e]; rfl
theorem own_more : ∀ (n : Nat) (l : List UInt8) (p q : Sim), ownF n l p = some q → ownF (n + 1) l p = some q := by
  intro n
  induction n with
  | zero =>
    intro l p q h
    cases l with
    | nil => exact h
    | cons c t => cases h
  | succ n ih =>
    intro l p q h
    cases l with
    | nil => exact h
    | cons c t =>
      have h : (match takeS p (c :: own1 t) with | none => none | some p' => ownF n (own2 t) p') = some q := h
      show (match takeS p (c :: own1 t) with | none => none | some p' => ownF (n + 1) (own2 t) p') = some q
      cases hp : takeS p (c :: own1 t) with
      | none => rw [hp] at h; cases h
      | some p' => rw [hp] at h; exact ih _ _ _ h
theorem own_upto {n m : Nat} (hm : n ≤ m) {l : List UInt8} {p q : Sim} (h : ownF n l p = some q) : ownF m l p = some q := by
  obtain ⟨d, rfl⟩ := Nat.exists_eq_add_of_le hm
  clear hm
  induction d with
  | zero => exact h
  | succ d ih => exact own_more _ _ _ _ ih
theorem flat_own (p : Sim) : (ownL p).flatten = (p.ids.map (35 :: ·)).flatten ++ ((p.classes.map (46 :: ·)).flatten ++ ((if p.link then [linkT] else []).flatten ++ ((if p.visited then [visT] else []).flatten ++ []))) := by
  unfold ownL
  rw [List.flatten_append, List.flatten_append, List.flatten_append, List.append_nil]
theorem bgs_own (p : Sim) : Bgs (ownL p).flatten := by
  rw [flat_own]
  exact bgs_flat 35 rfl _ _ (bgs_flat 46 rfl _ _ (bgs_link _ _ (bgs_vis _)))
theorem maySim_of {p : Sim} (h : maySim p = true) : (p.tag = [] ∨ nameB p.tag = true) ∧ p.ids.all nameB = true ∧ p.classes.all nameB = true ∧ p.ids.length + p.classes.length + (b1 p.link + b1 p.visited) ≤ 8 := by
  unfold maySim at h
  simp only [Bool.and_eq_true, Bool.or_eq_true, decide_eq_true_eq] at h
  exact ⟨h.1.1.1, h.1.1.2, h.1.2, h.2⟩
theorem own_all (p : Sim) (h : maySim p = true) : ownF 8 (ownL p).flatten { sim0 with tag := p.tag } = some p := by
  obtain ⟨-, h1, h2, h3⟩ := maySim_of h
  refine own_upto (n := p.ids.length + (p.classes.length + (b1 p.link + (b1 p.visited + 0)))) (by omega) ?_
  rw [flat_own, own_ids _ _ _ _ h1 (bgs_flat 46 rfl _ _ (bgs_link _ _ (bgs_vis _))), own_classes _ _ _ _ h2 (bgs_link _ _ (bgs_vis _)), own_link _ _ _ _ (bgs_vis _) rfl, own_vis _ _ _ _ bgs_nil rfl, own_done]
  simp [sim0]
/-- A part that may be is read of its text. -/
theorem sim_print {p : Sim} (h : maySim p = true) : simF (printS p) = some p := by
  have ho := own_all p h
  obtain ⟨ht, -, -, -⟩ := maySim_of h
  unfold printS
  by_cases hr : raw p = []
  · rw [if_pos hr]
    unfold raw at hr
    obtain ⟨h1, h2⟩ := List.append_eq_nil_iff.1 hr
    rw [h2, h1, own_done] at ho
    rw [← Option.some.inj ho]
    rfl
  · rw [if_neg hr]
    have hp : ∀ x ∈ p.tag, (fun c => !isBg c) x = true := by
      rcases ht with e | e
      · rw [e]; intro x hx; cases hx
      · intro x hx
        show (!isBg x) = true
        rw [name_bg e x hx]; rfl
    obtain ⟨h1, h2⟩ := tw_app (p := fun c => !isBg c) (a := p.tag) (r := (ownL p).flatten) hp (fun c t e => by rw [bgs_own p c t e]; rfl)
    have e1 : own1 (raw p) = p.tag := h1
    have e2 : own2 (raw p) = (ownL p).flatten := h2
    have htg : tagP (raw p) = p.tag := by
      unfold tagP
      rw [e1]
      rcases ht with e | e
      · rw [e]; rfl
      · rw [if_neg]
        intro e2
        rw [e2] at e
        revert e
        decide +kernel
    unfold simF
    rw [htg, e2, if_neg, ho]
    rintro (e | ⟨e, e2⟩)
    · exact hr e
    · rcases ht with e' | e'
      · exact e e'
      · rw [e'] at e2; cases e2

/-! ### parts -/
theorem gap_len : ∀ (l : List UInt8) (k k' : Bool) (r : List UInt8), gap k l = some (k', r) → r.length ≤ l.length := by
  intro l
  induction l with
  | nil => intro k k' r h; injection h with h; injection h with _ h; rw [← h]; exact Nat.le_refl _
  | cons c t ih =>
    intro k k' r h
    unfold gap at h
    split at h
    · split at h
      · cases h
      · have := ih _ _ _ h; rw [List.length_cons]; omega
    · split at h
      · have := ih _ _ _ h; rw [List.length_cons]; omega
      · injection h with h; injection h with _ h; rw [← h]; exact Nat.le_refl _
theorem gap_head : ∀ (l : List UInt8) (k k' : Bool) (c : UInt8) (r : List UInt8), gap k l = some (k', c :: r) → isBt c = false := by
  intro l
  induction l with
  | nil => intro k k' c r h; injection h with h; injection h with _ h; cases h
  | cons d t ih =>
    intro k k' c r h
    unfold gap at h
    split at h
    · split at h
      · cases h
      · exact ih _ _ _ _ h
    · rename_i hd
      split at h
      · exact ih _ _ _ _ h
      · rename_i hb
        injection h with h; injection h with _ h; injection h with h _
        subst h
        unfold isBt
        rw [Bool.or_eq_false_iff]
        exact ⟨by simpa using hb, by simpa using hd⟩
theorem rst_len (l : List UInt8) : (rst l).length ≤ l.length := (List.dropWhile_sublist _).length_le
theorem rst_head {l : List UInt8} {c : UInt8} {t : List UInt8} (h : rst l = c :: t) : isBt c = true := by
  have := dropWhile_first (p := fun c => !isBt c) (l := l) h
  simpa using this
/-- Behind a gap stands less. -/
theorem gap_less {l : List UInt8} {k : Bool} {c : UInt8} {r : List UInt8} (h : gap false (rst l) = some (k, c :: r)) : (c :: r).length < l.length := by
  cases hr : rst l with
  | nil => rw [hr] at h; injection h with h; injection h with _ h; cases h
  | cons d t =>
    have hd := rst_head hr
    have h1 := rst_len l
    rw [hr] at h h1
    rw [List.length_cons] at h1
    unfold gap at h
    split at h
    · have := gap_len _ _ _ _ h; omega
    · rename_i hn
      split at h
      · have := gap_len _ _ _ _ h; omega
      · rename_i hb
        unfold isBt at hd
        rw [Bool.or_eq_true] at hd
        rcases hd with hd | hd
        · exact absurd hd hb
        · exact absurd (by simpa using hd) hn
theorem part_fuel : ∀ (f g : Nat) (l : List UInt8), l.length < f → l.length < g → partF f l = partF g l := by
  intro f
  induction f with
  | zero => intro g l h; omega
  | succ f ih =>
    intro g l h1 h2
    cases g with
    | zero => omega
    | succ g =>
      unfold partF
      cases hg : gap false (rst l) with
      | none => rfl
      | some x =>
        obtain ⟨k, r⟩ := x
        cases r with
        | nil => rfl
        | cons c r =>
          have := gap_less hg
          simp only [ih g (c :: r) (by omega) (by omega)]
theorem part_eq (l : List UInt8) : partP l = match gap false (rst l) with
    | none => none
    | some (k, []) => if k then none else some ([txt l], [])
    | some (k, c :: r) => match partP (c :: r) with
      | none => none
      | some (ts, cs) => some (txt l :: ts, k :: cs) := by
  show partF (l.length + 1) l = _
  unfold partF
  cases hg : gap false (rst l) with
  | none => rfl
  | some x =>
    obtain ⟨k, r⟩ := x
    cases r with
    | nil => rfl
    | cons c r =>
      have := gap_less hg
      show (match partF l.length (c :: r) with | none => none | some (ts, cs) => some (txt l :: ts, k :: cs)) = _
      rw [part_fuel l.length ((c :: r).length + 1) (c :: r) this (by omega)]
      rfl
theorem part_lens (n : Nat) : ∀ (l : List UInt8) (ts : List (List UInt8)) (cs : List Bool), l.length < n → partP l = some (ts, cs) → cs.length + 1 = ts.length := by
  induction n with
  | zero => intro l ts cs h; omega
  | succ n ih =>
    intro l ts cs hl h
    rw [part_eq] at h
    cases hg : gap false (rst l) with
    | none => rw [hg] at h; cases h
    | some x =>
      obtain ⟨k, r⟩ := x
      rw [hg] at h
      cases r with
      | nil =>
        cases k with
        | true => cases h
        | false =>
          injection h with h; injection h with h1 h2
          rw [← h1, ← h2]; rfl
      | cons c r =>
        have hless := gap_less hg
        cases hp : partP (c :: r) with
        | none => simp only [hp] at h; cases h
        | some y =>
          obtain ⟨ts', cs'⟩ := y
          simp only [hp] at h
          injection h with h; injection h with h1 h2
          rw [← h1, ← h2, List.length_cons, List.length_cons, ih (c :: r) ts' cs' (by omega) hp]
end Sel
end Go.Proofs.YtdfcahdipalmkaaGreatDoor
