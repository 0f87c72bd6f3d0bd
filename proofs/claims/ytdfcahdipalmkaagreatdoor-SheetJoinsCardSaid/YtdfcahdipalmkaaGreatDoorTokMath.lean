/- The plain mathematics of tokens: names, blanks, attributes, openings, closings, and what a text is made of. Conditions: none. -/
import Derived.Test.YtdfcahdipalmkaaGreatDoorRepH
namespace Go.Proofs.YtdfcahdipalmkaaGreatDoor
namespace Tok
open Rep (tellL)
def isL (c : UInt8) : Bool := (decide (97 ≤ c) && decide (c ≤ 122)) || (decide (65 ≤ c) && decide (c ≤ 90))
def isN (c : UInt8) : Bool := (decide (48 ≤ c) && decide (c ≤ 57)) || c == 45
def isM (c : UInt8) : Bool := isL c || isN c
/-- How many bytes at the beginning look like a name. -/
def nm : List UInt8 → Nat
  | [] => 0
  | c :: t => if isL c then 1 + (t.takeWhile isM).length else 0
/-- How many blanks stand at the beginning. -/
def bl (l : List UInt8) : Nat := (l.takeWhile isBlank).length
theorem takeWhile_len {p : UInt8 → Bool} (l : List UInt8) : (l.takeWhile p).length ≤ l.length := (List.takeWhile_sublist p).length_le
theorem takeWhile_at {p : UInt8 → Bool} : ∀ (l : List UInt8) (k : Nat) (hk : k < (l.takeWhile p).length), p (l[k]'(by have := takeWhile_len (p := p) l; omega)) = true := by
  intro l
  induction l with
  | nil => intro k hk; simp at hk
  | cons c t ih =>
    intro k hk
    rw [List.takeWhile_cons] at hk
    split at hk
    · rename_i hc
      cases k with
      | zero => exact hc
      | succ k => exact ih k (by simpa using hk)
    · simp at hk
theorem takeWhile_end {p : UInt8 → Bool} : ∀ (l : List UInt8) (h : (l.takeWhile p).length < l.length), p (l[(l.takeWhile p).length]) = false := by
  intro l
  induction l with
  | nil => intro h; simp at h
  | cons c t ih =>
    intro h
    by_cases hc : p c = true
    · have e : (c :: t).takeWhile p = c :: t.takeWhile p := by rw [List.takeWhile_cons, if_pos hc]
      have e2 : ((c :: t).takeWhile p).length = (t.takeWhile p).length + 1 := by rw [e]; rfl
      have h' : (t.takeWhile p).length < t.length := by rw [e2] at h; simpa using h
      have := ih h'
      simp only [e2, List.getElem_cons_succ]
      exact this
    · have e : ((c :: t).takeWhile p).length = 0 := by rw [List.takeWhile_cons, if_neg hc]; rfl
      simp only [e, List.getElem_cons_zero]
      simpa using hc
theorem bl_le (l : List UInt8) : bl l ≤ l.length := takeWhile_len l
theorem bl_at (l : List UInt8) (k : Nat) (hk : k < bl l) : isBlank (l[k]'(by have := bl_le l; omega)) = true := takeWhile_at l k hk
theorem bl_end (l : List UInt8) (h : bl l < l.length) : isBlank (l[bl l]) = false := takeWhile_end l h
theorem nm_yes {c : UInt8} (t : List UInt8) (h : isL c = true) : nm (c :: t) = (t.takeWhile isM).length + 1 := by show (if isL c then _ else _) = _; rw [if_pos h]; omega
theorem nm_no {c : UInt8} (t : List UInt8) (h : isL c = false) : nm (c :: t) = 0 := by show (if isL c then _ else _) = _; rw [if_neg (by rw [h]; decide)]
theorem nm_le (l : List UInt8) : nm l ≤ l.length := by
  cases l with
  | nil => exact Nat.le_refl _
  | cons c t =>
    have := takeWhile_len (p := isM) t
    cases h : isL c with
    | true => rw [nm_yes t h, List.length_cons]; omega
    | false => rw [nm_no t h]; exact Nat.zero_le _
/-- Is the byte at a place one of a name? -/
def inNm (k : Nat) (c : UInt8) : Bool := isL c || (decide (0 < k) && isN c)
theorem nm_at (l : List UInt8) (k : Nat) (hk : k < nm l) : inNm k (l[k]'(by have := nm_le l; omega)) = true := by
  cases l with
  | nil => exact absurd hk (by show ¬ k < 0; omega)
  | cons c t =>
    cases h : isL c with
    | true =>
      rw [nm_yes t h] at hk
      cases k with
      | zero => simp [inNm, h]
      | succ k =>
        have := takeWhile_at (p := isM) t k (by omega)
        simpa [inNm, isM] using this
    | false => rw [nm_no t h] at hk; omega
theorem nm_end (l : List UInt8) (h : nm l < l.length) : inNm (nm l) (l[nm l]) = false := by
  cases l with
  | nil => simp at h
  | cons c t =>
    cases hc : isL c with
    | true =>
      have e := nm_yes t hc
      have h' : (t.takeWhile isM).length < t.length := by rw [e] at h; simpa using h
      have := takeWhile_end (p := isM) t h'
      simp only [e, List.getElem_cons_succ]
      simpa [inNm, isM] using this
    | false =>
      have e := nm_no t hc
      simp only [e, List.getElem_cons_zero]
      simpa [inNm] using hc
theorem nm_uniq (l : List UInt8) (k : Nat) (hk : k ≤ l.length) (h1 : ∀ (j : Nat) (hj : j < k), inNm j (l[j]'(by omega)) = true) (h2 : ∀ h : k < l.length, inNm k (l[k]) = false) : k = nm l := by
  rcases Nat.lt_trichotomy k (nm l) with h | h | h
  · have a := nm_at l k h
    have b := h2 (by have := nm_le l; omega)
    rw [a] at b; cases b
  · exact h
  · have a := h1 (nm l) h
    have b := nm_end l (by omega)
    rw [a] at b; cases b
theorem bl_uniq (l : List UInt8) (k : Nat) (hk : k ≤ l.length) (h1 : ∀ (j : Nat) (hj : j < k), isBlank (l[j]'(by omega)) = true) (h2 : ∀ h : k < l.length, isBlank (l[k]) = false) : k = bl l := by
  rcases Nat.lt_trichotomy k (bl l) with h | h | h
  · have a := bl_at l k h
    have b := h2 (by have := bl_le l; omega)
    rw [a] at b; cases b
  · exact h
  · have a := h1 (bl l) h
    have b := bl_end l (by omega)
    rw [a] at b; cases b
/-- A name at the beginning, told, and what is behind it. -/
def nameP (l : List UInt8) : Option (List UInt8 × List UInt8) := if nm l = 0 ∨ 20 < nm l then none else some (lowL (l.take (nm l)), l.drop (nm l))
theorem nameP_len {l n r : List UInt8} (h : nameP l = some (n, r)) : r.length < l.length ∧ 0 < n.length ∧ n.length ≤ 20 := by
  unfold nameP at h
  split at h
  · cases h
  · rename_i hc
    injection h with h
    injection h with h1 h2
    have := nm_le l
    subst h1 h2
    rw [List.length_drop, low_len, List.length_take]
    omega
/-- A value, if one stands there whole, and what is behind it. -/
def valP (l : List UInt8) : List UInt8 × List UInt8 := match l with
  | 61 :: 34 :: q => if 34 ∈ q then (tellL (q.takeWhile (· != 34)), q.drop ((q.takeWhile (· != 34)).length + 1)) else ([], l)
  | _ => ([], l)
theorem valP_len (l : List UInt8) : (valP l).2.length ≤ l.length := by
  unfold valP
  split
  · split
    · simp only [List.length_drop, List.length_cons]; omega
    · exact Nat.le_refl _
  · exact Nat.le_refl _
def attrP (l : List UInt8) : Option ((List UInt8 × List UInt8) × List UInt8) :=
  if bl l = 0 then none else match nameP (l.drop (bl l)) with
    | none => none
    | some (n, r) => some ((n, (valP r).1), (valP r).2)
theorem attrP_len {l r : List UInt8} {a : List UInt8 × List UInt8} (h : attrP l = some (a, r)) : r.length < l.length := by
  unfold attrP at h
  split at h
  · cases h
  · cases hn : nameP (l.drop (bl l)) with
    | none => rw [hn] at h; cases h
    | some x =>
      obtain ⟨n, q⟩ := x
      rw [hn] at h
      injection h with h
      injection h with h1 h2
      subst h2
      have h3 := (nameP_len hn).1
      have h4 := valP_len q
      rw [List.length_drop] at h3
      omega
abbrev At := List UInt8 × List UInt8
def addA (ats : List At) (a : At) : List At := if ats.any (fun b => b.1 == a.1) then ats else ats ++ [a]
/-- All attributes that are there, behind those that are known, and what is behind them. -/
def attrsF : Nat → List At → List UInt8 → List At × List UInt8
  | 0, ats, l => (ats, l)
  | f + 1, ats, l => match attrP l with
    | none => (ats, l)
    | some (a, r) => attrsF f (addA ats a) r
def attrsP (ats : List At) (l : List UInt8) : List At × List UInt8 := attrsF (l.length + 1) ats l
theorem attrsF_more : ∀ (f g : Nat) (ats : List At) (l : List UInt8), l.length < f → l.length < g → attrsF f ats l = attrsF g ats l := by
  intro f
  induction f with
  | zero => intro g ats l h; omega
  | succ f ih =>
    intro g ats l hf hg
    cases g with
    | zero => omega
    | succ g =>
      unfold attrsF
      cases ha : attrP l with
      | none => rfl
      | some x =>
        obtain ⟨a, r⟩ := x
        have := attrP_len ha
        exact ih g _ r (by omega) (by omega)
theorem attrsP_none {ats : List At} {l : List UInt8} (h : attrP l = none) : attrsP ats l = (ats, l) := by unfold attrsP attrsF; rw [h]
theorem attrsP_some {ats : List At} {l r : List UInt8} {a : At} (h : attrP l = some (a, r)) : attrsP ats l = attrsP (addA ats a) r := by
  have := attrP_len h
  unfold attrsP
  rw [attrsF, h]
  exact attrsF_more _ _ _ r (by omega) (by omega)
theorem attrsP_len (n : Nat) : ∀ (ats : List At) (l : List UInt8), l.length ≤ n → (attrsP ats l).2.length ≤ l.length := by
  induction n with
  | zero =>
    intro ats l h
    cases ha : attrP l with
    | none => rw [attrsP_none ha]; exact Nat.le_refl _
    | some x => obtain ⟨a, r⟩ := x; have := attrP_len ha; omega
  | succ n ih =>
    intro ats l h
    cases ha : attrP l with
    | none => rw [attrsP_none ha]; exact Nat.le_refl _
    | some x =>
      obtain ⟨a, r⟩ := x
      have h1 := attrP_len ha
      rw [attrsP_some ha]
      have := ih (addA ats a) r (by omega)
      omega
/-- Blanks, and the > behind them. -/
def endP (l : List UInt8) : Option (List UInt8) := if l[bl l]? = some 62 then some (l.drop (bl l + 1)) else none
theorem endP_len {l r : List UInt8} (h : endP l = some r) : r.length < l.length := by
  unfold endP at h
  split at h
  · rename_i hc
    have := (List.getElem?_eq_some_iff.1 hc).1
    injection h with h
    subst h
    rw [List.length_drop]
    omega
  · cases h
structure T where
  kind : Nat
  name : List UInt8
  text : List UInt8
  attrs : List At
deriving DecidableEq
def openP (l : List UInt8) : Option (T × List UInt8) := match l with
  | 60 :: t => match nameP t with
    | none => none
    | some (n, r) => match endP (attrsP [] r).2 with
      | none => none
      | some b => some (⟨1, n, [], (attrsP [] r).1⟩, b)
  | _ => none
def shutP (l : List UInt8) : Option (T × List UInt8) := match l with
  | 60 :: 47 :: t => match nameP t with
    | none => none
    | some (n, r) => match endP r with
      | none => none
      | some b => some (⟨2, n, [], []⟩, b)
  | _ => none
def firstP (l : List UInt8) : Option (T × List UInt8) := match openP l with
  | some x => some x
  | none => shutP l
theorem openP_len {l b : List UInt8} {t : T} (h : openP l = some (t, b)) : b.length < l.length := by
  unfold openP at h
  split at h
  · rename_i u
    split at h
    · cases h
    · rename_i n r hn
      split at h
      · cases h
      · rename_i b' he
        injection h with h
        injection h with h1 h2
        subst h2
        have h3 := (nameP_len hn).1
        have h4 := endP_len he
        have h5 := attrsP_len r.length [] r (Nat.le_refl _)
        simp only [List.length_cons]
        omega
  · cases h
theorem shutP_len {l b : List UInt8} {t : T} (h : shutP l = some (t, b)) : b.length < l.length := by
  unfold shutP at h
  split at h
  · rename_i u
    split at h
    · cases h
    · rename_i n r hn
      split at h
      · cases h
      · rename_i b' he
        injection h with h
        injection h with h1 h2
        subst h2
        have h3 := (nameP_len hn).1
        have h4 := endP_len he
        simp only [List.length_cons]
        omega
  · cases h
theorem firstP_len {l b : List UInt8} {t : T} (h : firstP l = some (t, b)) : b.length < l.length := by
  unfold firstP at h
  split at h
  · rename_i x hx; injection h with h; subst h; exact openP_len hx
  · exact shutP_len h
def txtP (u : List UInt8) : List T := if u = [] then [] else [⟨3, [], tellL u, []⟩]
/-- What a text is made of, u being what stands ahead of it and begins no token. -/
def readG : Nat → List UInt8 → List UInt8 → List T
  | 0, u, _ => txtP u
  | f + 1, u, l => match firstP l with
    | some (x, b) => txtP u ++ x :: readG f [] b
    | none => match l with
      | [] => txtP u
      | c :: t => readG f (u ++ [c]) t
def readF (u l : List UInt8) : List T := readG (l.length + 1) u l
theorem readG_more : ∀ (f g : Nat) (u l : List UInt8), l.length < f → l.length < g → readG f u l = readG g u l := by
  intro f
  induction f with
  | zero => intro g ats l h; omega
  | succ f ih =>
    intro g u l hf hg
    cases g with
    | zero => omega
    | succ g =>
      unfold readG
      cases ha : firstP l with
      | none =>
        cases l with
        | nil => rfl
        | cons c t =>
          rw [List.length_cons] at hf hg
          exact ih g _ t (by omega) (by omega)
      | some x =>
        obtain ⟨a, r⟩ := x
        have := firstP_len ha
        simp only
        rw [ih g [] r (by omega) (by omega)]
theorem readF_nil (u : List UInt8) : readF u [] = txtP u := rfl
theorem readF_hit {u l b : List UInt8} {x : T} (h : firstP l = some (x, b)) : readF u l = txtP u ++ x :: readF [] b := by
  have := firstP_len h
  unfold readF
  rw [readG.eq_def]
  simp only [h]
  rw [readG_more _ (b.length + 1) [] b (by omega) (by omega)]
theorem readF_miss {u t : List UInt8} {c : UInt8} (h : firstP (c :: t) = none) : readF u (c :: t) = readF (u ++ [c]) t := by
  unfold readF
  rw [List.length_cons, readG.eq_def]
  simp only [h]
def readP (l : List UInt8) : List T := readF [] l
end Tok
end Go.Proofs.YtdfcahdipalmkaaGreatDoor
