/- What follows of Stack's answer where it is exact. Conditions: as the theorems' premises say. -/
import Derived.Test.YticenmaephhniaaBlockH
import Derived.Test.YticenmaephhniaaFixMath2
namespace Go.Proofs.Yticenmaephhniaa
theorem addOk_iff {a b : Int} (h : addOk a b = true) : add2 a b = a + b ∧ ok a = true ∧ ok b = true ∧ ok (a + b) = true := by
  unfold addOk at h
  simp only [Bool.and_eq_true] at h
  obtain ⟨h1, h2, h3⟩ := h
  rw [ok_cl h1, ok_cl h2] at h3
  refine ⟨?_, h1, h2, h3⟩
  unfold add2
  rw [ok_cl h1, ok_cl h2, ok_cl h3]
/-- What is known of step k of an exact pile. -/
structure PK (l : List It) (k : Nat) (x : It) : Prop where
  m : (pmeet l k x).2 = true
  b : (pAt l (k + 1)).bs = (pAt l k).bs ++ [(pAt l k).en + (pmeet l k x).1]
  e : (pAt l (k + 1)).en = (pAt l k).en + (pmeet l k x).1 + x.h
  o1 : ok (pAt l k).en = true
  o2 : ok (pmeet l k x).1 = true
  o3 : ok ((pAt l k).en + (pmeet l k x).1) = true
  o4 : ok x.h = true
  o5 : ok ((pAt l k).en + (pmeet l k x).1 + x.h) = true
  c : (pAt l k).cut = false
theorem pk_of {l : List It} {k : Nat} {x : It} (hx : l[k]? = some x) (h : (pAt l (k + 1)).cut = false) : PK l k x := by
  have e := pAt_some hx
  have hc := h
  rw [e] at hc
  simp only [pstep, Bool.or_eq_false_iff, Bool.not_eq_false'] at hc
  obtain ⟨⟨⟨c0, c1⟩, c2⟩, c3⟩ := hc
  obtain ⟨a1, a2, a3, a4⟩ := addOk_iff c2
  rw [a1] at c3
  obtain ⟨b1, b2, b3, b4⟩ := addOk_iff c3
  refine ⟨c1, ?_, ?_, a2, a3, a4, b3, b4, c0⟩
  · rw [e]; simp only [pstep]; rw [a1]
  · rw [e]; simp only [pstep]; rw [a1, b1]
theorem cut_back {l : List It} {n : Nat} (h : (pAt l n).cut = false) (hn : n ≤ l.length) : ∀ k, k ≤ n → (pAt l k).cut = false := by
  intro k hk
  induction n with
  | zero => obtain rfl : k = 0 := by omega
            exact h
  | succ n ih =>
    rcases Nat.lt_or_ge n k with h1 | h1
    · obtain rfl : k = n + 1 := by omega
      exact h
    · exact ih (pk_of (List.getElem?_eq_getElem (show n < l.length by omega)) h).c (by omega) h1
/-- The begin of place k, in what was gathered till n. -/
theorem bs_at {l : List It} {n : Nat} (h : (pAt l n).cut = false) (hn : n ≤ l.length) {k : Nat} {x : It} (hk : k < n) (hx : l[k]? = some x) : (pAt l n).bs[k]? = some ((pAt l k).en + (pmeet l k x).1) := by
  induction n with
  | zero => omega
  | succ n ih =>
    have hp := pk_of (List.getElem?_eq_getElem (show n < l.length by omega)) h
    rw [hp.b]
    have hl := pAt_len l n (by omega)
    rcases Nat.lt_or_ge k n with h1 | h1
    · rw [List.getElem?_append_left (by omega)]
      exact ih hp.c (by omega) h1
    · obtain rfl : k = n := by omega
      rw [List.getElem?_append_right (by omega), hl, Nat.sub_self]
      have : x = l[k] := by rw [List.getElem?_eq_getElem (show k < l.length by omega)] at hx; injection hx with hx; exact hx.symm
      rw [this]
      rfl
def plainL (l : List It) : Bool := l.all fun x => x.t == 0 && x.b == 0
def sumH (l : List It) : Int := l.foldl (fun a x => a + x.h) 0
theorem plain_snoc (l : List It) (x : It) : plainL (l ++ [x]) = (plainL l && (x.t == 0 && x.b == 0)) := by simp [plainL]
theorem sum_snoc (l : List It) (x : It) : sumH (l ++ [x]) = sumH l + x.h := by simp [sumH]
theorem sumH_bd {l : List It} (h : ∀ x ∈ l, ok x.h = true) : -(1099511627776 * (l.length : Int)) ≤ sumH l ∧ sumH l ≤ 1099511627776 * (l.length : Int) := by
  have key : ∀ (l : List It) (a : Int), (∀ x ∈ l, ok x.h = true) → a - 1099511627776 * (l.length : Int) ≤ l.foldl (fun a x => a + x.h) a ∧ l.foldl (fun a x => a + x.h) a ≤ a + 1099511627776 * (l.length : Int) := by
    intro l
    induction l with
    | nil => intro a _; simp
    | cons x l ih =>
      intro a h
      have h1 := ih (a + x.h) (fun y hy => h y (by simp [hy]))
      have h2 := ok_iff.1 (h x (by simp))
      simp only [List.foldl_cons, List.length_cons]
      omega
  have := key l 0 h
  unfold sumH
  omega
theorem meet_zz : meetF 0 0 = (0, true) := by decide
theorem en_plain {l : List It} (hp : plainL l = true) : ∀ n, n ≤ l.length → (pAt l n).cut = false → (pAt l n).en = sumH (l.take n) := by
  intro n
  induction n with
  | zero => intro _ _; rfl
  | succ n ih =>
    intro hn hc
    have hx := List.getElem?_eq_getElem (show n < l.length by omega)
    have pk := pk_of hx hc
    have hm : (pmeet l n l[n]).1 = 0 := by
      have ht : ∀ y ∈ l, y.t = 0 ∧ y.b = 0 := fun y hy => by
        have := List.all_eq_true.1 hp y hy
        simpa using this
      unfold pmeet
      by_cases h0 : n = 0
      · rw [if_pos h0]; exact (ht _ (List.getElem_mem _)).1
      · rw [if_neg h0, List.getElem?_eq_getElem (show n - 1 < l.length by omega)]
        simp only
        rw [(ht _ (List.getElem_mem _)).1, (ht _ (List.getElem_mem _)).2, meet_zz]
    rw [pk.e, hm, ih (by omega) pk.c, List.take_succ_eq_append_getElem (by omega), sum_snoc]
    omega
/-- What an exact answer says of place k. -/
theorem stack_step {l : List It} {bs : List Int} {high : Int} (h : stackF l = (bs, high, true)) {k : Nat} {x : It} (hx : l[k]? = some x) :
    ∃ b, bs[k]? = some b ∧ ok b = true ∧ ok x.h = true ∧ ok (b + x.h) = true ∧ (k = 0 → b = x.t) ∧
      (∀ z, 0 < k → l[k - 1]? = some z → ∃ b', bs[k - 1]? = some b' ∧ (meetF z.b x.t).2 = true ∧ ok (meetF z.b x.t).1 = true ∧ ok (b' + z.h) = true ∧ b = b' + z.h + (meetF z.b x.t).1) := by
  have hk := (List.getElem?_eq_some_iff.1 hx).1
  obtain ⟨y, hy⟩ : ∃ y, l.getLast? = some y := by
    cases l with
    | nil => simp at hx
    | cons a l => exact ⟨_, List.getLast?_eq_some_getLast (by simp)⟩
  unfold stackF at h
  rw [hy] at h
  simp only [Prod.mk.injEq, Bool.and_eq_true, Bool.not_eq_true'] at h
  obtain ⟨rfl, -, hc, -⟩ := h
  have hle : l.length ≤ l.length := Nat.le_refl _
  have pk := pk_of hx (cut_back hc hle (k + 1) hk)
  refine ⟨_, bs_at hc hle hk hx, pk.o3, pk.o4, pk.o5, ?_, ?_⟩
  · rintro rfl
    show (0 : Int) + (pmeet l 0 x).1 = x.t
    rw [show pmeet l 0 x = (x.t, true) from rfl]
    omega
  · intro z h0 hz
    have pz := pk_of hz (by rw [show k - 1 + 1 = k by omega]; exact pk.c)
    have e1 : (pAt l k).en = (pAt l (k - 1)).en + (pmeet l (k - 1) z).1 + z.h := by have := pz.e; rwa [show k - 1 + 1 = k by omega] at this
    have e2 : pmeet l k x = meetF z.b x.t := by unfold pmeet; rw [if_neg (by omega), hz]
    rw [← e2]
    refine ⟨_, bs_at hc hle (show k - 1 < l.length by omega) hz, pk.m, pk.o2, pz.o5, ?_⟩
    rw [e1]
/-- What an exact answer says of the end. -/
theorem stack_end {l : List It} {bs : List Int} {high : Int} (h : stackF l = (bs, high, true)) {y : It} (hy : l[l.length - 1]? = some y) :
    ∃ b, bs[l.length - 1]? = some b ∧ ok (b + y.h) = true ∧ ok y.b = true ∧ ok y.h = true ∧ ok b = true ∧ high = max (b + y.h + y.b) 0 ∧ (plainL l = true → high = max (sumH l) 0) ∧ (∀ x ∈ l, ok x.h = true) := by
  have hk := (List.getElem?_eq_some_iff.1 hy).1
  have hall : ∀ x ∈ l, ok x.h = true := by
    intro x hm
    obtain ⟨k, hk, rfl⟩ := List.getElem_of_mem hm
    obtain ⟨b, _, _, h3, _⟩ := stack_step h (List.getElem?_eq_getElem hk)
    exact h3
  obtain ⟨b, h1, h2, h3, h4, _⟩ := stack_step h hy
  unfold stackF at h
  rw [List.getLast?_eq_getElem?, hy] at h
  simp only [Prod.mk.injEq, Bool.and_eq_true, Bool.not_eq_true'] at h
  obtain ⟨hbs, hh, hc, ha⟩ := h
  obtain ⟨a1, a2, a3, a4⟩ := addOk_iff ha
  rw [a1] at hh
  have pk := pk_of hy (by rw [show l.length - 1 + 1 = l.length by omega]; exact hc)
  have e1 : (pAt l l.length).en = (pAt l (l.length - 1)).en + (pmeet l (l.length - 1) y).1 + y.h := by have := pk.e; rwa [show l.length - 1 + 1 = l.length by omega] at this
  have e2 : b = (pAt l (l.length - 1)).en + (pmeet l (l.length - 1) y).1 := by
    have := bs_at hc (Nat.le_refl _) hk hy
    rw [hbs, h1] at this
    injection this
  refine ⟨b, h1, h4, a3, h3, h2, by rw [← hh, e1, e2], ?_, hall⟩
  intro hp
  have e3 := en_plain hp l.length (Nat.le_refl _) hc
  rw [List.take_length] at e3
  have hb : y.b = 0 := by
    have := List.all_eq_true.1 hp y (List.mem_of_getElem? hy)
    simp only [Bool.and_eq_true, beq_iff_eq] at this
    exact this.2
  rw [← hh, e3, hb]
  simp
end Go.Proofs.Yticenmaephhniaa
