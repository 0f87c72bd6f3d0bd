/- The plain mathematics of a byteStringReplacer: what is put for each byte, and how long it is. Conditions: none. -/
import Derived.Test.YteopighhhcikcaaGreatDoorSgA
namespace Go.Proofs.YteopighhhcikcaaGreatDoor
namespace Sg
/-- What is put for a byte. -/
def rL (ps : List Pr) (c : UInt8) : List UInt8 := (look ps c).getD [c]
def subL (ps : List Pr) : List UInt8 → List UInt8
  | [] => []
  | c :: t => rL ps c ++ subL ps t
theorem subL_app (ps : List Pr) (a b : List UInt8) : subL ps (a ++ b) = subL ps a ++ subL ps b := by
  induction a with
  | nil => rfl
  | cons c t ih => show rL ps c ++ subL ps (t ++ b) = (rL ps c ++ subL ps t) ++ subL ps b; rw [ih, List.append_assoc]
theorem subL_take {ps : List Pr} {l : List UInt8} {k : Nat} (h : k < l.length) : subL ps (l.take (k + 1)) = subL ps (l.take k) ++ rL ps l[k] := by
  rw [List.take_succ_eq_append_getElem h, subL_app]
  show _ ++ (rL ps l[k] ++ []) = _
  rw [List.append_nil]
/-- Is a byte one for which another text is put? -/
def hitB (ps : List Pr) (c : UInt8) : Bool := (look ps c).isSome
theorem rL_hit {ps : List Pr} {c : UInt8} {n : List UInt8} (h : look ps c = some n) : rL ps c = n ∧ hitB ps c = true := by unfold rL hitB; rw [h]; exact ⟨rfl, rfl⟩
theorem rL_miss {ps : List Pr} {c : UInt8} (h : look ps c = none) : rL ps c = [c] ∧ hitB ps c = false := by unfold rL hitB; rw [h]; exact ⟨rfl, rfl⟩
theorem subL_same {ps : List Pr} {l : List UInt8} (h : l.any (hitB ps) = false) : subL ps l = l := by
  induction l with
  | nil => rfl
  | cons c t ih =>
    rw [List.any_cons, Bool.or_eq_false_iff] at h
    show rL ps c ++ subL ps t = _
    rw [ih h.2]
    cases hl : look ps c with
    | none => rw [(rL_miss hl).1]; rfl
    | some n => rw [(rL_hit hl).2] at h; exact absurd h.1 (by decide)
theorem look_mem {ps : List Pr} {c : UInt8} {n : List UInt8} (h : look ps c = some n) : (c, n) ∈ ps := by
  induction ps with
  | nil => cases h
  | cons p r ih =>
    unfold look at h
    split at h
    · rename_i e
      injection h with h
      subst h; subst e
      exact List.mem_cons_self
    · exact List.mem_cons_of_mem _ (ih h)
theorem look_some {ps : List Pr} {c : UInt8} (h : c ∈ ps.map (·.1)) : (look ps c).isSome = true := by
  induction ps with
  | nil => cases h
  | cons p r ih =>
    unfold look
    split
    · rfl
    · rename_i e
      rw [List.map_cons] at h
      rcases List.mem_cons.1 h with h | h
      · exact absurd h.symm e
      · exact ih h
/-- How long a text is, when some bytes are put. -/
def szK (ps : List Pr) (ks : List UInt8) : List UInt8 → Nat
  | [] => 0
  | c :: t => (if c ∈ ks then (rL ps c).length else 1) + szK ps ks t
theorem szK_nil (ps : List Pr) (l : List UInt8) : szK ps [] l = l.length := by
  induction l with
  | nil => rfl
  | cons c t ih =>
    show (if c ∈ [] then _ else 1) + szK ps [] t = _
    rw [if_neg (by simp), ih, List.length_cons]; omega
theorem szK_more (ps : List Pr) (ks : List UInt8) (k : UInt8) (hk : k ∉ ks) (h1 : 1 ≤ (rL ps k).length) (l : List UInt8) : szK ps (ks ++ [k]) l = szK ps ks l + l.count k * ((rL ps k).length - 1) := by
  induction l with
  | nil => simp [szK]
  | cons c t ih =>
    show (if c ∈ ks ++ [k] then (rL ps c).length else 1) + szK ps (ks ++ [k]) t = (if c ∈ ks then (rL ps c).length else 1) + szK ps ks t + (c :: t).count k * ((rL ps k).length - 1)
    rw [ih, List.count_cons]
    by_cases hc : c = k
    · subst hc
      rw [if_pos (by simp), if_neg hk]
      simp only [beq_self_eq_true, if_true]
      rw [Nat.add_mul, Nat.one_mul]
      omega
    · have e : (c == k) = false := beq_eq_false_iff_ne.2 hc
      rw [e]
      have : (c ∈ ks ++ [k]) ↔ c ∈ ks := by simp [hc]
      by_cases hm : c ∈ ks
      · rw [if_pos (this.2 hm), if_pos hm]; simp; omega
      · rw [if_neg (fun q => hm (this.1 q)), if_neg hm]; simp; omega
theorem szK_all (ps : List Pr) (ks : List UInt8) (h : ∀ c, c ∉ ks → look ps c = none) (l : List UInt8) : szK ps ks l = (subL ps l).length := by
  induction l with
  | nil => rfl
  | cons c t ih =>
    show (if c ∈ ks then (rL ps c).length else 1) + szK ps ks t = (rL ps c ++ subL ps t).length
    rw [ih, List.length_append]
    by_cases hc : c ∈ ks
    · rw [if_pos hc]
    · rw [if_neg hc, (rL_miss (h c hc)).1]; rfl
def anyK (ks l : List UInt8) : Bool := l.any fun c => decide (c ∈ ks)
theorem anyK_nil (l : List UInt8) : anyK [] l = false := by
  unfold anyK
  rw [List.any_eq_false]
  intro x _
  simp
theorem anyK_more (ks l : List UInt8) (k : UInt8) : anyK (ks ++ [k]) l = (anyK ks l || decide (0 < l.count k)) := by
  rw [Bool.eq_iff_iff]
  unfold anyK
  simp only [Bool.or_eq_true, List.any_eq_true, decide_eq_true_iff, List.count_pos_iff, List.mem_append, List.mem_singleton]
  constructor
  · rintro ⟨x, hx, h | h⟩
    · exact .inl ⟨x, hx, h⟩
    · exact .inr (h ▸ hx)
  · rintro (⟨x, hx, h⟩ | h)
    · exact ⟨x, hx, .inl h⟩
    · exact ⟨k, h, .inr rfl⟩
theorem anyK_all (ps : List Pr) (ks : List UInt8) (h : ∀ c, c ∈ ks ↔ hitB ps c = true) (l : List UInt8) : anyK ks l = l.any (hitB ps) := by
  unfold anyK
  congr 1
  funext c
  rw [Bool.eq_iff_iff, decide_eq_true_iff]
  exact h c
theorem count_le (l : List UInt8) (k : UInt8) : l.count k ≤ l.length := List.count_le_length
theorem szK_le (ps : List Pr) (ks : List UInt8) (h : ∀ c, 1 ≤ (rL ps c).length ∧ (rL ps c).length ≤ 100) (l : List UInt8) : l.length ≤ szK ps ks l ∧ szK ps ks l ≤ 100 * l.length := by
  induction l with
  | nil => exact ⟨Nat.le_refl _, Nat.le_refl _⟩
  | cons c t ih =>
    have := h c
    show (c :: t).length ≤ (if c ∈ ks then (rL ps c).length else 1) + szK ps ks t ∧ _ ≤ _
    rw [List.length_cons]
    have e : szK ps ks (c :: t) = (if c ∈ ks then (rL ps c).length else 1) + szK ps ks t := rfl
    rw [e]
    split <;> omega
theorem subL_len (ps : List Pr) (h : ∀ c, 1 ≤ (rL ps c).length ∧ (rL ps c).length ≤ 100) (l : List UInt8) : l.length ≤ (subL ps l).length ∧ (subL ps l).length ≤ 100 * l.length := by
  induction l with
  | nil => exact ⟨Nat.le_refl _, Nat.le_refl _⟩
  | cons c t ih =>
    have := h c
    have e : (subL ps (c :: t)).length = (rL ps c).length + (subL ps t).length := by show (rL ps c ++ subL ps t).length = _; rw [List.length_append]
    rw [e, List.length_cons]
    omega
end Sg
end Go.Proofs.YteopighhhcikcaaGreatDoor
