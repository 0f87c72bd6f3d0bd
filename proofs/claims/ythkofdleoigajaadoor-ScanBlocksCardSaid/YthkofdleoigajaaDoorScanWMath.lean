/- The plain mathematics of words that are joined. Conditions: none. -/
import Derived.Test.YthkofdleoigajaaDoorRx7Split
namespace Go.Proofs.YthkofdleoigajaaDoor
def good (w : List UInt8) : Prop := w ≠ [] ∧ ∀ c ∈ w, isBlank c = false ∧ ¬ c = 44
def sOf (bl : List UInt8) (xs : List (List UInt8)) : List UInt8 := xs.flatMap fun w => bl ++ w ++ [32]
def tOf : List (List UInt8) → List UInt8
  | [] => []
  | [x] => x
  | x :: y :: r => x ++ [32, 44, 32] ++ tOf (y :: r)
theorem sOf_snoc (bl : List UInt8) (xs : List (List UInt8)) (x : List UInt8) : sOf bl (xs ++ [x]) = sOf bl xs ++ (bl ++ x ++ [32]) := by
  unfold sOf; rw [List.flatMap_append]; simp
theorem tOf_snoc (xs : List (List UInt8)) (x : List UInt8) (h : xs ≠ []) : tOf (xs ++ [x]) = tOf xs ++ [32, 44, 32] ++ x := by
  induction xs with
  | nil => exact absurd rfl h
  | cons a t ih =>
    cases t with
    | nil => rfl
    | cons b r =>
      have := ih (List.cons_ne_nil _ _)
      show a ++ [32, 44, 32] ++ tOf ((b :: r) ++ [x]) = (a ++ [32, 44, 32] ++ tOf (b :: r)) ++ [32, 44, 32] ++ x
      rw [this]
      simp only [List.append_assoc]
theorem wfin_blanks (bl rest : List UInt8) (h : ∀ c ∈ bl, isBlank c = true) : wfin [] (bl ++ rest) = wfin [] rest := by
  induction bl with
  | nil => rfl
  | cons c t ih =>
    show wfin [] (c :: (t ++ rest)) = _
    rw [wfin_blank _ _ (h c (by simp)), ih (fun c hc => h c (by simp [hc]))]
    rfl
theorem wfin_word (w rest : List UInt8) (h : ∀ c ∈ w, isBlank c = false) : ∀ word, wfin word (w ++ rest) = wfin (word ++ w) rest := by
  induction w with
  | nil => intro word; rw [List.append_nil]; rfl
  | cons c t ih =>
    intro word
    show wfin word (c :: (t ++ rest)) = _
    rw [wfin_more _ _ (h c (by simp)), ih (fun c hc => h c (by simp [hc])), List.append_assoc]
    rfl
theorem words_joined (bl : List UInt8) (hbl : ∀ c ∈ bl, isBlank c = true) (xs : List (List UInt8)) (h : ∀ x ∈ xs, good x) : wordsF (sOf bl xs) = xs := by
  rw [wfin_all]
  induction xs with
  | nil => rfl
  | cons x t ih =>
    have e : sOf bl (x :: t) = bl ++ (x ++ (32 :: sOf bl t)) := by
      show (bl ++ x ++ [32]) ++ sOf bl t = _
      simp only [List.append_assoc]; rfl
    obtain ⟨hx, hg⟩ := h x (by simp)
    rw [e, wfin_blanks _ _ hbl, wfin_word _ _ (fun c hc => (hg c hc).1), List.nil_append, wfin_blank _ _ (by decide), ih (fun y hy => h y (by simp [hy]))]
    have : x.isEmpty = false := by cases x with | nil => exact absurd rfl hx | cons _ _ => rfl
    rw [this]
    rfl
theorem dropWhile_all {p : UInt8 → Bool} (a b : List UInt8) (h : ∀ c ∈ a, p c = true) : (a ++ b).dropWhile p = b.dropWhile p := by
  induction a with
  | nil => rfl
  | cons c t ih =>
    show (c :: (t ++ b)).dropWhile p = _
    rw [List.dropWhile_cons, if_pos (h c (by simp)), ih (fun c hc => h c (by simp [hc]))]
theorem trim_mid (pre x post : List UInt8) (h1 : ∀ c ∈ pre, isBlank c = true) (h2 : ∀ c ∈ post, isBlank c = true) (hx : good x) : trimL (pre ++ x ++ post) = x := by
  obtain ⟨hne, hg⟩ := hx
  unfold trimL
  rw [List.append_assoc, dropWhile_all _ _ h1]
  have e : (x ++ post).dropWhile isBlank = x ++ post := by
    cases x with
    | nil => exact absurd rfl hne
    | cons a t => exact dropWhile_self (fun b u e => by injection e with e1 _; rw [← e1]; exact (hg a (by simp)).1)
  rw [e, List.reverse_append, dropWhile_all _ _ (fun c hc => h2 c (by simpa using hc))]
  have e2 : x.reverse.dropWhile isBlank = x.reverse := by
    refine dropWhile_self fun b u e => ?_
    have hb : b ∈ x.reverse := by rw [e]; exact List.mem_cons_self
    exact (hg b (List.mem_reverse.1 hb)).1
  rw [e2, List.reverse_reverse]
theorem split_pre (x : List UInt8) (r : List (List UInt8)) : ∀ pre : List UInt8, (∀ c ∈ pre, isBlank c = true ∧ (c == 44) = false) → (∀ y ∈ x :: r, good y) → (partsAt (· == 44) (pre ++ tOf (x :: r))).map trimL = x :: r := by
  induction r generalizing x with
  | nil =>
    intro pre hp hg
    have hx := hg x (by simp)
    show (partsAt (· == 44) (pre ++ x)).map trimL = [x]
    rw [partsAt_none _ (fun c hc => by
      rcases List.mem_append.1 hc with h | h
      · exact (hp c h).2
      · rw [beq_eq_false_iff_ne]; exact (hx.2 c h).2)]
    have := trim_mid pre x [] (fun c hc => (hp c hc).1) (fun c hc => by simp at hc) hx
    rw [List.append_nil] at this
    rw [List.map_singleton, this]
  | cons y r ih =>
    intro pre hp hg
    have hx := hg x (by simp)
    have e : pre ++ tOf (x :: y :: r) = (pre ++ x ++ [32]) ++ 44 :: ([32] ++ tOf (y :: r)) := by
      show pre ++ (x ++ [32, 44, 32] ++ tOf (y :: r)) = _
      simp only [List.append_assoc]; rfl
    rw [e, partsAt_some _ _ _ (fun c hc => by
      rcases List.mem_append.1 hc with h | h
      · rcases List.mem_append.1 h with h | h
        · exact (hp c h).2
        · rw [beq_eq_false_iff_ne]; exact (hx.2 c h).2
      · obtain rfl := List.mem_singleton.1 h; decide) (by decide), List.map_cons, trim_mid pre x [32] (fun c hc => (hp c hc).1) (fun c hc => by obtain rfl := List.mem_singleton.1 hc; decide) hx]
    rw [ih y [32] (fun c hc => by obtain rfl := List.mem_singleton.1 hc; exact ⟨by decide, by decide⟩) (fun z hz => hg z (by simp [List.mem_cons.1 hz]))]
theorem split_joined (xs : List (List UInt8)) (hne : xs ≠ []) (h : ∀ x ∈ xs, good x) : splitF 44 (tOf xs) = xs := by
  cases xs with
  | nil => exact absurd rfl hne
  | cons x r => exact split_pre x r [] (fun c hc => by simp at hc) h
end Go.Proofs.YthkofdleoigajaaDoor
