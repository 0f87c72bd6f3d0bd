/- What is printed of a selector is read as what it was; what is read may be; blanks and great letters change nothing; lists. Conditions: none. -/
import Derived.Test.YtdfcahdipalmkaaGreatDoorSelMath
import Derived.Test.YtdfcahdipalmkaaGreatDoorScanSpec
namespace Go.Proofs.YtdfcahdipalmkaaGreatDoor
namespace Sel
open Tok
/-! ### trimming -/
theorem tr_head {a : UInt8} (t : List UInt8) (h : isBlank a = true) : trimL (a :: t) = trimL t := by
  unfold trimL
  rw [List.dropWhile_cons, if_pos h]
theorem tr_last {b : UInt8} (l : List UInt8) (h : isBlank b = true) : trimL (l ++ [b]) = trimL l := by
  unfold trimL
  rw [List.dropWhile_append]
  cases hd : l.dropWhile isBlank with
  | nil => simp [h]
  | cons c d =>
    rw [if_neg (by simp)]
    rw [List.reverse_append]
    show ((b :: (c :: d).reverse).dropWhile isBlank).reverse = _
    rw [List.dropWhile_cons, if_pos h]
theorem tr_same {a b : UInt8} (t u : List UInt8) (e : a :: t = u ++ [b]) (ha : isBlank a = false) (hb : isBlank b = false) : trimL (a :: t) = a :: t := by
  unfold trimL
  rw [dropWhile_self (l := a :: t) (fun x y h => by injection h with h1 h2; rw [← h1]; exact ha), e, List.reverse_append]
  show ((b :: u.reverse).dropWhile isBlank).reverse = _
  rw [List.dropWhile_cons, if_neg (by rw [hb]; decide)]
  simp
def Bls (l : List UInt8) : Prop := ∀ c ∈ l, isBlank c = true
theorem tr_pre {a : List UInt8} (l : List UInt8) (h : Bls a) : trimL (a ++ l) = trimL l := by
  induction a with
  | nil => rfl
  | cons c t ih => rw [List.cons_append, tr_head _ (h c List.mem_cons_self), ih (fun d hd => h d (List.mem_cons_of_mem _ hd))]
theorem tr_post {b : List UInt8} (h : Bls b) : ∀ l : List UInt8, trimL (l ++ b) = trimL l := by
  induction b with
  | nil => intro l; rw [List.append_nil]
  | cons c t ih =>
    intro l
    rw [show l ++ c :: t = (l ++ [c]) ++ t by simp, ih (fun d hd => h d (List.mem_cons_of_mem _ hd)), tr_last _ (h c List.mem_cons_self)]
theorem tw_all {p : UInt8 → Bool} (l : List UInt8) : ∀ c ∈ l.takeWhile p, p c = true := by
  intro c hc
  obtain ⟨k, hk, rfl⟩ := List.getElem_of_mem hc
  have := takeWhile_at (p := p) l k hk
  rw [show (l.takeWhile p)[k] = l[k]'(by have := takeWhile_len (p := p) l; omega) from by
    have h1 : (l.takeWhile p) <+: l := List.takeWhile_prefix p
    exact List.IsPrefix.getElem h1 hk]
  exact this
theorem tr_split (l : List UInt8) : ∃ a b, l = a ++ (trimL l ++ b) ∧ Bls a ∧ Bls b ∧ (∀ c t, l = c :: t → isBlank c = false → a = []) := by
  refine ⟨l.takeWhile isBlank, ((l.dropWhile isBlank).reverse.takeWhile isBlank).reverse, ?_, tw_all l, fun c hc => tw_all _ c (List.mem_reverse.1 hc), ?_⟩
  · unfold trimL
    rw [← List.reverse_append, List.takeWhile_append_dropWhile, List.reverse_reverse, List.takeWhile_append_dropWhile]
  · intro c t e h
    rw [e, List.takeWhile_cons, h]
    rfl
theorem tr_first {a : UInt8} (t : List UInt8) (h : isBlank a = false) : ∃ s, trimL (a :: t) = a :: s := by
  obtain ⟨x, b, e, -, hb, hx⟩ := tr_split (a :: t)
  have hx := hx a t rfl h
  subst hx
  rw [List.nil_append] at e
  cases hq : trimL (a :: t) with
  | nil =>
    rw [hq, List.nil_append] at e
    have := hb a (by rw [← e]; exact List.mem_cons_self)
    rw [h] at this; cases this
  | cons c s =>
    rw [hq] at e
    injection e with e _
    exact ⟨s, by rw [← e]⟩
theorem low_blank (c : UInt8) : isBlank (lowC c) = isBlank c ∧ isBt (lowC c) = isBt c := by
  have key : ∀ k : Fin 256, isBlank (lowC (UInt8.ofNat k.val)) = isBlank (UInt8.ofNat k.val) ∧ isBt (lowC (UInt8.ofNat k.val)) = isBt (UInt8.ofNat k.val) := by decide +kernel
  have := key ⟨c.toNat, c.toNat_lt⟩
  simpa using this
theorem dw_low (l : List UInt8) : (l.map lowC).dropWhile isBlank = (l.dropWhile isBlank).map lowC := by
  induction l with
  | nil => rfl
  | cons c t ih =>
    rw [List.map_cons, List.dropWhile_cons, List.dropWhile_cons, (low_blank c).1]
    split
    · exact ih
    · rfl
theorem low_trim (l : List UInt8) : lowL (trimL l) = trimL (lowL l) := by
  unfold trimL lowL
  rw [dw_low, List.map_reverse, ← dw_low, List.map_reverse]
theorem readP_eq (l : List UInt8) : readP l = readL (trimL (lowL l)) := by
  show readL (lowL (trimL l)) = _
  rw [low_trim]
theorem readP_trim (l : List UInt8) : readP (trimL l) = readP l := by
  show readL (lowL (trimL (trimL l))) = _
  rw [trim_trim]
  rfl
theorem readP_blank (l : List UInt8) : readP (32 :: l) = readP l := by
  show readL (lowL (trimL (32 :: l))) = _
  rw [tr_head l rfl]
  rfl

/-! ### what is printed -/
def okC (c : UInt8) : Prop := isBt c = false ∧ lowC c = c ∧ (c == 44) = false
theorem ok_blank {c : UInt8} (h : okC c) : isBlank c = false := by
  have := h.1
  unfold isBt at this
  rw [Bool.or_eq_false_iff] at this
  exact this.1
theorem ok_name {n : List UInt8} (h : nameB n = true) : ∀ c ∈ n, okC c := fun c hc => by
  obtain ⟨h1, h2⟩ := (name_chars h).2 c hc
  obtain ⟨h3, -, h4, -⟩ := isM_plain h1
  exact ⟨h3, h2, h4⟩
theorem ok_list {l : List UInt8} (h : (l.all fun c => !isBt c && (lowC c == c) && !(c == 44)) = true) : ∀ c ∈ l, okC c := fun c hc => by
  have := List.all_eq_true.1 h c hc
  simp only [Bool.and_eq_true, Bool.not_eq_true', beq_iff_eq] at this
  exact ⟨this.1.1, this.1.2, this.2⟩
theorem ok_piece {p : Sim} (h : maySim p = true) : ∀ x ∈ ownL p, ∀ c ∈ x, okC c := by
  obtain ⟨-, h1, h2, -⟩ := maySim_of h
  rw [List.all_eq_true] at h1 h2
  intro x hx c hc
  unfold ownL at hx
  rcases List.mem_append.1 hx with hx | hx
  · obtain ⟨n, hn, rfl⟩ := List.mem_map.1 hx
    rcases List.mem_cons.1 hc with rfl | hc
    · exact ok_list (l := [35]) (by decide +kernel) _ (by simp)
    · exact ok_name (h1 n hn) c hc
  · rcases List.mem_append.1 hx with hx | hx
    · obtain ⟨n, hn, rfl⟩ := List.mem_map.1 hx
      rcases List.mem_cons.1 hc with rfl | hc
      · exact ok_list (l := [46]) (by decide +kernel) _ (by simp)
      · exact ok_name (h2 n hn) c hc
    · rcases List.mem_append.1 hx with hx | hx
      · split at hx
        · rw [List.mem_singleton] at hx
          subst hx
          exact ok_list (l := linkT) (by decide +kernel) c hc
        · cases hx
      · split at hx
        · rw [List.mem_singleton] at hx
          subst hx
          exact ok_list (l := visT) (by decide +kernel) c hc
        · cases hx
theorem ok_print {p : Sim} (h : maySim p = true) : printS p ≠ [] ∧ ∀ c ∈ printS p, okC c := by
  unfold printS
  split
  · exact ⟨by simp, ok_list (l := [42]) (by decide +kernel)⟩
  · rename_i hr
    refine ⟨hr, fun c hc => ?_⟩
    unfold raw at hc
    rcases List.mem_append.1 hc with hc | hc
    · rcases (maySim_of h).1 with e | e
      · rw [e] at hc; cases hc
      · exact ok_name e c hc
    · obtain ⟨x, hx, hc⟩ := List.mem_flatten.1 hc
      exact ok_piece h x hx c hc
theorem text_cons (p : Sim) (ps : List Sim) (cs : List Bool) : textL (p :: ps) cs = printS p ++ joinL ps cs := rfl
theorem join_cons (p : Sim) (ps : List Sim) (c : Bool) (cs : List Bool) : joinL (p :: ps) (c :: cs) = sep c ++ textL (p :: ps) cs := rfl
theorem gap_sep (b : Bool) {d : UInt8} (r : List UInt8) (hd : isBt d = false) : gap false (sep b ++ d :: r) = some (b, d :: r) := by
  unfold isBt at hd
  rw [Bool.or_eq_false_iff] at hd
  have h1 : ∀ k, gap k (d :: r) = some (k, d :: r) := fun k => by
    unfold gap
    rw [if_neg (by simpa using hd.2), if_neg (by rw [hd.1]; decide)]
  have h2 : ∀ k t, gap k (32 :: t) = gap k t := fun k t => by
    show (if (32 : UInt8) = 62 then _ else if isBlank 32 = true then gap k t else _) = _
    rw [if_neg (by decide), if_pos (by decide)]
  have h3 : ∀ t, gap false (62 :: t) = gap true t := fun t => by
    show (if (62 : UInt8) = 62 then (if false = true then none else gap true t) else _) = _
    rw [if_pos rfl, if_neg (by decide)]
  cases b with
  | false => show gap false (32 :: d :: r) = _; rw [h2, h1]
  | true => show gap false (32 :: 62 :: 32 :: d :: r) = _; rw [h2, h3, h2, h1]
theorem text_head {p : Sim} (h : maySim p = true) (ps : List Sim) (cs : List Bool) : ∃ d r, textL (p :: ps) cs = d :: r ∧ okC d := by
  obtain ⟨h1, h2⟩ := ok_print h
  rw [text_cons]
  cases hp : printS p with
  | nil => exact absurd hp h1
  | cons d r => exact ⟨d, r ++ joinL ps cs, rfl, h2 d (by rw [hp]; exact List.mem_cons_self)⟩
theorem text_last : ∀ (ps : List Sim) (p : Sim) (cs : List Bool), (p :: ps).all maySim = true → cs.length = ps.length → ∃ u b, textL (p :: ps) cs = u ++ [b] ∧ okC b := by
  intro ps
  induction ps with
  | nil =>
    intro p cs h hl
    rw [List.all_cons, Bool.and_eq_true] at h
    obtain ⟨h1, h2⟩ := ok_print h.1
    have e : textL [p] cs = printS p := by
      rw [text_cons]
      show printS p ++ joinL [] cs = _
      unfold joinL
      rw [List.append_nil]
    rw [e]
    exact ⟨(printS p).dropLast, (printS p).getLast h1, (List.dropLast_concat_getLast h1).symm, h2 _ (List.getLast_mem h1)⟩
  | cons q ps ih =>
    intro p cs h hl
    rw [List.all_cons, Bool.and_eq_true] at h
    cases cs with
    | nil => simp at hl
    | cons c cs =>
      obtain ⟨u, b, e, hb⟩ := ih q cs h.2 (by simpa using hl)
      exact ⟨printS p ++ (sep c ++ u), b, by rw [text_cons, join_cons, e]; simp, hb⟩
theorem text_low : ∀ (ps : List Sim) (cs : List Bool), ps.all maySim = true → ∀ c ∈ textL ps cs, lowC c = c ∧ (c == 44) = false := by
  have hs : ∀ b, ∀ c ∈ sep b, lowC c = c ∧ (c == 44) = false := fun b => by cases b <;> decide +kernel
  intro ps
  induction ps with
  | nil => intro cs _ c hc; cases hc
  | cons p ps ih =>
    intro cs h c hc
    rw [List.all_cons, Bool.and_eq_true] at h
    rw [text_cons] at hc
    rcases List.mem_append.1 hc with hc | hc
    · exact ((ok_print h.1).2 c hc).2
    · cases ps with
      | nil => unfold joinL at hc; cases hc
      | cons q ps =>
        cases cs with
        | nil => unfold joinL at hc; cases hc
        | cons b cs =>
          rw [join_cons] at hc
          rcases List.mem_append.1 hc with hc | hc
          · exact hs b c hc
          · exact ih cs h.2 c hc
theorem part_text : ∀ (ps : List Sim) (p : Sim) (cs : List Bool), (p :: ps).all maySim = true → cs.length = ps.length → partP (textL (p :: ps) cs) = some ((p :: ps).map printS, cs) := by
  intro ps
  induction ps with
  | nil =>
    intro p cs h hl
    rw [List.all_cons, Bool.and_eq_true] at h
    obtain rfl : cs = [] := List.eq_nil_of_length_eq_zero hl
    have e : textL [p] [] = printS p ++ [] := rfl
    obtain ⟨h1, h2⟩ := tw_app (p := fun c => !isBt c) (a := printS p) (r := []) (fun x hx => by rw [((ok_print h.1).2 x hx).1]; rfl) (fun c t e => by cases e)
    rw [e, part_eq]
    have e1 : txt (printS p ++ []) = printS p := h1
    have e2 : rst (printS p ++ []) = [] := h2
    rw [e1, e2]
    rfl
  | cons q ps ih =>
    intro p cs h hl
    rw [List.all_cons, Bool.and_eq_true] at h
    cases cs with
    | nil => simp at hl
    | cons c cs =>
      have hq : maySim q = true := by have := h.2; rw [List.all_cons, Bool.and_eq_true] at this; exact this.1
      obtain ⟨d, r, hd, hok⟩ := text_head hq ps cs
      have hi := ih q cs h.2 (by simpa using hl)
      rw [text_cons, join_cons, hd]
      have hsep : ∀ x t, sep c ++ d :: r = x :: t → (!isBt x) = false := by
        intro x t e
        cases c <;> (injection e with e _; rw [← e]; rfl)
      obtain ⟨h1, h2⟩ := tw_app (p := fun c => !isBt c) (a := printS p) (r := sep c ++ d :: r) (fun x hx => by rw [((ok_print h.1).2 x hx).1]; rfl) hsep
      have e1 : txt (printS p ++ (sep c ++ d :: r)) = printS p := h1
      have e2 : rst (printS p ++ (sep c ++ d :: r)) = sep c ++ d :: r := h2
      rw [part_eq, e1, e2, gap_sep c r hok.1]
      rw [hd] at hi
      simp only [hi]
      rfl
theorem all_print : ∀ ps : List Sim, ps.all maySim = true → allS (ps.map printS) = some ps := by
  intro ps
  induction ps with
  | nil => intro _; rfl
  | cons p ps ih =>
    intro h
    rw [List.all_cons, Bool.and_eq_true] at h
    show (match simF (printS p) with | none => none | some p => match allS (ps.map printS) with | none => none | some ps => some (p :: ps)) = _
    rw [sim_print h.1]
    simp only [ih h.2]
theorem maySlr_of {x : Slr} (h : maySlr x = true) : 1 ≤ x.parts.length ∧ x.parts.length ≤ 8 ∧ x.close.length + 1 = x.parts.length ∧ x.parts.all maySim = true := by
  unfold maySlr at h
  simp only [Bool.and_eq_true, decide_eq_true_eq] at h
  exact ⟨h.1.1.1, h.1.1.2, h.1.2, h.2⟩
/-- What is printed is read as what it was. -/
theorem read_print {x : Slr} (h : maySlr x = true) : readP (printP x) = some x := by
  obtain ⟨h1, h2, h3, h4⟩ := maySlr_of h
  obtain ⟨ps, cs⟩ := x
  simp only at h1 h2 h3 h4
  unfold printP
  rw [if_pos h]
  cases ps with
  | nil => simp at h1
  | cons p ps =>
    rw [List.length_cons] at h3
    obtain ⟨d, r, hd, hok⟩ := text_head (by rw [List.all_cons, Bool.and_eq_true] at h4; exact h4.1) ps cs
    obtain ⟨u, b, hu, hob⟩ := text_last ps p cs h4 (by omega)
    have ht : trimL (textL (p :: ps) cs) = textL (p :: ps) cs := by
      rw [hd]
      exact tr_same r u (by rw [← hd]; exact hu) (ok_blank hok) (ok_blank hob)
    have hl : lowL (textL (p :: ps) cs) = textL (p :: ps) cs := by
      unfold lowL
      conv => rhs; rw [← List.map_id (textL (p :: ps) cs)]
      exact List.map_congr_left (fun c hc => (text_low _ cs h4 c hc).1)
    show readL (lowL (trimL (textL (p :: ps) cs))) = _
    rw [ht, hl]
    unfold readL
    rw [part_text ps p cs h4 (by omega)]
    show (if 8 < ((p :: ps).map printS).length then none else match allS ((p :: ps).map printS) with | none => none | some ps => some (⟨ps, cs⟩ : Slr)) = _
    rw [List.length_map, if_neg (by omega), all_print _ h4]
theorem read_nil : readP [] = none := by decide +kernel

/-! ### what is read -/
theorem take_may {p q : Sim} {own : List UInt8} (h : takeS p own = some q) : q.tag = p.tag ∧ (p.ids.all nameB = true → q.ids.all nameB = true) ∧ (p.classes.all nameB = true → q.classes.all nameB = true) ∧ q.ids.length + q.classes.length + (b1 q.link + b1 q.visited) ≤ p.ids.length + p.classes.length + (b1 p.link + b1 p.visited) + 1 := by
  unfold takeS at h
  split at h
  · injection h with h; subst h
    refine ⟨rfl, id, id, ?_⟩
    show p.ids.length + p.classes.length + (b1 true + b1 p.visited) ≤ _
    have : b1 true ≤ b1 p.link + 1 := by cases p.link <;> decide
    omega
  · split at h
    · injection h with h; subst h
      refine ⟨rfl, id, id, ?_⟩
      show p.ids.length + p.classes.length + (b1 p.link + b1 true) ≤ _
      have : b1 true ≤ b1 p.visited + 1 := by cases p.visited <;> decide
      omega
    · split at h
      · cases h
      · split at h
        · rename_i hc
          injection h with h; subst h
          refine ⟨rfl, fun e => ?_, id, ?_⟩
          · rw [List.all_append, e]; simp [hc.2]
          · simp only [List.length_append, List.length_singleton]; omega
        · split at h
          · rename_i hc
            injection h with h; subst h
            refine ⟨rfl, id, fun e => ?_, ?_⟩
            · rw [List.all_append, e]; simp [hc.2]
            · simp only [List.length_append, List.length_singleton]; omega
          · cases h
theorem own_may : ∀ (n : Nat) (l : List UInt8) (p q : Sim), ownF n l p = some q → q.tag = p.tag ∧ (p.ids.all nameB = true → q.ids.all nameB = true) ∧ (p.classes.all nameB = true → q.classes.all nameB = true) ∧ q.ids.length + q.classes.length + (b1 q.link + b1 q.visited) ≤ p.ids.length + p.classes.length + (b1 p.link + b1 p.visited) + n := by
  intro n
  induction n with
  | zero =>
    intro l p q h
    cases l with
    | nil => injection h with h; subst h; exact ⟨rfl, id, id, by omega⟩
    | cons c t => cases h
  | succ n ih =>
    intro l p q h
    cases l with
    | nil => injection h with h; subst h; exact ⟨rfl, id, id, by omega⟩
    | cons c t =>
      have h : (match takeS p (c :: own1 t) with | none => none | some p' => ownF n (own2 t) p') = some q := h
      cases hp : takeS p (c :: own1 t) with
      | none => rw [hp] at h; cases h
      | some p' =>
        rw [hp] at h
        obtain ⟨a1, a2, a3, a4⟩ := take_may hp
        obtain ⟨c1, c2, c3, c4⟩ := ih _ _ _ h
        exact ⟨c1.trans a1, fun e => c2 (a2 e), fun e => c3 (a3 e), by omega⟩
theorem sim_may {l : List UInt8} {p : Sim} (h : simF l = some p) : maySim p = true := by
  unfold simF at h
  split at h
  · cases h
  · rename_i hc
    obtain ⟨h1, h2, h3, h4⟩ := own_may _ _ _ _ h
    have h1 : p.tag = tagP l := h1
    unfold maySim
    simp only [Bool.and_eq_true, Bool.or_eq_true, decide_eq_true_eq]
    refine ⟨⟨⟨?_, h2 rfl⟩, h3 rfl⟩, ?_⟩
    · rw [h1]
      by_cases e : tagP l = []
      · exact .inl e
      · refine .inr ?_
        cases hn : nameB (tagP l) with
        | true => rfl
        | false => exact absurd (.inr ⟨e, hn⟩) hc
    · have : ({ sim0 with tag := tagP l } : Sim).ids.length + ({ sim0 with tag := tagP l } : Sim).classes.length + (b1 ({ sim0 with tag := tagP l } : Sim).link + b1 ({ sim0 with tag := tagP l } : Sim).visited) = 0 := rfl
      omega
theorem all_may : ∀ (ts : List (List UInt8)) (ps : List Sim), allS ts = some ps → ps.all maySim = true ∧ ps.length = ts.length := by
  intro ts
  induction ts with
  | nil => intro ps h; injection h with h; subst h; exact ⟨rfl, rfl⟩
  | cons t ts ih =>
    intro ps h
    have h : (match simF t with | none => none | some p => match allS ts with | none => none | some ps => some (p :: ps)) = some ps := h
    cases hs : simF t with
    | none => rw [hs] at h; cases h
    | some p =>
      rw [hs] at h
      cases ha : allS ts with
      | none => simp only [ha] at h; cases h
      | some qs =>
        simp only [ha] at h
        injection h with h
        subst h
        obtain ⟨i1, i2⟩ := ih qs ha
        exact ⟨by rw [List.all_cons, sim_may hs, i1]; rfl, by rw [List.length_cons, List.length_cons, i2]⟩
/-- What is read may be. -/
theorem read_may {l : List UInt8} {x : Slr} (h : readP l = some x) : maySlr x = true := by
  unfold readP readL at h
  cases hp : partP (lowL (trimL l)) with
  | none => rw [hp] at h; cases h
  | some y =>
    obtain ⟨ts, cs⟩ := y
    rw [hp] at h
    have hlen := part_lens _ _ _ _ (Nat.lt_succ_self _) hp
    have h : (if 8 < ts.length then none else match allS ts with | none => none | some ps => some (⟨ps, cs⟩ : Slr)) = some x := h
    split at h
    · cases h
    · rename_i h8
      cases ha : allS ts with
      | none => rw [ha] at h; cases h
      | some ps =>
        rw [ha] at h
        injection h with h
        subst h
        obtain ⟨i1, i2⟩ := all_may ts ps ha
        unfold maySlr
        simp only [Bool.and_eq_true, decide_eq_true_eq]
        exact ⟨⟨⟨by omega, by omega⟩, by omega⟩, i1⟩

/-! ### blanks and great letters -/
def up1 (c : UInt8) : UInt8 := if 97 ≤ c ∧ c ≤ 122 then c - 32 else c
def exp1 (c : UInt8) : List UInt8 := if isBt c then [32, up1 c, 9] else [up1 c]
def expd (l : List UInt8) : List UInt8 := [10, 32] ++ (l.flatMap exp1 ++ [32])
def e1 (c : UInt8) : List UInt8 := if isBt c then [32, c, 9] else [c]
theorem up_low (c : UInt8) : lowC (up1 c) = lowC c ∧ lowL (exp1 c) = e1 (lowC c) := by
  have key : ∀ k : Fin 256, lowC (up1 (UInt8.ofNat k.val)) = lowC (UInt8.ofNat k.val) ∧ lowL (exp1 (UInt8.ofNat k.val)) = e1 (lowC (UInt8.ofNat k.val)) := by decide +kernel
  have := key ⟨c.toNat, c.toNat_lt⟩
  simpa using this
theorem low_app (a b : List UInt8) : lowL (a ++ b) = lowL a ++ lowL b := List.map_append
theorem low_exp (l : List UInt8) : lowL (l.flatMap exp1) = (lowL l).flatMap e1 := by
  induction l with
  | nil => rfl
  | cons c t ih => rw [List.flatMap_cons, low_app, (up_low c).2, ih]; rfl
theorem e1_no {c : UInt8} (h : isBt c = false) : e1 c = [c] := by unfold e1; rw [h]; rfl
theorem e1_yes {c : UInt8} (h : isBt c = true) : e1 c = [32, c, 9] := by unfold e1; rw [h]; rfl
theorem bt_cases {c : UInt8} (h : isBt c = true) : isBlank c = true ∨ c = 62 := by
  unfold isBt at h
  rw [Bool.or_eq_true] at h
  exact h.imp_right fun h => by simpa using h
theorem bls_e {l : List UInt8} (h : Bls l) : Bls (l.flatMap e1) := by
  intro c hc
  obtain ⟨d, hd, hc⟩ := List.mem_flatMap.1 hc
  have hb : isBt d = true := by unfold isBt; rw [h d hd]; rfl
  rw [e1_yes hb] at hc
  simp only [List.mem_cons, List.not_mem_nil, or_false] at hc
  rcases hc with rfl | rfl | rfl
  · rfl
  · exact h _ hd
  · rfl
theorem txt_e (l : List UInt8) : txt (l.flatMap e1) = txt l ∧ rst (l.flatMap e1) = (rst l).flatMap e1 := by
  induction l with
  | nil => exact ⟨rfl, rfl⟩
  | cons c t ih =>
    cases h : isBt c with
    | true =>
      have q1 : txt (c :: t) = [] := by unfold txt; rw [List.takeWhile_cons, h]; rfl
      have q2 : rst (c :: t) = c :: t := by unfold rst; rw [List.dropWhile_cons, h]; rfl
      rw [q1, q2, List.flatMap_cons, e1_yes h]
      exact ⟨rfl, rfl⟩
    | false =>
      have q1 : ∀ t, txt (c :: t) = c :: txt t := fun t => by unfold txt; rw [List.takeWhile_cons, h]; rfl
      have q2 : ∀ t, rst (c :: t) = rst t := fun t => by unfold rst; rw [List.dropWhile_cons, h]; rfl
      rw [List.flatMap_cons, e1_no h, List.singleton_append, q1, q1, q2, q2, ih.1, ih.2]
      exact ⟨rfl, rfl⟩
theorem gap_blank {c : UInt8} (h : isBlank c = true) (k : Bool) (t : List UInt8) : gap k (c :: t) = gap k t := by
  show (if c = 62 then _ else if isBlank c = true then gap k t else _) = _
  rw [if_neg (by rintro rfl; revert h; decide), if_pos h]
theorem gap_kid (k : Bool) (t : List UInt8) : gap k (62 :: t) = if k then none else gap true t := by
  show (if (62 : UInt8) = 62 then _ else _) = _
  rw [if_pos rfl]
theorem gap_stop {c : UInt8} (h : isBt c = false) (k : Bool) (t : List UInt8) : gap k (c :: t) = some (k, c :: t) := by
  unfold isBt at h
  rw [Bool.or_eq_false_iff] at h
  show (if c = 62 then _ else if isBlank c = true then _ else _) = _
  rw [if_neg (by simpa using h.2), if_neg (by rw [h.1]; decide)]
theorem gap_e : ∀ (l : List UInt8) (k : Bool), gap k (l.flatMap e1) = (gap k l).map fun x => (x.1, x.2.flatMap e1) := by
  intro l
  induction l with
  | nil => intro k; rfl
  | cons c t ih =>
    intro k
    cases h : isBt c with
    | true =>
      rw [List.flatMap_cons, e1_yes h]
      show gap k (32 :: c :: 9 :: t.flatMap e1) = _
      rw [gap_blank rfl]
      rcases bt_cases h with hb | rfl
      · rw [gap_blank hb, gap_blank hb, gap_blank rfl, ih]
      · rw [gap_kid, gap_kid]
        cases k with
        | true => rfl
        | false =>
          show gap true (9 :: t.flatMap e1) = _
          rw [gap_blank rfl, ih]
          rfl
    | false =>
      rw [List.flatMap_cons, e1_no h, List.singleton_append, gap_stop h, gap_stop h]
      show _ = some (k, (c :: t).flatMap e1)
      rw [List.flatMap_cons, e1_no h, List.singleton_append]
theorem part_e (n : Nat) : ∀ l : List UInt8, l.length < n → partP (l.flatMap e1) = partP l := by
  induction n with
  | zero => intro l h; omega
  | succ n ih =>
    intro l hl
    rw [part_eq, part_eq, (txt_e l).1, (txt_e l).2, gap_e]
    cases hg : gap false (rst l) with
    | none => rfl
    | some x =>
      obtain ⟨k, r⟩ := x
      cases r with
      | nil => rfl
      | cons c r =>
        have hc := gap_head _ _ _ _ _ hg
        have hless := gap_less hg
        have hi := ih (c :: r) (by omega)
        rw [List.flatMap_cons, e1_no hc, List.singleton_append] at hi
        show (match (some (k, (c :: r).flatMap e1) : Option (Bool × List UInt8)) with | none => none | some (k, []) => if k then none else some ([txt l], []) | some (k, c :: r) => match partP (c :: r) with | none => none | some (ts, cs) => some (txt l :: ts, k :: cs)) = _
        rw [List.flatMap_cons, e1_no hc, List.singleton_append]
        simp only [hi]
        cases partP (c :: r) <;> rfl
theorem gap_post {b : List UInt8} (hb : Bls b) : ∀ (l : List UInt8) (k : Bool), gap k (l ++ b) = (gap k l).map fun x => (x.1, if x.2 = [] then [] else x.2 ++ b) := by
  have h0 : ∀ k, gap k b = some (k, []) := by
    induction b with
    | nil => intro k; rfl
    | cons c t ih => intro k; rw [gap_blank (hb c List.mem_cons_self)]; exact ih (fun d hd => hb d (List.mem_cons_of_mem _ hd)) k
  intro l
  induction l with
  | nil => intro k; rw [List.nil_append, h0]; rfl
  | cons c t ih =>
    intro k
    rw [List.cons_append]
    cases h : isBt c with
    | true =>
      rcases bt_cases h with hq | rfl
      · rw [gap_blank hq, gap_blank hq, ih]
      · rw [gap_kid, gap_kid]
        cases k with
        | true => rfl
        | false => exact ih true
    | false =>
      rw [gap_stop h, gap_stop h]
      rfl
theorem txt_post {b : List UInt8} (hb : Bls b) (l : List UInt8) : txt (l ++ b) = txt l ∧ (rst (l ++ b) = rst l ++ b) := by
  induction l with
  | nil =>
    cases b with
    | nil => exact ⟨rfl, rfl⟩
    | cons c t =>
      have h : isBt c = true := by unfold isBt; rw [hb c List.mem_cons_self]; rfl
      exact ⟨by rw [List.nil_append]; unfold txt; rw [List.takeWhile_cons, h]; rfl, by rw [List.nil_append]; unfold rst; rw [List.dropWhile_cons, h]; rfl⟩
  | cons c t ih =>
    rw [List.cons_append]
    cases h : isBt c with
    | true => exact ⟨by unfold txt; rw [List.takeWhile_cons, List.takeWhile_cons, h]; rfl, by unfold rst; rw [List.dropWhile_cons, List.dropWhile_cons, h]; rfl⟩
    | false =>
      have q1 : ∀ t, txt (c :: t) = c :: txt t := fun t => by unfold txt; rw [List.takeWhile_cons, h]; rfl
      have q2 : ∀ t, rst (c :: t) = rst t := fun t => by unfold rst; rw [List.dropWhile_cons, h]; rfl
      rw [q1, q1, q2, q2, ih.1, ih.2]
      exact ⟨rfl, rfl⟩
theorem part_post {b : List UInt8} (hb : Bls b) (n : Nat) : ∀ l : List UInt8, l.length < n → partP (l ++ b) = partP l := by
  induction n with
  | zero => intro l h; omega
  | succ n ih =>
    intro l hl
    rw [part_eq, part_eq, (txt_post hb l).1, (txt_post hb l).2, gap_post hb]
    cases hg : gap false (rst l) with
    | none => rfl
    | some x =>
      obtain ⟨k, r⟩ := x
      cases r with
      | nil => rfl
      | cons c r =>
        have hless := gap_less hg
        have hi := ih (c :: r) (by omega)
        rw [List.cons_append] at hi
        show (match partP (c :: (r ++ b)) with | none => none | some (ts, cs) => some (txt l :: ts, k :: cs)) = _
        simp only [hi]
        cases partP (c :: r) <;> rfl
theorem read_kid (r : List UInt8) : readL (62 :: r) = none := by
  unfold readL
  have ht : txt (62 :: r) = [] := rfl
  have key : ∀ ts cs, partP (62 :: r) = some (ts, cs) → ∃ us, ts = [] :: us := by
    intro ts cs h
    rw [part_eq, ht] at h
    cases hg : gap false (rst (62 :: r)) with
    | none => rw [hg] at h; cases h
    | some x =>
      obtain ⟨k, q⟩ := x
      rw [hg] at h
      cases q with
      | nil =>
        cases k with
        | true => cases h
        | false => injection h with h; injection h with h _; exact ⟨[], h.symm⟩
      | cons c q =>
        cases hp : partP (c :: q) with
        | none => simp only [hp] at h; cases h
        | some y =>
          obtain ⟨ts', cs'⟩ := y
          simp only [hp] at h
          injection h with h; injection h with h _
          exact ⟨ts', h.symm⟩
  cases hp : partP (62 :: r) with
  | none => rfl
  | some y =>
    obtain ⟨ts, cs⟩ := y
    obtain ⟨us, rfl⟩ := key ts cs hp
    show (if 8 < ([] :: us).length then none else match allS ([] :: us) with | none => none | some ps => some (⟨ps, cs⟩ : Slr)) = none
    split
    · rfl
    · rfl
theorem readL_of {a b : List UInt8} (h : partP a = partP b) : readL a = readL b := by unfold readL; rw [h]
/-- Blanks and great letters change nothing. -/
theorem read_expd (l : List UInt8) : readP (expd l) = readP l := by
  rw [readP_eq, readP_eq]
  have e : lowL (expd l) = [10, 32] ++ ((lowL l).flatMap e1 ++ [32]) := by
    unfold expd
    rw [low_app, low_app, low_exp]
    rfl
  rw [e, tr_pre _ (show Bls [10, 32] from by unfold Bls; decide), tr_post (show Bls [32] from by unfold Bls; decide)]
  obtain ⟨a, b, hs, ha, hb, -⟩ := tr_split (lowL l)
  have hx := trim_trim (lowL l)
  generalize trimL (lowL l) = x at *
  rw [hs, List.flatMap_append, List.flatMap_append, tr_pre _ (bls_e ha), tr_post (bls_e hb)]
  cases x with
  | nil => rfl
  | cons c t =>
    have hc : isBlank c = false := by
      cases h : isBlank c with
      | false => rfl
      | true =>
        rw [tr_head t h] at hx
        have := trim_len t
        rw [hx, List.length_cons] at this
        omega
    by_cases h62 : c = 62
    · subst h62
      rw [read_kid]
      have : ((62 :: t).flatMap e1) = 32 :: 62 :: 9 :: t.flatMap e1 := rfl
      rw [this, tr_head _ rfl]
      obtain ⟨s, hs⟩ := tr_first (a := 62) (9 :: t.flatMap e1) rfl
      rw [hs, read_kid]
    · have hbt : isBt c = false := by unfold isBt; rw [hc]; simpa using h62
      have he : (c :: t).flatMap e1 = c :: t.flatMap e1 := by rw [List.flatMap_cons, e1_no hbt]; rfl
      obtain ⟨a2, b2, hs2, -, hb2, ha2⟩ := tr_split ((c :: t).flatMap e1)
      have ha2 := ha2 c _ he hc
      subst ha2
      rw [List.nil_append] at hs2
      refine readL_of ?_
      rw [← part_post hb2 _ _ (Nat.lt_succ_self _), ← hs2]
      exact part_e _ _ (Nat.lt_succ_self _)

/-! ### lists -/
def joinT : List (List UInt8) → List UInt8
  | [] => []
  | x :: xs => x ++ match xs with
    | [] => []
    | y :: ys => 44 :: 32 :: joinT (y :: ys)
theorem joinT_one (x : List UInt8) : joinT [x] = x := by unfold joinT; rw [List.append_nil]
theorem joinT_two (x y : List UInt8) (ys : List (List UInt8)) : joinT (x :: y :: ys) = x ++ 44 :: 32 :: joinT (y :: ys) := by rw [joinT]
theorem pa_none {p : UInt8 → Bool} (l : List UInt8) (h : ∀ c ∈ l, p c = false) : partsAt p l = [l] := by
  induction l with
  | nil => rfl
  | cons c t ih => rw [partsAt, if_neg (by rw [h c (by simp)]; decide), ih (fun c hc => h c (by simp [hc]))]
theorem pa_some {p : UInt8 → Bool} (l : List UInt8) (c : UInt8) (t : List UInt8) (h : ∀ c ∈ l, p c = false) (hc : p c = true) : partsAt p (l ++ c :: t) = l :: partsAt p t := by
  induction l with
  | nil =>
    show partsAt p (c :: t) = _
    rw [partsAt, if_pos hc]
  | cons d l ih =>
    show partsAt p (d :: (l ++ c :: t)) = _
    rw [partsAt, if_neg (by rw [h d (by simp)]; decide), ih (fun c hc => h c (by simp [hc]))]
theorem parts_join : ∀ (xs : List (List UInt8)) (pre x : List UInt8), (∀ c ∈ pre, (c == 44) = false) → (∀ y ∈ x :: xs, ∀ c ∈ y, (c == 44) = false) → partsAt (· == 44) (pre ++ joinT (x :: xs)) = (pre ++ x) :: xs.map (32 :: ·) := by
  intro xs
  induction xs with
  | nil =>
    intro pre x hp hx
    rw [joinT_one, pa_none _ (fun c hc => ?_)]
    · rfl
    · rcases List.mem_append.1 hc with hc | hc
      · exact hp c hc
      · exact hx x List.mem_cons_self c hc
  | cons y ys ih =>
    intro pre x hp hx
    rw [joinT_two, ← List.append_assoc, pa_some _ _ _ (fun c hc => ?_) rfl]
    · have := ih [32] y (by decide) (fun z hz => hx z (List.mem_cons_of_mem _ hz))
      rw [List.singleton_append] at this
      rw [this]
      rfl
    · rcases List.mem_append.1 hc with hc | hc
      · exact hp c hc
      · exact hx x List.mem_cons_self c hc
theorem go_cons (t : List UInt8) (ts : List (List UInt8)) : listP.go (t :: ts) = match readP t with
    | none => none
    | some x => match listP.go ts with
      | none => none
      | some xs => some (x :: xs) := by
  rw [listP.go]
  cases readP t with
  | none => rfl
  | some x => cases listP.go ts <;> rfl
theorem go_map (f : List UInt8 → List UInt8) (h : ∀ l, readP (f l) = readP l) : ∀ ts : List (List UInt8), listP.go (ts.map f) = listP.go ts := by
  intro ts
  induction ts with
  | nil => rfl
  | cons t ts ih => rw [List.map_cons, go_cons, go_cons, h, ih]
theorem go_split (xs : List (List UInt8)) (x : List UInt8) (h : ∀ y ∈ x :: xs, ∀ c ∈ y, (c == 44) = false) : listP.go (splitF 44 (joinT (x :: xs))) = listP.go (x :: xs) := by
  have hp := parts_join xs [] x (fun c hc => by cases hc) h
  rw [List.nil_append, List.nil_append] at hp
  unfold splitF
  rw [hp, go_map _ readP_trim]
  rw [go_cons, go_cons, go_map _ readP_blank]
theorem no_comma (x : Slr) : ∀ c ∈ printP x, (c == 44) = false := by
  intro c hc
  unfold printP at hc
  split at hc
  · rename_i h
    exact (text_low _ _ (maySlr_of h).2.2.2 c hc).2
  · cases hc
theorem go_prints : ∀ xs : List Slr, listP.go (xs.map printP) = if xs.all maySlr then some xs else none := by
  intro xs
  induction xs with
  | nil => rfl
  | cons x xs ih =>
    rw [List.map_cons, go_cons, List.all_cons]
    cases hx : maySlr x with
    | true =>
      rw [read_print hx, ih]
      show (match (if (xs.all maySlr) = true then some xs else none) with | none => none | some xs => some (x :: xs)) = _
      cases xs.all maySlr <;> rfl
    | false =>
      have : printP x = [] := by unfold printP; rw [hx]; rfl
      rw [this, read_nil]
      rfl
/-- Selectors that are printed, with commas between, are read as a list of these. -/
theorem list_prints (x : Slr) (xs : List Slr) : listP.go (splitF 44 (joinT ((x :: xs).map printP))) = if (x :: xs).all maySlr then some (x :: xs) else none := by
  rw [List.map_cons, go_split]
  · rw [← List.map_cons, go_prints]
  · rw [← List.map_cons]
    intro y hy
    obtain ⟨z, -, rfl⟩ := List.mem_map.1 hy
    exact no_comma z
end Sel
end Go.Proofs.YtdfcahdipalmkaaGreatDoor
