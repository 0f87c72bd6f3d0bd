/- The plain mathematics of lines: which pieces stand in which line, and where. Conditions: as the theorems' premises say. -/
import Derived.Test.YtgglffmfkhbcgaaLineM
namespace Go.Proofs.Ytgglffmfkhbcgaa
/-- Lines that are laid, from one piece to another one; the open one. -/
structure Ps where
  cl : List (Nat × Nat)
  m : Nat
  n : Nat
def stepP (l : List Pc) (room : Int) (ps : Ps) (e : Nat) : Ps :=
  if ps.m = ps.n then ⟨ps.cl, ps.n, e⟩ else if min (wOf l ps.m e) 1099511627776 ≤ room then ⟨ps.cl, ps.m, e⟩ else ⟨ps.cl ++ [(ps.m, ps.n)], ps.n, e⟩
def psTo (l : List Pc) (room : Int) : Nat → Ps
  | 0 => ⟨[], 0, 0⟩
  | k + 1 => if rowEnd l (k + 1) = true then stepP l room (psTo l room k) (k + 1) else psTo l room k
def finP (ps : Ps) : List (Nat × Nat) := if ps.m = ps.n then ps.cl else ps.cl ++ [(ps.m, ps.n)]
/-- The lines of all pieces in a room. -/
def linesP (l : List Pc) (room : Int) : List (Nat × Nat) := finP (psTo l room l.length)
def highs (l : List Pc) (cl : List (Nat × Nat)) : Nat → Int
  | 0 => 0
  | j + 1 => highs l cl j + (match cl[j]? with | some x => hiP (sub l x.1 x.2) | none => 0)
theorem highs_app (l : List Pc) (cl : List (Nat × Nat)) (x : Nat × Nat) : ∀ j, j ≤ cl.length → highs l (cl ++ [x]) j = highs l cl j
  | 0, _ => rfl
  | j + 1, h => by rw [highs, highs, highs_app l cl x j (by omega), List.getElem?_append_left (by omega)]
def offL (l : List Pc) (a i : Nat) : Int := pre Pc.w l i - pre Pc.w l a + (pre Pc.g l (i + 1) - pre Pc.g l (a + 1))
theorem hi_of {op : List Pc} {p : Pc} (hp : p ∈ op) : p.h ≤ hiP op := by
  have key : ∀ (l : List Pc) (m : Int), m ≤ l.foldl (fun m p => max m p.h) m ∧ ∀ q ∈ l, q.h ≤ l.foldl (fun m p => max m p.h) m := by
    intro l
    induction l with
    | nil => intro m; exact ⟨Int.le_refl _, fun q hq => by cases hq⟩
    | cons r l ih =>
      intro m
      obtain ⟨h1, h2⟩ := ih (max m r.h)
      refine ⟨show m ≤ l.foldl _ (max m r.h) by omega, fun q hq => ?_⟩
      rcases List.mem_cons.1 hq with rfl | hq
      · show q.h ≤ l.foldl _ (max m q.h); omega
      · exact h2 q hq
  exact (key op 0).2 p hp
theorem hi_nn (op : List Pc) : 0 ≤ hiP op := by
  have key : ∀ (l : List Pc) (m : Int), m ≤ l.foldl (fun m p => max m p.h) m := by
    intro l
    induction l with
    | nil => intro m; exact Int.le_refl _
    | cons r l ih => intro m; have := ih (max m r.h); show m ≤ l.foldl _ (max m r.h); omega
  exact key op 0
/-- What a filler has laid: of lines that are told. -/
structure PlOk (l : List Pc) (room align : Int) (cl : List (Nat × Nat)) (M : Nat) (s : Fs) : Prop where
  bnd : ∀ (j a b : Nat), cl[j]? = some (a, b) → a < b ∧ b ≤ M
  len : s.pls.length = M
  lines : s.lines = cl.length
  nums : ∀ (j a b i : Nat), cl[j]? = some (a, b) → a ≤ i → i < b → ∃ q, s.pls[i]? = some q ∧ q.n = j
  ex : s.cut = false → s.high = highs l cl cl.length ∧ 0 ≤ s.high ∧ s.high ≤ 1099511627776 ∧
    ∀ (j a b i : Nat) (p : Pc), cl[j]? = some (a, b) → a ≤ i → i < b → l[i]? = some p → s.pls[i]? = some ⟨i, j, moveF room (wOf l a b) align + offL l a i, highs l cl j + (hiP (sub l a b) - p.h), p.w, p.h⟩ ∧
      moveF room (wOf l a b) align + offL l a i + p.w ≤ 1099511627776 ∧ highs l cl j + (hiP (sub l a b) - p.h) ≤ 1099511627776 ∧ 0 ≤ highs l cl j
theorem off_sub {l : List Pc} {m n d : Nat} (hd : m + d < n) : offP (sub l m n) d = offL l m (m + d) := by
  unfold offP offL
  rw [pre_sub _ _ (by omega), pre_sub _ _ (by omega), pre_sub _ _ (by omega), show m + (d + 1) = m + d + 1 by omega]
  omega
theorem end_ok {l : List Pc} {room align : Int} {cl : List (Nat × Nat)} {m n : Nat} {s : Fs} (hm : mayP l = true) (h : PlOk l room align cl m s) (hop : s.op = sub l m n) (hmn : m < n) (hn : n ≤ l.length) (hw : s.cut = false → s.wide = wOf l m n) :
    PlOk l room align (cl ++ [(m, n)]) n (endF room align s) := by
  have hol := sub_len (l := l) (a := m) hn
  have hz : s.op ≠ [] := by
    intro e
    rw [← hop, e] at hol
    simp at hol
    omega
  obtain ⟨op, wide, pls, lines, high, cut⟩ := s
  simp only at hop hz hw
  subst hop
  rw [endF_some' hz]
  have h1 := h.len
  have h2 := h.lines
  simp only at h1 h2
  have hl := endAt_len lines high (hiP (sub l m n)) ⟨moveF room wide align, pls, cut⟩ (sub l m n) _ (Nat.le_refl _)
  obtain ⟨n1, n2⟩ := endAt_nums lines high (hiP (sub l m n)) ⟨moveF room wide align, pls, cut⟩ (sub l m n) _ (Nat.le_refl _)
  simp only at hl n1 n2
  refine ⟨?_, ?_, ?_, ?_, ?_⟩
  · intro j a b hj
    rcases Nat.lt_or_ge j cl.length with hjl | hjl
    · rw [List.getElem?_append_left hjl] at hj
      obtain ⟨x, y⟩ := h.bnd j a b hj
      exact ⟨x, by omega⟩
    · rw [List.getElem?_append_right hjl] at hj
      rcases Nat.eq_zero_or_pos (j - cl.length) with e | e
      · rw [e] at hj; simp at hj; omega
      · rw [List.getElem?_eq_none (by simp; omega)] at hj; cases hj
  · rw [hl, hol]; omega
  · simp only [List.length_append, List.length_cons, List.length_nil]; omega
  · intro j a b i hj ha hb
    rcases Nat.lt_or_ge j cl.length with hjl | hjl
    · rw [List.getElem?_append_left hjl] at hj
      obtain ⟨_, y⟩ := h.bnd j a b hj
      rw [n1 i (by omega)]
      exact h.nums j a b i hj ha hb
    · rw [List.getElem?_append_right hjl] at hj
      rcases Nat.eq_zero_or_pos (j - cl.length) with e | e
      · rw [e] at hj
        simp at hj
        obtain ⟨rfl, rfl⟩ := hj
        obtain ⟨q, hq, hqn⟩ := n2 (i - m) (by omega)
        rw [show pls.length + (i - m) = i by omega] at hq
        exact ⟨q, hq, by omega⟩
      · rw [List.getElem?_eq_none (by simp; omega)] at hj; cases hj
  · intro hc
    simp only [Bool.or_eq_false_iff, Bool.not_eq_false'] at hc
    obtain ⟨hc, hh⟩ := hc
    obtain ⟨c0, -, -, c3⟩ := endAt_exact lines high (hiP (sub l m n)) (moveF room wide align) pls cut (sub l m n) (may_sub' hm _ _) (fun p hp => hi_of hp) _ (Nat.le_refl _) hc
    obtain ⟨e1, e2, e3, e4⟩ := h.ex c0
    simp only at e1 e2 e3 e4
    have hw2 := hw c0
    subst hw2
    obtain ⟨_, _, _, _, _, t1, t2⟩ := addOk_t hh
    have hnn := hi_nn (sub l m n)
    have hlast : highs l (cl ++ [(m, n)]) (cl.length + 1) = highs l cl cl.length + hiP (sub l m n) := by
      rw [highs, highs_app l cl _ _ (Nat.le_refl _), List.getElem?_append_right (Nat.le_refl _), Nat.sub_self]; rfl
    refine ⟨?_, ?_, ?_, ?_⟩
    · rw [List.length_append, List.length_cons, List.length_nil, hlast, ← e1]; exact t2
    · show 0 ≤ add2 high (hiP (sub l m n)); omega
    · show add2 high (hiP (sub l m n)) ≤ _; omega
    · intro j a b i p hj ha hb hp
      rcases Nat.lt_or_ge j cl.length with hjl | hjl
      · rw [List.getElem?_append_left hjl] at hj
        obtain ⟨_, y⟩ := h.bnd j a b hj
        rw [n1 i (by omega), highs_app l cl _ _ (by omega)]
        exact e4 j a b i p hj ha hb hp
      · rw [List.getElem?_append_right hjl] at hj
        rcases Nat.eq_zero_or_pos (j - cl.length) with e | e
        · rw [e] at hj
          simp at hj
          obtain ⟨rfl, rfl⟩ := hj
          have hjc : j = cl.length := by omega
          have hsp : (sub l m n)[i - m]? = some p := by rw [sub_at (by omega), show m + (i - m) = i by omega]; exact hp
          obtain ⟨d1, d2, d3⟩ := c3 (i - m) p (by omega) hsp
          rw [off_sub (by omega), show m + (i - m) = i by omega] at d1 d2
          rw [show pls.length + (i - m) = i by omega] at d1
          rw [highs_app l cl _ _ (by omega), hjc, ← e1, ← h2]
          exact ⟨d1, d2, d3, e2⟩
        · rw [List.getElem?_eq_none (by simp; omega)] at hj; cases hj
/-- A filler, behind rows that end at one of so many places. -/
structure StOk (l : List Pc) (room align : Int) (ps : Ps) (s : Fs) : Prop where
  pl : PlOk l room align ps.cl ps.m s
  op : s.op = sub l ps.m ps.n
  wide : ps.m < ps.n → s.wide = min (wOf l ps.m ps.n) 1099511627776
  ex : s.cut = false → ps.m < ps.n → wOf l ps.m ps.n ≤ 1099511627776
/-- Lines, behind rows that end at one of so many places. -/
structure PsOk (l : List Pc) (room : Int) (k : Nat) (ps : Ps) : Prop where
  row : ps.n = (rowsTo l k).2
  nk : ps.n ≤ k
  mn : ps.m ≤ ps.n
  m0 : ps.m = ps.n → ps.n = 0 ∧ ps.cl = []
  nil : ps.cl = [] → ps.m = 0
  chain : ∀ (j a b : Nat), ps.cl[j]? = some (a, b) → a < b ∧ b ≤ ps.m ∧ (j = 0 → a = 0) ∧ (∀ a' b', ps.cl[j + 1]? = some (a', b') → a' = b) ∧ (j + 1 = ps.cl.length → b = ps.m)
  gap : ∀ i, ps.n < i → i ≤ k → rowEnd l i = false
  brkm : 0 < ps.m → rowEnd l ps.m = true
  brkn : 0 < ps.n → rowEnd l ps.n = true
  fit : ps.m < ps.n → min (wOf l ps.m ps.n) 1099511627776 ≤ room ∨ ∀ i, ps.m < i → i < ps.n → rowEnd l i = false
  done : ∀ (j a b : Nat), ps.cl[j]? = some (a, b) → (0 < a → rowEnd l a = true) ∧ rowEnd l b = true ∧ (min (wOf l a b) 1099511627776 ≤ room ∨ ∀ i, a < i → i < b → rowEnd l i = false) ∧
    ∃ e, b < e ∧ e ≤ k ∧ (∀ i, b < i → i < e → rowEnd l i = false) ∧ rowEnd l e = true ∧ ¬ min (wOf l a e) 1099511627776 ≤ room
theorem psOk (l : List Pc) (room : Int) : ∀ k, k ≤ l.length → PsOk l room k (psTo l room k) := by
  intro k
  induction k with
  | zero =>
    intro _
    exact ⟨rfl, Nat.le_refl _, Nat.le_refl _, fun _ => ⟨rfl, rfl⟩, fun _ => rfl, fun j a b h => by simp [psTo] at h, fun i h1 h2 => by simp [psTo] at h1; omega, fun h => by simp [psTo] at h, fun h => by simp [psTo] at h, fun h => by simp [psTo] at h, fun j a b h => by simp [psTo] at h⟩
  | succ k ih =>
    intro hk
    have h := ih (by omega)
    have hnk := h.nk
    have hmn := h.mn
    cases hr : rowEnd l (k + 1) with
    | false =>
      have e1 : psTo l room (k + 1) = psTo l room k := by rw [psTo, if_neg (by rw [hr]; simp)]
      have e2 : rowsTo l (k + 1) = rowsTo l k := by rw [rowsTo, if_neg (by rw [hr]; simp)]
      rw [e1]
      refine ⟨by rw [e2]; exact h.row, by omega, h.mn, h.m0, h.nil, h.chain, fun i h1 h2 => ?_, h.brkm, h.brkn, h.fit, fun j a b hj => ?_⟩
      · by_cases e : i = k + 1
        · subst e; exact hr
        · exact h.gap i h1 (by omega)
      · obtain ⟨d1, d2, d3, e, d4, d5, d6⟩ := h.done j a b hj
        exact ⟨d1, d2, d3, e, d4, by omega, d6⟩
    | true =>
      have e1 : psTo l room (k + 1) = stepP l room (psTo l room k) (k + 1) := by rw [psTo, if_pos hr]
      have e2 : rowsTo l (k + 1) = ((rowsTo l k).1 ++ [((rowsTo l k).2, k + 1)], k + 1) := by rw [rowsTo, if_pos hr]
      rw [e1]
      generalize psTo l room k = ps at *
      unfold stepP
      by_cases h0 : ps.m = ps.n
      · obtain ⟨z1, z2⟩ := h.m0 h0
        rw [if_pos h0, z1, z2]
        refine ⟨by rw [e2], Nat.le_refl _, Nat.zero_le _, fun h => by simp at h, fun _ => rfl, fun j a b hj => by simp at hj, fun i h1 h2 => by simp at h1; omega, fun h => by simp at h, fun _ => hr, fun _ => Or.inr fun i h1 h2 => ?_, fun j a b hj => by simp at hj⟩
        exact h.gap i (by omega) (by simp only at h2; omega)
      · rw [if_neg h0]
        by_cases hf : min (wOf l ps.m (k + 1)) 1099511627776 ≤ room
        · rw [if_pos hf]
          refine ⟨by rw [e2], Nat.le_refl _, by show ps.m ≤ k + 1; omega, fun h => by simp only at h; omega, h.nil, h.chain, fun i h1 h2 => by simp only at h1; omega, h.brkm, fun _ => hr, fun _ => Or.inl hf, fun j a b hj => ?_⟩
          obtain ⟨d1, d2, d3, e, d4, d5, d6⟩ := h.done j a b hj
          exact ⟨d1, d2, d3, e, d4, by omega, d6⟩
        · rw [if_neg hf]
          have hbn := h.brkn (by omega)
          refine ⟨by rw [e2], Nat.le_refl _, by show ps.n ≤ k + 1; omega, fun h => by simp only at h; omega, fun h => by simp at h, fun j a b hj => ?_, fun i h1 h2 => by simp only at h1; omega, fun _ => hbn, fun _ => hr, fun _ => Or.inr fun i h1 h2 => h.gap i h1 (by simp only at h2; omega), fun j a b hj => ?_⟩
          · simp only at hj ⊢
            rcases Nat.lt_or_ge j ps.cl.length with hjl | hjl
            · rw [List.getElem?_append_left hjl] at hj
              obtain ⟨c1, c2, c3, c4, c5⟩ := h.chain j a b hj
              refine ⟨c1, by omega, c3, fun a' b' h' => ?_, fun h' => by simp at h'; omega⟩
              rcases Nat.lt_or_ge (j + 1) ps.cl.length with h2 | h2
              · rw [List.getElem?_append_left h2] at h'; exact c4 a' b' h'
              · rw [List.getElem?_append_right h2, show j + 1 - ps.cl.length = 0 by omega] at h'
                simp at h'
                have := c5 (by omega)
                omega
            · rw [List.getElem?_append_right hjl] at hj
              rcases Nat.eq_zero_or_pos (j - ps.cl.length) with e | e
              · rw [e] at hj; simp at hj
                obtain ⟨rfl, rfl⟩ := hj
                refine ⟨by omega, Nat.le_refl _, fun hj0 => h.nil (List.eq_nil_of_length_eq_zero (by omega)), fun a' b' h' => ?_, fun _ => rfl⟩
                rw [List.getElem?_append_right (by omega), List.getElem?_eq_none (by simp; omega)] at h'; cases h'
              · rw [List.getElem?_eq_none (by simp; omega)] at hj; cases hj
          · simp only at hj
            rcases Nat.lt_or_ge j ps.cl.length with hjl | hjl
            · rw [List.getElem?_append_left hjl] at hj
              obtain ⟨d1, d2, d3, e, d4, d5, d6⟩ := h.done j a b hj
              exact ⟨d1, d2, d3, e, d4, by omega, d6⟩
            · rw [List.getElem?_append_right hjl] at hj
              rcases Nat.eq_zero_or_pos (j - ps.cl.length) with e | e
              · rw [e] at hj; simp at hj
                obtain ⟨rfl, rfl⟩ := hj
                exact ⟨h.brkm, hbn, h.fit (by omega), k + 1, by omega, Nat.le_refl _, fun i h1 h2 => h.gap i h1 (by omega), hr, hf⟩
              · rw [List.getElem?_eq_none (by simp; omega)] at hj; cases hj
def stTo (l : List Pc) (room align : Int) (k : Nat) : Fs := (rowsTo l k).1.foldl (fun s r => takeF room align s (rowOf l r)) ⟨[], 0, [], 0, 0, false⟩
theorem stOk {l : List Pc} {room align : Int} (hm : mayP l = true) : ∀ k, k ≤ l.length → StOk l room align (psTo l room k) (stTo l room align k) := by
  intro k
  induction k with
  | zero =>
    intro _
    refine ⟨⟨fun j a b h => by simp [psTo] at h, rfl, rfl, fun j a b i h => by simp [psTo] at h, fun _ => ⟨rfl, show (0 : Int) ≤ 0 by decide, show (0 : Int) ≤ 1099511627776 by decide, fun j a b i p h => by simp [psTo] at h⟩⟩, ?_, fun h => by simp [psTo] at h, fun _ h => by simp [psTo] at h⟩
    show [] = sub l 0 0
    unfold sub; simp
  | succ k ih =>
    intro hk
    have h := ih (by omega)
    have hp := psOk l room k (by omega)
    cases hr : rowEnd l (k + 1) with
    | false =>
      have e1 : psTo l room (k + 1) = psTo l room k := by rw [psTo, if_neg (by rw [hr]; simp)]
      have e2 : rowsTo l (k + 1) = rowsTo l k := by rw [rowsTo, if_neg (by rw [hr]; simp)]
      rw [e1, show stTo l room align (k + 1) = stTo l room align k by unfold stTo; rw [e2]]
      exact h
    | true =>
      have e1 : psTo l room (k + 1) = stepP l room (psTo l room k) (k + 1) := by rw [psTo, if_pos hr]
      have e2 : rowsTo l (k + 1) = ((rowsTo l k).1 ++ [((rowsTo l k).2, k + 1)], k + 1) := by rw [rowsTo, if_pos hr]
      have e3 : stTo l room align (k + 1) = takeF room align (stTo l room align k) (sub l (psTo l room k).n (k + 1)) := by
        unfold stTo; rw [e2, List.foldl_append, ← hp.row]; rfl
      rw [e1, e3]
      generalize psTo l room k = ps at *
      generalize stTo l room align k = s at *
      have hnk := hp.nk
      have hmn := hp.mn
      have hol := sub_len (l := l) (a := ps.m) (b := ps.n) (by omega)
      have hlen := h.pl.len
      obtain ⟨q1, q2⟩ := sum_begin hm (show ps.n < k + 1 by omega) hk
      unfold stepP
      by_cases h0 : ps.m = ps.n
      · have ho : s.op = [] := List.eq_nil_of_length_eq_zero (by rw [h.op, hol]; omega)
        have et : takeF room align s (sub l ps.n (k + 1)) = beginF s (sub l ps.n (k + 1)) := by simp only [takeF, ho, if_true]
        rw [if_pos h0, et]
        unfold beginF
        refine ⟨⟨fun j a b hj => ?_, by rw [← h0]; exact hlen, h.pl.lines, h.pl.nums, fun hc => ?_⟩, rfl, fun _ => q1, fun hc _ => ?_⟩
        · obtain ⟨x, y⟩ := h.pl.bnd j a b hj; exact ⟨x, by show b ≤ ps.n; omega⟩
        · simp only [Bool.or_eq_false_iff] at hc; exact h.pl.ex hc.1
        · simp only [Bool.or_eq_false_iff, Bool.not_eq_false'] at hc; exact q2.1 hc.2
      · have hlt : ps.m < ps.n := by omega
        have hz : s.op ≠ [] := by intro e; rw [← h.op, e] at hol; simp at hol; omega
        have hsw := h.wide hlt
        obtain ⟨t1, t2⟩ := sum_more hm hlt (show ps.n ≤ k + 1 by omega) hk s.wide hsw
        rw [if_neg h0, ← t1]
        by_cases hf : (sumL (s.wide :: gwP (sub l ps.n (k + 1)))).1 ≤ room
        · have et : takeF room align s (sub l ps.n (k + 1)) = { s with op := s.op ++ sub l ps.n (k + 1), wide := (sumL (s.wide :: gwP (sub l ps.n (k + 1)))).1, cut := s.cut || !(sumL (s.wide :: gwP (sub l ps.n (k + 1)))).2 } := by simp only [takeF, if_neg hz, if_pos hf]
          rw [if_pos hf, et]
          refine ⟨⟨h.pl.bnd, hlen, h.pl.lines, h.pl.nums, fun hc => ?_⟩, ?_, fun _ => t1, fun hc _ => ?_⟩
          · simp only [Bool.or_eq_false_iff] at hc; exact h.pl.ex hc.1
          · show s.op ++ sub l ps.n (k + 1) = sub l ps.m (k + 1)
            rw [h.op]; exact sub_append (by omega) (by omega) hk
          · simp only [Bool.or_eq_false_iff, Bool.not_eq_false'] at hc
            have := h.ex hc.1 hlt
            exact t2 hc.2 (by rw [hsw]; omega)
        · have et : takeF room align s (sub l ps.n (k + 1)) = beginF (endF room align s) (sub l ps.n (k + 1)) := by simp only [takeF, if_neg hz, if_neg hf]
          rw [if_neg hf, et]
          have he := end_ok hm h.pl h.op hlt (by omega) (fun hc => by have := h.ex hc hlt; rw [hsw]; omega)
          unfold beginF
          refine ⟨⟨he.bnd, he.len, he.lines, he.nums, fun hc => ?_⟩, rfl, fun _ => q1, fun hc _ => ?_⟩
          · simp only [Bool.or_eq_false_iff] at hc; exact he.ex hc.1
          · simp only [Bool.or_eq_false_iff, Bool.not_eq_false'] at hc; exact q2.1 hc.2
end Go.Proofs.Ytgglffmfkhbcgaa
