/- The plain mathematics of lines: what Fill tells, line by line. Conditions: as the theorems' premises say. -/
import Derived.Test.YtgglffmfkhbcgaaLineN
namespace Go.Proofs.Ytgglffmfkhbcgaa
structure LinesOk (l : List Pc) (room : Int) (C : List (Nat × Nat)) : Prop where
  nil : C = [] → l.length = 0
  chain : ∀ (j a b : Nat), C[j]? = some (a, b) → a < b ∧ b ≤ l.length ∧ (j = 0 → a = 0) ∧ (∀ a' b', C[j + 1]? = some (a', b') → a' = b) ∧ (j + 1 = C.length → b = l.length)
  fits : ∀ (j a b : Nat), C[j]? = some (a, b) → (0 < a → rowEnd l a = true) ∧ rowEnd l b = true ∧ (min (wOf l a b) 1099511627776 ≤ room ∨ ∀ i, a < i → i < b → rowEnd l i = false) ∧
    (j + 1 < C.length → ∃ e, b < e ∧ e ≤ l.length ∧ (∀ i, b < i → i < e → rowEnd l i = false) ∧ rowEnd l e = true ∧ ¬ min (wOf l a e) 1099511627776 ≤ room)
theorem rowsTo_all {l : List Pc} (h : 0 < l.length) : (rowsTo l l.length).2 = l.length := by
  obtain ⟨k, hk⟩ : ∃ k, l.length = k + 1 := ⟨l.length - 1, by omega⟩
  have hr : rowEnd l (k + 1) = true := by unfold rowEnd; rw [List.getElem?_eq_none (by omega)]
  rw [hk, rowsTo, if_pos hr]
theorem lines_ok (l : List Pc) (room : Int) : LinesOk l room (linesP l room) := by
  have h := psOk l room l.length (Nat.le_refl _)
  have hrow := h.row
  have hmn := h.mn
  unfold linesP finP
  generalize psTo l room l.length = ps at *
  by_cases h0 : ps.m = ps.n
  · obtain ⟨z1, z2⟩ := h.m0 h0
    have hl : l.length = 0 := by
      rcases Nat.eq_zero_or_pos l.length with e | e
      · exact e
      · rw [rowsTo_all e] at hrow; omega
    rw [if_pos h0, z2]
    exact ⟨fun _ => hl, fun j a b hj => by simp at hj, fun j a b hj => by simp at hj⟩
  · have hn : ps.n = l.length := by
      rcases Nat.eq_zero_or_pos l.length with e | e
      · have := h.nk; omega
      · rw [hrow, rowsTo_all e]
    rw [if_neg h0]
    refine ⟨fun e => by simp at e, fun j a b hj => ?_, fun j a b hj => ?_⟩
    · rcases Nat.lt_or_ge j ps.cl.length with hjl | hjl
      · rw [List.getElem?_append_left hjl] at hj
        obtain ⟨c1, c2, c3, c4, c5⟩ := h.chain j a b hj
        refine ⟨c1, by omega, c3, fun a' b' h' => ?_, fun h' => by simp at h'; omega⟩
        rcases Nat.lt_or_ge (j + 1) ps.cl.length with h2 | h2
        · rw [List.getElem?_append_left h2] at h'; exact c4 a' b' h'
        · rw [List.getElem?_append_right h2, show j + 1 - ps.cl.length = 0 by omega] at h'
          simp at h'
          have := c5 (by omega)
          omega
      · rw [List.getElem?_append_right hjl] at hj
        rcases Nat.eq_zero_or_pos (j - ps.cl.length) with e | e
        · rw [e] at hj; simp at hj
          obtain ⟨rfl, rfl⟩ := hj
          refine ⟨by omega, by omega, fun hj0 => h.nil (List.eq_nil_of_length_eq_zero (by omega)), fun a' b' h' => ?_, fun _ => hn⟩
          rw [List.getElem?_append_right (by omega), List.getElem?_eq_none (by simp; omega)] at h'; cases h'
        · rw [List.getElem?_eq_none (by simp; omega)] at hj; cases hj
    · rcases Nat.lt_or_ge j ps.cl.length with hjl | hjl
      · rw [List.getElem?_append_left hjl] at hj
        obtain ⟨d1, d2, d3, e, d4, d5, d6⟩ := h.done j a b hj
        exact ⟨d1, d2, d3, fun _ => ⟨e, d4, d5, d6⟩⟩
      · rw [List.getElem?_append_right hjl] at hj
        rcases Nat.eq_zero_or_pos (j - ps.cl.length) with e | e
        · rw [e] at hj; simp at hj
          obtain ⟨rfl, rfl⟩ := hj
          exact ⟨h.brkm, h.brkn (by omega), h.fit (by omega), fun h' => by simp at h'; omega⟩
        · rw [List.getElem?_eq_none (by simp; omega)] at hj; cases hj
theorem fill_ok {l : List Pc} {room : Int} (align : Int) (hm : mayP l = true) : PlOk l room align (linesP l room) l.length (fillS l room align) := by
  have h := psOk l room l.length (Nat.le_refl _)
  have hs := stOk (room := room) (align := align) hm l.length (Nat.le_refl _)
  have hrow := h.row
  have hmn := h.mn
  have e : fillS l room align = endF room align (stTo l room align l.length) := rfl
  rw [e]
  unfold linesP finP
  generalize psTo l room l.length = ps at *
  generalize stTo l room align l.length = s at *
  by_cases h0 : ps.m = ps.n
  · obtain ⟨z1, z2⟩ := h.m0 h0
    have hl : l.length = 0 := by
      rcases Nat.eq_zero_or_pos l.length with e | e
      · exact e
      · rw [rowsTo_all e] at hrow; omega
    have ho : s.op = [] := by rw [hs.op, h0]; unfold sub; rw [List.drop_eq_nil_iff]; rw [List.length_take]; omega
    have ee : endF room align s = s := by unfold endF; rw [if_pos ho]
    rw [if_pos h0, ee]
    have := hs.pl
    rwa [show ps.m = l.length by omega] at this
  · have hn : ps.n = l.length := by
      rcases Nat.eq_zero_or_pos l.length with e | e
      · have := h.nk; omega
      · rw [hrow, rowsTo_all e]
    rw [if_neg h0]
    have hlt : ps.m < ps.n := by omega
    have := end_ok hm hs.pl hs.op hlt (by omega) (fun hc => by have h1 := hs.ex hc hlt; have h2 := hs.wide hlt; omega)
    rw [hn] at this
    rw [hn]
    exact this
/-- Each piece stands in a line. -/
theorem line_of {l : List Pc} {room : Int} {C : List (Nat × Nat)} (h : LinesOk l room C) : ∀ i, i < l.length → ∃ j a b : Nat, C[j]? = some (a, b) ∧ a ≤ i ∧ i < b := by
  intro i
  induction i with
  | zero =>
    intro hl
    cases hC : C with
    | nil => have := h.nil hC; omega
    | cons x r =>
      obtain ⟨a, b⟩ := x
      have h0 : C[0]? = some (a, b) := by rw [hC]; rfl
      obtain ⟨c1, _, c3, _⟩ := h.chain 0 a b h0
      exact ⟨0, a, b, by rw [← hC]; exact h0, by have := c3 rfl; omega, by have := c3 rfl; omega⟩
  | succ i ih =>
    intro hl
    obtain ⟨j, a, b, hj, h1, h2⟩ := ih (by omega)
    obtain ⟨c1, c2, c3, c4, c5⟩ := h.chain j a b hj
    by_cases hb : i + 1 < b
    · exact ⟨j, a, b, hj, by omega, hb⟩
    · have hjl := (List.getElem?_eq_some_iff.1 hj).1
      rcases Nat.lt_or_ge (j + 1) C.length with h3 | h3
      · have hx : C[j + 1]? = some C[j + 1] := List.getElem?_eq_getElem h3
        obtain ⟨x1, x2, hx2⟩ : ∃ x1 x2, C[j + 1] = (x1, x2) := ⟨_, _, rfl⟩
        rw [hx2] at hx
        have := c4 _ _ hx
        have := (h.chain _ _ _ hx).1
        exact ⟨j + 1, x1, x2, hx, by omega, by omega⟩
      · have := c5 (by omega); omega
/-- What is told of a piece's place, where all is exact. -/
structure PlaceOk (l : List Pc) (room align : Int) (C : List (Nat × Nat)) (P : List Pl) : Prop where
  len : P.length = l.length
  at_ : ∀ (j a b i : Nat) (p : Pc), C[j]? = some (a, b) → a ≤ i → i < b → l[i]? = some p → P[i]? = some ⟨i, j, moveF room (wOf l a b) align + offL l a i, highs l C j + (hiP (sub l a b) - p.h), p.w, p.h⟩ ∧
      0 ≤ moveF room (wOf l a b) align ∧ 0 ≤ offL l a i ∧ moveF room (wOf l a b) align + offL l a i + p.w ≤ 1099511627776 ∧ highs l C j + (hiP (sub l a b) - p.h) ≤ 1099511627776 ∧ 0 ≤ highs l C j ∧ p.h ≤ hiP (sub l a b)
theorem off_nn {l : List Pc} (hm : mayP l = true) {a i : Nat} (h : a ≤ i) : 0 ≤ offL l a i := by
  unfold offL
  have := pw_le hm h
  have := pg_le hm (show a + 1 ≤ i + 1 by omega)
  omega
theorem move_nn (room wide align : Int) : 0 ≤ moveF room wide align := by
  unfold moveF
  split
  · omega
  · split <;> omega
theorem fill_exact {l : List Pc} {room align : Int} (he : fillE l room align = true) : mayP l = true ∧ 0 ≤ room ∧ room ≤ 1099511627776 ∧ PlaceOk l room align (linesP l room) (fillP l room align) ∧
    fillH l room align = highs l (linesP l room) (linesP l room).length ∧ 0 ≤ fillH l room align ∧ fillH l room align ≤ 1099511627776 := by
  unfold fillE at he
  by_cases ho : fillOk l room = true
  · rw [if_pos ho] at he
    have ho' := ho
    unfold fillOk at ho'
    rw [Bool.and_eq_true] at ho'
    obtain ⟨hz, hm⟩ := ho'
    have hroom := isz_iff.1 hz
    have hok := fill_ok (room := room) align hm
    obtain ⟨e1, e2, e3, e4⟩ := hok.ex (by simpa using he)
    have ep : fillP l room align = (fillS l room align).pls := by unfold fillP; rw [if_pos ho]
    have eh : fillH l room align = (fillS l room align).high := by unfold fillH; rw [if_pos ho]
    rw [ep, eh]
    refine ⟨hm, hroom.1, hroom.2, ⟨hok.len, fun j a b i p hj ha hb hp => ?_⟩, e1, e2, e3⟩
    obtain ⟨d1, d2, d3, d4⟩ := e4 j a b i p hj ha hb hp
    refine ⟨d1, move_nn _ _ _, off_nn hm ha, d2, d3, d4, hi_of ?_⟩
    refine List.mem_of_getElem? (i := i - a) ?_
    rw [sub_at (by omega), show a + (i - a) = i by omega]
    exact hp
  · rw [if_neg ho] at he; cases he
end Go.Proofs.Ytgglffmfkhbcgaa
