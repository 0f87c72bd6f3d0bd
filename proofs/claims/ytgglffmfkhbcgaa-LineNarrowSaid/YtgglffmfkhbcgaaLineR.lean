/- The plain mathematics of lines: more room never makes more lines. Conditions: as the theorems' premises say. -/
import Derived.Test.YtgglffmfkhbcgaaLineQ
namespace Go.Proofs.Ytgglffmfkhbcgaa
/-- How many lines end ahead of a piece. -/
def cntL (cl : List (Nat × Nat)) (i : Nat) : Nat := (cl.filter fun x => decide (x.2 ≤ i)).length
theorem cnt_app (cl : List (Nat × Nat)) (m n i : Nat) : cntL (cl ++ [(m, n)]) i = cntL cl i + (if n ≤ i then 1 else 0) := by
  unfold cntL
  rw [List.filter_append, List.length_append]
  by_cases h : n ≤ i
  · simp [List.filter, h]
  · simp [List.filter, h]
theorem cnt_all {cl : List (Nat × Nat)} {i : Nat} (h : ∀ (j a b : Nat), cl[j]? = some (a, b) → b ≤ i) : cntL cl i = cl.length := by
  unfold cntL
  rw [List.filter_eq_self.2 fun x hx => ?_]
  obtain ⟨j, hj⟩ := List.mem_iff_getElem?.1 hx
  obtain ⟨a, b⟩ := x
  exact decide_eq_true (h j a b hj)
theorem wOf_less {l : List Pc} (hm : mayP l = true) {a b e : Nat} (hab : a ≤ b) : wOf l b e ≤ wOf l a e := by
  unfold wOf
  have := pw_le hm hab
  have := pg_le hm (show a + 1 ≤ b + 1 by omega)
  omega
theorem narrow_to {l : List Pc} {room more : Int} (hm : mayP l = true) (hr : room ≤ more) : ∀ k, k ≤ l.length →
    (∀ i, cntL (psTo l more k).cl i ≤ cntL (psTo l room k).cl i) ∧ ((psTo l more k).cl.length < (psTo l room k).cl.length ∨ ((psTo l more k).cl.length = (psTo l room k).cl.length ∧ (psTo l room k).m ≤ (psTo l more k).m)) := by
  intro k
  induction k with
  | zero => intro _; exact ⟨fun _ => Nat.le_refl _, .inr ⟨rfl, Nat.le_refl _⟩⟩
  | succ k ih =>
    intro hk
    obtain ⟨i1, i2⟩ := ih (by omega)
    have pa := psOk l room k (by omega)
    have pb := psOk l more k (by omega)
    cases hre : rowEnd l (k + 1) with
    | false =>
      have e1 : psTo l room (k + 1) = psTo l room k := by rw [psTo, if_neg (by rw [hre]; simp)]
      have e2 : psTo l more (k + 1) = psTo l more k := by rw [psTo, if_neg (by rw [hre]; simp)]
      rw [e1, e2]
      exact ⟨i1, i2⟩
    | true =>
      have e1 : psTo l room (k + 1) = stepP l room (psTo l room k) (k + 1) := by rw [psTo, if_pos hre]
      have e2 : psTo l more (k + 1) = stepP l more (psTo l more k) (k + 1) := by rw [psTo, if_pos hre]
      rw [e1, e2]
      generalize psTo l room k = a at *
      generalize psTo l more k = b at *
      have hn : a.n = b.n := by rw [pa.row, pb.row]
      have ha := pa.mn
      have hb := pb.mn
      unfold stepP
      by_cases h0 : a.n = 0
      · have ea : a.m = a.n := by omega
        have eb : b.m = b.n := by omega
        rw [if_pos ea, if_pos eb]
        refine ⟨i1, ?_⟩
        show b.cl.length < a.cl.length ∨ (b.cl.length = a.cl.length ∧ a.n ≤ b.n)
        omega
      · have na : ¬ a.m = a.n := fun e => h0 (pa.m0 e).1
        have nb : ¬ b.m = b.n := fun e => h0 (by rw [hn]; exact (pb.m0 e).1)
        rw [if_neg na, if_neg nb]
        have ca : ∀ i, a.n ≤ i → cntL a.cl i = a.cl.length := fun i hi => cnt_all fun j x y h => by have := (pa.chain j x y h).2.1; omega
        have cb : ∀ i, a.n ≤ i → cntL b.cl i = b.cl.length := fun i hi => cnt_all fun j x y h => by have := (pb.chain j x y h).2.1; omega
        by_cases fa : min (wOf l a.m (k + 1)) 1099511627776 ≤ room
        · rw [if_pos fa]
          by_cases fb : min (wOf l b.m (k + 1)) 1099511627776 ≤ more
          · rw [if_pos fb]; exact ⟨i1, i2⟩
          · rw [if_neg fb]
            have hlt : b.cl.length < a.cl.length := by
              rcases i2 with h | ⟨_, h⟩
              · exact h
              · have := wOf_less hm (e := k + 1) h
                omega
            refine ⟨fun i => ?_, ?_⟩
            · show cntL (b.cl ++ [(b.m, b.n)]) i ≤ cntL a.cl i
              rw [cnt_app]
              by_cases hi : b.n ≤ i
              · rw [if_pos hi, cb i (by omega), ca i (by omega)]; omega
              · rw [if_neg hi]; exact i1 i
            · show (b.cl ++ [(b.m, b.n)]).length < a.cl.length ∨ ((b.cl ++ [(b.m, b.n)]).length = a.cl.length ∧ a.m ≤ b.n)
              rw [List.length_append, List.length_cons, List.length_nil]
              omega
        · rw [if_neg fa]
          by_cases fb : min (wOf l b.m (k + 1)) 1099511627776 ≤ more
          · rw [if_pos fb]
            refine ⟨fun i => ?_, ?_⟩
            · show cntL b.cl i ≤ cntL (a.cl ++ [(a.m, a.n)]) i
              rw [cnt_app]
              have := i1 i
              omega
            · show b.cl.length < (a.cl ++ [(a.m, a.n)]).length ∨ (b.cl.length = (a.cl ++ [(a.m, a.n)]).length ∧ a.n ≤ b.m)
              rw [List.length_append, List.length_cons, List.length_nil]
              omega
          · rw [if_neg fb]
            refine ⟨fun i => ?_, ?_⟩
            · show cntL (b.cl ++ [(b.m, b.n)]) i ≤ cntL (a.cl ++ [(a.m, a.n)]) i
              rw [cnt_app, cnt_app, hn]
              have := i1 i
              omega
            · show (b.cl ++ [(b.m, b.n)]).length < (a.cl ++ [(a.m, a.n)]).length ∨ ((b.cl ++ [(b.m, b.n)]).length = (a.cl ++ [(a.m, a.n)]).length ∧ a.n ≤ b.n)
              rw [List.length_append, List.length_cons, List.length_nil, List.length_append, List.length_cons, List.length_nil]
              omega
theorem cnt_fin {l : List Pc} {room : Int} {i : Nat} (hi : i < l.length) : cntL (linesP l room) i = cntL (psTo l room l.length).cl i := by
  have h := psOk l room l.length (Nat.le_refl _)
  have hrow := h.row
  rw [rowsTo_all (by omega)] at hrow
  unfold linesP finP
  generalize psTo l room l.length = ps at *
  split
  · rfl
  · rw [cnt_app, if_neg (by omega)]; rfl
theorem cnt_line {l : List Pc} {room : Int} {C : List (Nat × Nat)} (h : LinesOk l room C) {j a b i : Nat} (hj : C[j]? = some (a, b)) (h1 : a ≤ i) (h2 : i < b) : cntL C i = j := by
  have hjl := (List.getElem?_eq_some_iff.1 hj).1
  have hsplit : C = C.take j ++ C.drop j := (List.take_append_drop j C).symm
  have hd : cntL (C.drop j) i = 0 := by
    unfold cntL
    rw [List.length_eq_zero_iff, List.filter_eq_nil_iff]
    intro x hx
    obtain ⟨t, ht⟩ := List.mem_iff_getElem?.1 hx
    obtain ⟨x1, x2⟩ := x
    rw [List.getElem?_drop] at ht
    have h3 := (h.chain _ _ _ ht).1
    rcases Nat.eq_zero_or_pos t with e | e
    · subst e; rw [Nat.add_zero, hj] at ht; injection ht with ht; injection ht with _ ht; simp; omega
    · have := line_mono h hj (t - 1) x1 x2 (by rw [show j + 1 + (t - 1) = j + t by omega]; exact ht)
      simp; omega
  have ht : cntL (C.take j) i = j := by
    rw [cnt_all (fun t x y hx => ?_), List.length_take]
    · omega
    · rw [List.getElem?_take] at hx
      split at hx
      · rename_i htj
        have := line_mono h hx (j - t - 1) a b (by rw [show t + 1 + (j - t - 1) = j by omega]; exact hj)
        omega
      · cases hx
  have : cntL C i = cntL (C.take j) i + cntL (C.drop j) i := by
    conv => lhs; rw [hsplit]
    unfold cntL
    rw [List.filter_append, List.length_append]
  omega
/-- The line of a piece, whatever is exact. -/
theorem nums_of {l : List Pc} {room align : Int} (ho : fillOk l room = true) {i : Nat} (hi : i < l.length) : ∃ q : Pl, (fillP l room align)[i]? = some q ∧ q.n = cntL (psTo l room l.length).cl i := by
  have ho' := ho
  unfold fillOk at ho'
  rw [Bool.and_eq_true] at ho'
  have ep : fillP l room align = (fillS l room align).pls := by unfold fillP; rw [if_pos ho]
  have hC := lines_ok l room
  obtain ⟨j, a, b, hj, h1, h2⟩ := line_of hC i hi
  obtain ⟨q, hq, hqn⟩ := (fill_ok (room := room) align ho'.2).nums j a b i hj h1 h2
  rw [← cnt_fin hi, cnt_line hC hj h1 h2, ep]
  exact ⟨q, hq, hqn⟩
theorem len_of {l : List Pc} {room align : Int} : (fillP l room align).length = if fillOk l room = true then l.length else 0 := by
  unfold fillP
  by_cases ho : fillOk l room = true
  · rw [if_pos ho, if_pos ho]
    unfold fillOk at ho
    rw [Bool.and_eq_true] at ho
    exact (fill_ok (room := room) align ho.2).len
  · rw [if_neg ho, if_neg ho]; rfl
theorem narrow {l : List Pc} {room more al bl : Int} (h1 : fillOk l room = true) (h2 : fillOk l more = true) (hr : room ≤ more) {i : Nat} (hi : i < l.length) {p q : Pl} (hp : (fillP l room al)[i]? = some p) (hq : (fillP l more bl)[i]? = some q) : q.n ≤ p.n := by
  obtain ⟨p', e1, e2⟩ := nums_of (align := al) h1 hi
  obtain ⟨q', f1, f2⟩ := nums_of (align := bl) h2 hi
  rw [e1] at hp
  rw [f1] at hq
  injection hp with hp
  injection hq with hq
  subst hp
  subst hq
  have hm : mayP l = true := by unfold fillOk at h1; rw [Bool.and_eq_true] at h1; exact h1.2
  have := (narrow_to hm hr l.length (Nat.le_refl _)).1 i
  omega
end Go.Proofs.Ytgglffmfkhbcgaa
