/- What follows of where items begin. Conditions: none. -/
import Derived.Test.YtnjnkcjhhgffjaaFlexMathL
import Derived.Test.YtnjnkcjhhgffjaaFlexMathJ
namespace Go.Proofs.Ytnjnkcjhhgffjaa
theorem sumL_mem {l : List Int} (h : (sumL l).2 = true) : ∀ x ∈ l, -1099511627776 ≤ x ∧ x ≤ 1099511627776 := by
  have key : ∀ (m : List Int) (s : Int), (m.foldl sumStep (s, true)).2 = true → ∀ x ∈ m, -1099511627776 ≤ x ∧ x ≤ 1099511627776 := by
    intro m
    induction m with
    | nil => intro s _ x hx; cases hx
    | cons y m ih =>
      intro s h x hx
      rw [List.foldl_cons] at h
      have e : sumStep (s, true) y = (add2 s y, addOk s y) := by unfold sumStep; simp
      rw [e] at h
      cases ho : addOk s y with
      | false => rw [ho, foldl_false_] at h; cases h
      | true =>
        rw [ho] at h
        have hb := addOk_t ho
        rcases List.mem_cons.1 hx with rfl | hx
        · exact ⟨hb.2.2.1, hb.2.2.2.1⟩
        · exact ih _ h x hx
  exact key l 0 h
theorem begOk_le {f b : Int} {l : List Int} : ∀ {k : Nat}, begOk f b l k = true → ∀ j, j ≤ k → begOk f b l j = true
  | 0, h, j, hj => by obtain rfl : j = 0 := by omega
                      exact h
  | k + 1, h, j, hj => by
    by_cases e : j = k + 1
    · rw [e]; exact h
    · unfold begOk at h
      rw [Bool.and_eq_true] at h
      exact begOk_le h.1 j (by omega)
theorem beg_step {f b : Int} {l : List Int} {k : Nat} (h : begOk f b l (k + 1) = true) : begAt f b l (k + 1) = begAt f b l k + l.getD k 0 + b ∧ -1099511627776 ≤ begAt f b l k ∧ begAt f b l k ≤ 1099511627776 ∧ -1099511627776 ≤ begAt f b l (k + 1) ∧ begAt f b l (k + 1) ≤ 1099511627776 := by
  unfold begOk at h
  rw [Bool.and_eq_true, Bool.and_eq_true] at h
  have h1 := addOk_t h.2.1
  have h2 := addOk_t h.2.2
  have e : begAt f b l (k + 1) = add2 (add2 (begAt f b l k) (l.getD k 0)) b := rfl
  rw [h1.2.2.2.2.2.2] at h2
  rw [e, h1.2.2.2.2.2.2, h2.2.2.2.2.2.2]
  exact ⟨rfl, h1.1, h1.2.1, h2.2.2.2.2.1, h2.2.2.2.2.2.1⟩
theorem beg_sum {f b : Int} {l : List Int} : ∀ {k : Nat}, begOk f b l k = true → k ≤ l.length → begAt f b l k = f + (l.take k).sum + k * b
  | 0, _, _ => by simp [begAt]
  | k + 1, h, hk => by
    have h1 := (beg_step h).1
    have h2 := beg_sum (begOk_le h k (by omega)) (by omega)
    have e : l.take (k + 1) = l.take k ++ [l.getD k 0] := by
      rw [List.take_add_one, List.getD_eq_getElem?_getD, List.getElem?_eq_getElem (by omega)]; rfl
    rw [h1, h2, e, List.sum_append, Int.natCast_add, Int.add_mul]
    simp
    omega
/-- All that FlexStands asks. -/
theorem just_pack {l : List Int} {room how : Int} {La : Nat} (hl : l.length = La + 1) (he : (justL l room how).2 = true) (hnn : ∀ x ∈ l, 0 ≤ x) :
    (∀ x ∈ l, x ≤ 1099511627776) ∧ (0 ≤ l.sum ∧ l.sum ≤ 1099511627776) ∧ (-1099511627776 ≤ room ∧ room ≤ 1099511627776) ∧ overJ l room = max (room - l.sum) 0 ∧
    (∀ k, k < La + 1 → (justL l room how).1[k]? = some (begAt (firstJ (overJ l room) how) (betweenJ (overJ l room) (La + 1) how) l k)) ∧
    (∀ k, k < La → begAt (firstJ (overJ l room) how) (betweenJ (overJ l room) (La + 1) how) l (k + 1) = begAt (firstJ (overJ l room) how) (betweenJ (overJ l room) (La + 1) how) l k + l.getD k 0 + betweenJ (overJ l room) (La + 1) how) ∧
    (∀ k, k < La + 1 → -2199023255552 ≤ begAt (firstJ (overJ l room) how) (betweenJ (overJ l room) (La + 1) how) l k ∧ begAt (firstJ (overJ l room) how) (betweenJ (overJ l room) (La + 1) how) l k ≤ 2199023255552) ∧
    begAt (firstJ (overJ l room) how) (betweenJ (overJ l room) (La + 1) how) l La + l.getD La 0 = firstJ (overJ l room) how + l.sum + La * betweenJ (overJ l room) (La + 1) how := by
  unfold justL at he ⊢
  rw [hl] at he ⊢
  simp only [Bool.and_eq_true, Nat.add_sub_cancel] at he ⊢
  obtain ⟨⟨h1, h2⟩, h3⟩ := he
  have hm := sumL_mem h1
  obtain ⟨e1, b1, b2⟩ := sumL_exact_ h1
  have hs := subOk_t h2
  have hov : overJ l room = max (room - l.sum) 0 := by unfold overJ; rw [hs.2.2.2.2, e1]
  have hsum0 : 0 ≤ l.sum := by
    have nn : ∀ m : List Int, (∀ z ∈ m, 0 ≤ z) → 0 ≤ m.sum := by
      intro m
      induction m with
      | nil => intro _; exact Int.le_refl _
      | cons z m ih => intro hh; rw [List.sum_cons]; have := hh z List.mem_cons_self; have := ih (fun y hy => hh y (List.mem_cons_of_mem _ hy)); omega
    exact nn l hnn
  have hfb : -2199023255552 ≤ firstJ (overJ l room) how ∧ firstJ (overJ l room) how ≤ 2199023255552 := by
    unfold firstJ
    rw [hov]
    have := hs.1; have := hs.2.1
    split
    · omega
    · split <;> omega
  refine ⟨fun x hx => (hm x hx).2, ⟨hsum0, b2⟩, ⟨hs.1, hs.2.1⟩, hov, fun k hk => begins_at _ _ _ _ _ hk, fun k hk => (beg_step (begOk_le h3 (k + 1) (by omega))).1, fun k hk => ?_, ?_⟩
  · cases k with
    | zero => exact hfb
    | succ k =>
      have := beg_step (begOk_le h3 (k + 1) (by omega))
      omega
  · have h4 := beg_sum h3 (by omega)
    have e : l.sum = (l.take La).sum + l.getD La 0 := by
      have : l = l.take La ++ [l.getD La 0] := by
        have h5 : l.take (La + 1) = l := List.take_of_length_le (by omega)
        conv => lhs; rw [← h5]
        rw [List.take_add_one, List.getD_eq_getElem?_getD, List.getElem?_eq_getElem (by omega)]; rfl
      conv => lhs; rw [this]
      rw [List.sum_append]; simp
    rw [h4, e]
    omega
def capM (x : Int) : Int := if x ≤ 1099511627776 then x else 0
theorem cap_bd : ∀ {l : List Int}, (∀ x ∈ l, 0 ≤ x) → 0 ≤ (l.map capM).sum ∧ (l.map capM).sum ≤ 1099511627776 * l.length
  | [], _ => by simp
  | x :: l, h => by
    have ih := cap_bd (l := l) (fun y hy => h y (List.mem_cons_of_mem _ hy))
    have h0 := h x List.mem_cons_self
    rw [List.map_cons, List.sum_cons, List.length_cons, Int.natCast_add, Int.mul_add]
    unfold capM at *
    split <;> omega
theorem cap_same {l : List Int} (h : ∀ x ∈ l, x ≤ 1099511627776) : l.map capM = l := by
  have : l.map capM = l.map id := List.map_congr_left fun x hx => by unfold capM; rw [if_pos (h x hx)]; rfl
  rw [this, List.map_id]
end Go.Proofs.Ytnjnkcjhhgffjaa
