/- What follows of shares: room is enough, or it isn't; items that are alike get alike. Conditions: none. -/
import Derived.Test.YtnjnkcjhhgffjaaFlexMathB
namespace Go.Proofs.Ytnjnkcjhhgffjaa
/-! ### sums -/
theorem foldl_false_ (m : List Int) (s : Int) : (m.foldl sumStep (s, false)).2 = false := by
  induction m generalizing s with
  | nil => rfl
  | cons x m ih => exact ih _
theorem sum_exact_ (m : List Int) : ∀ (s : Int), -1099511627776 ≤ s → s ≤ 1099511627776 → (m.foldl sumStep (s, true)).2 = true →
    (m.foldl sumStep (s, true)).1 = s + m.sum ∧ -1099511627776 ≤ s + m.sum ∧ s + m.sum ≤ 1099511627776 := by
  induction m with
  | nil => intro s h1 h2 _; simp; omega
  | cons x m ih =>
    intro s h1 h2 h
    rw [List.foldl_cons] at h ⊢
    have e : sumStep (s, true) x = (add2 s x, addOk s x) := by unfold sumStep; simp
    rw [e] at h ⊢
    cases ho : addOk s x with
    | false => rw [ho, foldl_false_] at h; cases h
    | true =>
      obtain ⟨_, _, _, _, b1, b2, b3⟩ := addOk_t ho
      rw [b3, ho] at h
      rw [b3]
      have := ih _ b1 b2 h
      rw [List.sum_cons]
      omega
theorem sumL_exact_ {l : List Int} (h : (sumL l).2 = true) : (sumL l).1 = l.sum ∧ -1099511627776 ≤ l.sum ∧ l.sum ≤ 1099511627776 := by
  have := sum_exact_ l 0 (by decide) (by decide) h
  simpa [sumL] using this
theorem subOk_t {a b : Int} (h : subOk a b = true) : -1099511627776 ≤ a ∧ a ≤ 1099511627776 ∧ -1099511627776 ≤ b ∧ b ≤ 1099511627776 ∧ sub2 a b = a - b := by
  unfold subOk at h
  simp only [Bool.and_eq_true] at h
  obtain ⟨ha, hb, hs⟩ := h
  unfold sub2
  rw [ok_cl ha, ok_cl hb] at hs ⊢
  rw [ok_cl hs]
  have h1 := ok_iff.1 ha; have h2 := ok_iff.1 hb
  exact ⟨h1.1, h1.2, h2.1, h2.2, rfl⟩
def sumF (f : FP → Int) (P : List FP) : Int := (P.map f).sum
theorem sumF_cons (f : FP → Int) (p : FP) (P : List FP) : sumF f (p :: P) = f p + sumF f P := by unfold sumF; rw [List.map_cons, List.sum_cons]
theorem sumF_nil (f : FP → Int) : sumF f [] = 0 := rfl
theorem sumF_le {f h : FP → Int} : ∀ {P : List FP}, (∀ p ∈ P, f p ≤ h p) → sumF f P ≤ sumF h P
  | [], _ => Int.le_refl _
  | p :: P, hh => by
    rw [sumF_cons, sumF_cons]
    have h1 := hh p List.mem_cons_self
    have h2 := sumF_le (P := P) (fun q hq => hh q (List.mem_cons_of_mem _ hq))
    omega
theorem sumF_lt {f h : FP → Int} : ∀ {P : List FP}, (∀ p ∈ P, f p ≤ h p) → (∃ p ∈ P, f p < h p) → sumF f P < sumF h P
  | [], _, ⟨p, hp, _⟩ => by cases hp
  | p :: P, hh, ⟨q, hq, hlt⟩ => by
    rw [sumF_cons, sumF_cons]
    have h1 := hh p List.mem_cons_self
    have hr : ∀ q ∈ P, f q ≤ h q := fun q hq => hh q (List.mem_cons_of_mem _ hq)
    rcases List.mem_cons.1 hq with rfl | hq
    · have h2 := sumF_le hr
      omega
    · have h2 := sumF_lt hr ⟨q, hq, hlt⟩
      omega
theorem sumF_add (f h : FP → Int) : ∀ P : List FP, sumF (fun p => f p + h p) P = sumF f P + sumF h P
  | [] => rfl
  | p :: P => by rw [sumF_cons, sumF_cons, sumF_cons, sumF_add f h P]; omega
theorem sumF_mul (d : Int) (f : FP → Int) : ∀ P : List FP, sumF (fun p => d * f p) P = d * sumF f P
  | [] => by rw [sumF_nil, sumF_nil, Int.mul_zero]
  | p :: P => by rw [sumF_cons, sumF_cons, sumF_mul d f P, Int.mul_add]
theorem sumF_const (d : Int) : ∀ P : List FP, sumF (fun _ => d) P = d * P.length
  | [] => by rw [sumF_nil]; simp
  | p :: P => by rw [sumF_cons, sumF_const d P, List.length_cons, Int.natCast_add, Int.mul_add]; omega
theorem sumF_congr {f h : FP → Int} {P : List FP} (hh : ∀ p ∈ P, f p = h p) : sumF f P = sumF h P := by
  unfold sumF; rw [List.map_congr_left hh]
def baseF (p : FP) : Int := if p.2 = true then 0 else p.1.b
def extraF (p : FP) : Int := p.1.e
def weightF (f : FIt → Int) (p : FP) : Int := if p.2 = true then 0 else f p.1
theorem weigh_sumF (f : FIt → Int) (P : List FP) : weighF f P = sumF (weightF f) P := rfl
theorem taken_sum : ∀ P : List FP, (takenF P).sum = sumF extraF P + sumF baseF P
  | [] => rfl
  | p :: P => by
    have e : takenF (p :: P) = (p.1.e :: (if p.2 = true then [] else [p.1.b])) ++ takenF P := rfl
    rw [e, List.sum_append, taken_sum P, sumF_cons, sumF_cons, List.sum_cons]
    unfold extraF baseF
    split <;> simp only [List.sum_nil, List.sum_cons] <;> omega
theorem rest_exact {room : Int} {P : List FP} (h : restOk room P = true) : restN room P = room - (sumF extraF P + sumF baseF P) := by
  unfold restOk at h
  rw [Bool.and_eq_true] at h
  have h1 := (sumL_exact_ h.1).1
  have h2 := (subOk_t h.2).2.2.2.2
  unfold restN
  rw [h2, h1, taken_sum]
/-! ### one share -/
theorem part_exact {all w D : Int} (h0 : 0 ≤ all) (hw : 0 ≤ w) (hD : 1 ≤ D) (h : partOk all w D = true) : 0 ≤ part2 all w D ∧ D * part2 all w D ≤ all * w ∧ all * w - (D - 1) ≤ D * part2 all w D := by
  unfold partOk at h
  unfold part2
  split at h
  · rename_i hm
    rw [if_pos hm]
    rw [Bool.and_eq_true] at h
    rw [ok_cl h.1] at h ⊢
    rw [ok_cl h.2]
    have hp : 0 ≤ all * w := Int.mul_nonneg h0 hw
    rw [Int.tdiv_eq_ediv_of_nonneg hp]
    have d1 := Int.mul_ediv_add_emod (all * w) D
    have d2 := Int.emod_nonneg (all * w) (show D ≠ 0 by omega)
    have d3 := Int.emod_lt_of_pos (all * w) (show 0 < D by omega)
    exact ⟨Int.ediv_nonneg hp (by omega), by omega, by omega⟩
  · cases h
theorem share_exact {all D : Int} {f : FIt → Int} {P : List FP} (h0 : 0 ≤ all) (hf : ∀ p ∈ P, 0 ≤ f p.1) (hD : 1 ≤ D) (h : shareOkF all D f P = true) :
    ∀ p ∈ P, 0 ≤ shareF all D f p ∧ D * shareF all D f p ≤ all * weightF f p ∧ all * weightF f p - (D - 1) ≤ D * shareF all D f p := by
  intro p hp
  have h1 := List.all_eq_true.1 h p hp
  unfold shareF weightF
  split
  · rw [Int.mul_zero, Int.mul_zero]; omega
  · rename_i hb
    have hb : p.2 = false := by simpa using hb
    rw [hb, Bool.false_or] at h1
    exact part_exact h0 (hf p hp) hD h1
theorem shares_le {all D : Int} {f : FIt → Int} {P : List FP} (h0 : 0 ≤ all) (hf : ∀ p ∈ P, 0 ≤ f p.1) (hD : 1 ≤ D) (hDw : weighF f P ≤ D) (h : shareOkF all D f P = true) : sumF (shareF all D f) P ≤ all := by
  have h1 := share_exact h0 hf hD h
  have h2 : D * sumF (shareF all D f) P ≤ all * sumF (weightF f) P := by
    rw [← sumF_mul, ← sumF_mul]
    exact sumF_le fun p hp => (h1 p hp).2.1
  have h3 : all * sumF (weightF f) P ≤ all * D := Int.mul_le_mul_of_nonneg_left (by rw [← weigh_sumF]; exact hDw) h0
  rw [Int.mul_comm all D] at h3
  exact Int.le_of_mul_le_mul_left (Int.le_trans h2 h3) (by omega)
theorem shares_ge {all D : Int} {f : FIt → Int} {P : List FP} (h0 : 0 ≤ all) (hf : ∀ p ∈ P, 0 ≤ f p.1) (hD : 1 ≤ D) (hDw : weighF f P = D) (h : shareOkF all D f P = true) (hn : 0 < P.length) : all - P.length < sumF (shareF all D f) P := by
  have h1 := share_exact h0 hf hD h
  have h2 : all * D - (D - 1) * P.length ≤ D * sumF (shareF all D f) P := by
    have e : all * D - (D - 1) * P.length = sumF (fun p => all * weightF f p + -(D - 1)) P := by
      rw [sumF_add (fun p => all * weightF f p) (fun _ => -(D - 1)), sumF_mul, sumF_const, ← weigh_sumF, hDw, Int.neg_mul]; omega
    rw [e, ← sumF_mul]
    exact sumF_le fun p hp => by have := (h1 p hp).2.2; omega
  have h3 : D * (all - P.length) < D * sumF (shareF all D f) P := by
    have e : D * (all - P.length) = all * D - (D - 1) * P.length - P.length := by
      rw [Int.mul_sub, Int.sub_mul, Int.mul_comm D all]; omega
    rw [e]; omega
  exact Int.lt_of_mul_lt_mul_left h3 (by omega)
/-! ### rounds -/
theorem rounds_cut (room : Int) : ∀ (k : Nat) (P : List FP), (roundsF room k P true).2 = true
  | 0, _ => rfl
  | k + 1, P => by
    have e : (roundF room P true).2.2.1 = true := by unfold roundF; split <;> simp
    unfold roundsF
    split
    · rw [e]; exact rounds_cut room k _
    · exact e
def trueRest (room : Int) (P : List FP) : Int := room - (sumF extraF P + sumF baseF P)
theorem less_exact {lack D : Int} {P : List FP} (h : lessOk lack D P = true) : ∀ p ∈ P, p.2 = false → lessF lack D p = p.1.b - shareF lack D FIt.s p := by
  intro p hp hb
  have h1 := List.all_eq_true.1 h p hp
  rw [hb, Bool.false_or] at h1
  exact (subOk_t h1).2.2.2.2
theorem grow_exact {lack D : Int} {P : List FP} (h : growOk lack D P = true) : ∀ p ∈ P, growF lack D p = baseF p + shareF lack D FIt.g p := by
  intro p hp
  have h1 := List.all_eq_true.1 h p hp
  cases hb : p.2
  · rw [hb, Bool.false_or] at h1
    unfold growF baseF
    rw [hb, if_neg Bool.false_ne_true, if_neg Bool.false_ne_true]
    exact (addOk_t h1).2.2.2.2.2.2
  · unfold growF baseF shareF
    rw [hb, if_pos rfl, if_pos rfl, if_pos rfl]
    rfl
theorem allF_bd (f : FIt → Int) (P : List FP) : 1 ≤ allF f P ∧ weighF f P ≤ allF f P := by unfold allF; omega
/-- Where room is lacking: none is more than its Base, none below 0, and all are as much as the room. -/
theorem lack_law (room : Int) : ∀ (k : Nat) (P : List FP), freeF P < k → (∀ p ∈ P, p.1.fit) → trueRest room P < 0 → (roundsF room k P false).2 = false →
    (∃ (P' : List FP) (f : FP → Int), (roundsF room k P false).1 = P'.map f ∧ P'.map (·.1) = P.map (·.1) ∧ (∀ p ∈ P', 0 ≤ f p ∧ f p ≤ p.1.b) ∧ room ≤ sumF f P' + sumF extraF P')
  | 0, P, h, _, _, _ => absurd h (by omega)
  | k + 1, P, hk, hfit, hT, hc => by
    have hcut : (roundF room P false).2.2.1 = false := by
      unfold roundsF at hc
      split at hc
      · cases h : (roundF room P false).2.2.1 with
        | false => rfl
        | true => rw [h, rounds_cut] at hc; cases hc
      · exact hc
    have hrest : restOk room P = true := by
      unfold roundF at hcut
      split at hcut <;> simp at hcut <;> exact hcut.1.1
    have hR := rest_exact hrest
    have hneg : ¬ 0 ≤ restN room P := by rw [hR]; unfold trueRest at hT; omega
    have hcut2 : shareOkF (-restN room P) (allF FIt.s P) FIt.s P = true ∧ lessOk (-restN room P) (allF FIt.s P) P = true := by
      unfold roundF at hcut
      rw [if_neg hneg] at hcut
      simp at hcut
      exact ⟨hcut.1.2, hcut.2⟩
    obtain ⟨hso, hlo⟩ := hcut2
    have hlack : 0 ≤ -restN room P := by omega
    have hfs : ∀ p ∈ P, 0 ≤ p.1.s := fun p hp => (hfit p hp).fs.1
    obtain ⟨hD1, hD2⟩ := allF_bd FIt.s P
    have hsum := shares_le hlack hfs hD1 hD2 hso
    have hshare := share_exact hlack hfs hD1 hso
    have hless := less_exact hlo
    have hround : roundF room P false = (P.map (sizeF (-restN room P) (allF FIt.s P)), nextF (-restN room P) (allF FIt.s P) P, (((false || !restOk room P) || !shareOkF (-restN room P) (allF FIt.s P) FIt.s P) || !lessOk (-restN room P) (allF FIt.s P) P), anyF (-restN room P) (allF FIt.s P) P) := by
      unfold roundF; exact if_neg hneg
    have hcutv : (((false || !restOk room P) || !shareOkF (-restN room P) (allF FIt.s P) FIt.s P) || !lessOk (-restN room P) (allF FIt.s P) P) = false := by rw [hrest, hso, hlo]; rfl
    generalize hlk : -restN room P = lack at *
    generalize allF FIt.s P = D at *
    rw [hcutv] at hround
    cases hany : anyF lack D P
    · have hres : (roundsF room (k + 1) P false).1 = P.map (sizeF lack D) := by
        unfold roundsF
        rw [hround, hany]
        rfl
      have hno : ∀ p ∈ P, p.2 = false → 0 ≤ lessF lack D p := by
        intro p hp hb
        unfold anyF at hany
        have := List.any_eq_false.1 hany p hp
        rw [hb] at this
        simp at this
        exact this
      have hsz : ∀ p ∈ P, sizeF lack D p = baseF p + -shareF lack D FIt.s p := by
        intro p hp
        cases hb : p.2
        · have h1 := hno p hp hb
          have h2 := hless p hp hb
          unfold sizeF baseF
          rw [hb, if_neg Bool.false_ne_true, if_neg Bool.false_ne_true]
          omega
        · unfold sizeF baseF shareF
          rw [hb, if_pos rfl, if_pos rfl, if_pos rfl]
          rfl
      refine ⟨P, sizeF lack D, hres, rfl, fun p hp => ?_, ?_⟩
      · have h1 := hsz p hp
        have h2 := (hshare p hp).1
        have h3 := (hfit p hp).fb
        have h4 : baseF p ≤ p.1.b := by unfold baseF; split <;> omega
        have h5 : 0 ≤ sizeF lack D p := by unfold sizeF; split <;> omega
        omega
      · have e : sumF (sizeF lack D) P = sumF baseF P + sumF (fun p => -1 * shareF lack D FIt.s p) P := by
          rw [← sumF_add]
          exact sumF_congr fun p hp => by rw [hsz p hp]; omega
        rw [e, sumF_mul]
        unfold trueRest at hT
        omega
    · have hres : roundsF room (k + 1) P false = roundsF room k (nextF lack D P) false := by
        conv => lhs; unfold roundsF
        rw [hround, hany]
        rfl
      rw [hres] at hc ⊢
      have hfree := free_next hany
      have hnfit : ∀ p ∈ nextF lack D P, p.1.fit := by
        intro p hp
        obtain ⟨q, hq, rfl⟩ := List.mem_map.1 hp
        exact hfit q hq
      have hnext : sumF baseF (nextF lack D P) = sumF (fun p => baseF (p.1, iceF lack D p)) P := by
        unfold sumF nextF
        rw [List.map_map]
        rfl
      have hnexte : sumF extraF (nextF lack D P) = sumF extraF P := by
        unfold sumF nextF
        rw [List.map_map]
        rfl
      have hfst : (nextF lack D P).map (·.1) = P.map (·.1) := by
        unfold nextF
        rw [List.map_map]
        rfl
      have hstrict : sumF (fun p => baseF p + -1 * shareF lack D FIt.s p) P < sumF (fun p => baseF (p.1, iceF lack D p)) P := by
        refine sumF_lt (fun p hp => ?_) ?_
        · have h2 := (hshare p hp).1
          have h3 := (hfit p hp).fb
          unfold baseF iceF
          cases hb : p.2
          · have h4 := hless p hp hb
            rw [Bool.false_or, if_neg Bool.false_ne_true]
            by_cases hl : lessF lack D p < 0
            · rw [decide_eq_true hl, if_pos rfl]; omega
            · rw [decide_eq_false hl, if_neg Bool.false_ne_true]; show p.1.b + -1 * shareF lack D FIt.s p ≤ p.1.b; omega
          · rw [if_pos rfl, Bool.true_or, if_pos rfl]; omega
        · unfold anyF at hany
          obtain ⟨p, hp, h1⟩ := List.any_eq_true.1 hany
          rw [Bool.and_eq_true] at h1
          have hb : p.2 = false := by simpa using h1.1
          have hl := of_decide_eq_true h1.2
          refine ⟨p, hp, ?_⟩
          have h4 := hless p hp hb
          unfold baseF iceF
          rw [hb, Bool.false_or, if_neg Bool.false_ne_true, decide_eq_true hl, if_pos rfl]
          omega
      rw [sumF_add, sumF_mul] at hstrict
      obtain ⟨P', f, h1, h2, h3, h4⟩ := lack_law room k (nextF lack D P) (by omega) hnfit (by unfold trueRest at hT ⊢; rw [hnext, hnexte]; omega) hc
      exact ⟨P', f, h1, h2.trans hfst, h3, h4⟩
end Go.Proofs.Ytnjnkcjhhgffjaa
