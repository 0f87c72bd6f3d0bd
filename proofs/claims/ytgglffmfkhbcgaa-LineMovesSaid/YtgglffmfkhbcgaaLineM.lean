/- The plain mathematics of lines: sums, and what a line that is laid tells. Conditions: as the theorems' premises say. -/
import Derived.Test.YtgglffmfkhbcgaaLineMath
namespace Go.Proofs.Ytgglffmfkhbcgaa
def pre (f : Pc → Int) (l : List Pc) : Nat → Int
  | 0 => 0
  | k + 1 => pre f l k + (match l[k]? with | some p => f p | none => 0)
theorem pre_at {f : Pc → Int} {l : List Pc} {k : Nat} {p : Pc} (h : l[k]? = some p) : pre f l (k + 1) = pre f l k + f p := by rw [pre, h]
theorem isz_iff {n : Int} : isz n = true ↔ 0 ≤ n ∧ n ≤ 1099511627776 := by unfold isz; simp
theorem may_at {l : List Pc} (h : mayP l = true) {k : Nat} {p : Pc} (hp : l[k]? = some p) : 0 ≤ p.w ∧ p.w ≤ 1099511627776 ∧ 0 ≤ p.h ∧ p.h ≤ 1099511627776 ∧ 0 ≤ p.g ∧ p.g ≤ 1099511627776 := by
  have := List.all_eq_true.1 h p (List.mem_of_getElem? hp)
  simp only [Pc.may, Bool.and_eq_true, isz_iff] at this
  obtain ⟨⟨a, b⟩, ⟨c, d⟩, e, f⟩ := this
  exact ⟨a, b, c, d, e, f⟩
theorem pre_w_mono {l : List Pc} (h : mayP l = true) (a d : Nat) : pre Pc.w l a ≤ pre Pc.w l (a + d) := by
  induction d with
  | zero => exact Int.le_refl _
  | succ d ih =>
    rw [show a + (d + 1) = a + d + 1 by omega, pre]
    cases hp : l[a + d]? with
    | none => simp only; omega
    | some p => have := (may_at h hp).1; simp only; omega
theorem pre_g_mono {l : List Pc} (h : mayP l = true) (a d : Nat) : pre Pc.g l a ≤ pre Pc.g l (a + d) := by
  induction d with
  | zero => exact Int.le_refl _
  | succ d ih =>
    rw [show a + (d + 1) = a + d + 1 by omega, pre]
    cases hp : l[a + d]? with
    | none => simp only; omega
    | some p => have := (may_at h hp).2.2.2.2.1; simp only; omega
theorem pw_le {l : List Pc} (h : mayP l = true) {a b : Nat} (hab : a ≤ b) : pre Pc.w l a ≤ pre Pc.w l b := by have := pre_w_mono h a (b - a); rwa [show a + (b - a) = b by omega] at this
theorem pg_le {l : List Pc} (h : mayP l = true) {a b : Nat} (hab : a ≤ b) : pre Pc.g l a ≤ pre Pc.g l b := by have := pre_g_mono h a (b - a); rwa [show a + (b - a) = b by omega] at this
/-- How wide pieces from one to another one are. -/
def wOf (l : List Pc) (a b : Nat) : Int := (pre Pc.w l b - pre Pc.w l a) + (pre Pc.g l b - pre Pc.g l (a + 1))
def sub (l : List Pc) (a b : Nat) : List Pc := (l.take b).drop a
theorem sub_at {l : List Pc} {a b d : Nat} (h : a + d < b) : (sub l a b)[d]? = l[a + d]? := by
  unfold sub
  rw [List.getElem?_drop, List.getElem?_take, if_pos h]
theorem sub_len {l : List Pc} {a b : Nat} (hb : b ≤ l.length) : (sub l a b).length = b - a := by
  unfold sub; rw [List.length_drop, List.length_take]; omega
theorem sub_none {l : List Pc} {a b d : Nat} (h : b ≤ a + d) : (sub l a b)[d]? = none := by
  unfold sub
  rw [List.getElem?_drop, List.getElem?_take, if_neg (by omega)]
theorem sub_append {l : List Pc} {a b c : Nat} (h1 : a ≤ b) (h2 : b ≤ c) (hc : c ≤ l.length) : sub l a b ++ sub l b c = sub l a c := by
  apply List.ext_getElem?
  intro d
  have hl := sub_len (l := l) (a := a) (b := b) (by omega)
  rcases Nat.lt_or_ge d (b - a) with h | h
  · rw [List.getElem?_append_left (by omega), sub_at (by omega), sub_at (by omega)]
  · rw [List.getElem?_append_right (by omega), hl]
    rcases Nat.lt_or_ge (a + d) c with h3 | h3
    · rw [sub_at (by omega), sub_at h3]; congr 1; omega
    · rw [sub_none (by omega), sub_none h3]
theorem pre_sub (f : Pc → Int) {l : List Pc} {a b : Nat} : ∀ d, a + d ≤ b → pre f (sub l a b) d = pre f l (a + d) - pre f l a
  | 0, _ => by rw [pre]; simp
  | d + 1, h => by
    rw [pre, sub_at (by omega), pre_sub f d (by omega), show a + (d + 1) = a + d + 1 by omega, pre]
    omega
theorem may_sub' {l : List Pc} (h : mayP l = true) (a b : Nat) : mayP (sub l a b) = true := by
  unfold mayP sub at *
  rw [List.all_eq_true] at h ⊢
  exact fun x hx => h x (List.mem_of_mem_take (List.mem_of_mem_drop hx))
/-! ### clamped sums of what isn't below 0 -/
theorem add2_nn {a b : Int} (h1 : 0 ≤ a) (h2 : a ≤ 1099511627776) (h3 : 0 ≤ b) (h4 : b ≤ 1099511627776) : add2 a b = min (a + b) 1099511627776 ∧ (addOk a b = true ↔ a + b ≤ 1099511627776) := by
  have oa : ok a = true := ok_iff.2 ⟨by omega, h2⟩
  have ob : ok b = true := ok_iff.2 ⟨by omega, h4⟩
  unfold add2 addOk
  rw [oa, ob, ok_cl oa, ok_cl ob]
  constructor
  · unfold cl; split
    · omega
    · split <;> omega
  · simp only [Bool.true_and, ok_iff]; omega
theorem sum_nn : ∀ (l : List Int) (x : Int) (b : Bool), (∀ y ∈ l, 0 ≤ y ∧ y ≤ 1099511627776) → 0 ≤ x → x ≤ 1099511627776 →
    (l.foldl sumStep (x, b)).1 = min (x + l.sum) 1099511627776 ∧ ((l.foldl sumStep (x, b)).2 = true ↔ b = true ∧ x + l.sum ≤ 1099511627776) ∧ 0 ≤ l.sum
  | [], x, b, _, h1, h2 => by simp; omega
  | y :: l, x, b, h, h1, h2 => by
    obtain ⟨hy1, hy2⟩ := h y (by simp)
    obtain ⟨e1, e2⟩ := add2_nn h1 h2 hy1 hy2
    obtain ⟨i1, i2, i3⟩ := sum_nn l (add2 x y) (b && addOk x y) (fun z hz => h z (by simp [hz])) (by omega) (by omega)
    simp only [List.foldl_cons, sumStep, List.sum_cons]
    refine ⟨by rw [i1, e1]; omega, ?_, by omega⟩
    rw [i2, Bool.and_eq_true, e2, e1]
    constructor
    · rintro ⟨⟨a, b⟩, c⟩; exact ⟨a, by omega⟩
    · rintro ⟨a, b⟩; exact ⟨⟨a, by omega⟩, by omega⟩
theorem gw_bd {row : List Pc} (h : mayP row = true) : ∀ y ∈ gwP row, 0 ≤ y ∧ y ≤ 1099511627776 := by
  intro x hx
  unfold gwP at hx
  obtain ⟨p, hp, hx⟩ := List.mem_flatMap.1 hx
  obtain ⟨k, hk⟩ := List.mem_iff_getElem?.1 hp
  obtain ⟨h1, h2, _, _, h5, h6⟩ := may_at h hk
  simp only [List.mem_cons, List.not_mem_nil, or_false] at hx
  rcases hx with rfl | rfl
  · exact ⟨h5, h6⟩
  · exact ⟨h1, h2⟩
theorem gw_sum (row : List Pc) : (gwP row).sum = pre Pc.w row row.length + pre Pc.g row row.length := by
  have key : ∀ k, k ≤ row.length → (gwP (row.take k)).sum = pre Pc.w row k + pre Pc.g row k := by
    intro k
    induction k with
    | zero => intro _; rfl
    | succ k ih =>
      intro hk
      have hp : row[k]? = some row[k] := List.getElem?_eq_getElem (by omega)
      rw [List.take_add_one, hp, pre_at hp, pre_at hp]
      have e : gwP (row.take k ++ (some row[k]).toList) = gwP (row.take k) ++ [row[k].g, row[k].w] := gwP_snoc _ _
      rw [e, List.sum_append, ih (by omega)]
      simp
      omega
  have := key row.length (Nat.le_refl _)
  rwa [List.take_length] at this
/-- A line that goes on. -/
theorem sum_more {l : List Pc} (h : mayP l = true) {m n e : Nat} (hmn : m < n) (hne : n ≤ e) (he : e ≤ l.length) (x : Int) (hx : x = min (wOf l m n) 1099511627776) :
    (sumL (x :: gwP (sub l n e))).1 = min (wOf l m e) 1099511627776 ∧ ((sumL (x :: gwP (sub l n e))).2 = true → x = wOf l m n → wOf l m e ≤ 1099511627776) := by
  have hw : 0 ≤ wOf l m n := by unfold wOf; have := pw_le h (Nat.le_of_lt hmn); have := pg_le h (show m + 1 ≤ n by omega); omega
  have hs := gw_sum (sub l n e)
  rw [sub_len he, pre_sub _ _ (by omega), pre_sub _ _ (by omega), show n + (e - n) = e by omega] at hs
  obtain ⟨a1, a2⟩ := add2_nn (a := 0) (b := x) (by omega) (by omega) (by omega) (by omega)
  obtain ⟨b1, b2, b3⟩ := sum_nn (gwP (sub l n e)) (add2 0 x) (true && addOk 0 x) (gw_bd (may_sub' h _ _)) (by omega) (by omega)
  have e0 : sumL (x :: gwP (sub l n e)) = (gwP (sub l n e)).foldl sumStep (add2 0 x, true && addOk 0 x) := rfl
  rw [e0, b1, b2, a1]
  have hwe : wOf l m e = wOf l m n + (gwP (sub l n e)).sum := by rw [hs]; unfold wOf; omega
  exact ⟨by omega, fun hh hxe => by omega⟩
/-- A line that is begun. -/
theorem sum_begin {l : List Pc} (h : mayP l = true) {n e : Nat} (hne : n < e) (he : e ≤ l.length) :
    (sumL (0 :: (gwP (sub l n e)).drop 1)).1 = min (wOf l n e) 1099511627776 ∧ ((sumL (0 :: (gwP (sub l n e)).drop 1)).2 = true ↔ wOf l n e ≤ 1099511627776) := by
  have hs := gw_sum (sub l n e)
  rw [sub_len he, pre_sub _ _ (by omega), pre_sub _ _ (by omega), show n + (e - n) = e by omega] at hs
  have hp : l[n]? = some l[n] := List.getElem?_eq_getElem (by omega)
  have hd : (gwP (sub l n e)) = l[n].g :: (gwP (sub l n e)).drop 1 := by
    have h0 : (sub l n e)[0]? = some l[n] := by rw [sub_at (by omega)]; exact hp
    cases hsub : sub l n e with
    | nil => rw [hsub] at h0; simp at h0
    | cons p r => rw [hsub] at h0; simp at h0; subst h0; rfl
  have hb : ∀ y ∈ (gwP (sub l n e)).drop 1, 0 ≤ y ∧ y ≤ 1099511627776 := fun y hy => gw_bd (may_sub' h _ _) y (List.mem_of_mem_drop hy)
  obtain ⟨b1, b2, b3⟩ := sum_nn ((gwP (sub l n e)).drop 1) 0 true hb (by omega) (by omega)
  have e0 : sumL (0 :: (gwP (sub l n e)).drop 1) = ((gwP (sub l n e)).drop 1).foldl sumStep (0, true) := rfl
  have hsum : (gwP (sub l n e)).sum = l[n].g + ((gwP (sub l n e)).drop 1).sum := by
    conv => lhs; rw [hd]
    rw [List.sum_cons]
  have hgn := pre_at (f := Pc.g) hp
  have hwe : wOf l n e = ((gwP (sub l n e)).drop 1).sum := by unfold wOf; omega
  rw [e0, b1, b2, hwe]
  exact ⟨by omega, by simp⟩
/-! ### a line that is laid -/
theorem endF_some' {room align : Int} {op : List Pc} {wide : Int} {pls : List Pl} {lines high : Int} {cut : Bool} (hz : op ≠ []) :
    endF room align ⟨op, wide, pls, lines, high, cut⟩ = ⟨op, wide, (endAt lines high (hiP op) ⟨moveF room wide align, pls, cut⟩ op op.length).pls, lines + 1, add2 high (hiP op), (endAt lines high (hiP op) ⟨moveF room wide align, pls, cut⟩ op op.length).cut || !addOk high (hiP op)⟩ := by
  simp only [endF, if_neg hz]
/-- Where a piece stands in its line, behind what the line is moved by. -/
def offP (op : List Pc) (d : Nat) : Int := pre Pc.w op d + (pre Pc.g op (d + 1) - pre Pc.g op 1)
theorem endAt_nums (lines high hi : Int) (s : Es) (op : List Pc) : ∀ k, k ≤ op.length →
    (∀ i, i < s.pls.length → (endAt lines high hi s op k).pls[i]? = s.pls[i]?) ∧ (∀ d, d < k → ∃ q, (endAt lines high hi s op k).pls[s.pls.length + d]? = some q ∧ q.n = lines) := by
  intro k
  induction k with
  | zero => intro _; exact ⟨fun _ _ => rfl, fun d hd => absurd hd (by omega)⟩
  | succ k ih =>
    intro hk
    obtain ⟨i1, i2⟩ := ih (by omega)
    have hl := endAt_len lines high hi s op k (by omega)
    rw [endAt, List.getElem?_eq_getElem (by omega)]
    simp only [endStep]
    refine ⟨fun i hi' => by rw [List.getElem?_append_left (by omega)]; exact i1 i hi', fun d hd => ?_⟩
    by_cases e : d = k
    · subst e
      rw [List.getElem?_append_right (by omega), hl, Nat.sub_self]
      exact ⟨_, rfl, rfl⟩
    · rw [List.getElem?_append_left (by omega)]
      exact i2 d (by omega)
theorem endAt_exact (lines high hi mv : Int) (pls : List Pl) (cut : Bool) (op : List Pc) (hm : mayP op = true) (hhi : ∀ p ∈ op, p.h ≤ hi) : ∀ k, k ≤ op.length → (endAt lines high hi ⟨mv, pls, cut⟩ op k).cut = false →
    cut = false ∧ (0 < k → (endAt lines high hi ⟨mv, pls, cut⟩ op k).x = mv + pre Pc.w op k + (pre Pc.g op k - pre Pc.g op 1)) ∧ (k = 0 → (endAt lines high hi ⟨mv, pls, cut⟩ op k).x = mv) ∧
    (∀ d p, d < k → op[d]? = some p → (endAt lines high hi ⟨mv, pls, cut⟩ op k).pls[pls.length + d]? = some ⟨((pls.length + d : Nat) : Int), lines, mv + offP op d, high + (hi - p.h), p.w, p.h⟩ ∧ mv + offP op d + p.w ≤ 1099511627776 ∧ high + (hi - p.h) ≤ 1099511627776) := by
  intro k
  induction k with
  | zero => intro _ h; exact ⟨h, fun h0 => absurd h0 (by omega), fun _ => rfl, fun d p hd => absurd hd (by omega)⟩
  | succ k ih =>
    intro hk hc
    have hp : op[k]? = some op[k] := List.getElem?_eq_getElem (by omega)
    have hl := endAt_len lines high hi ⟨mv, pls, cut⟩ op k (by omega)
    obtain ⟨w0, _, h0, _, g0, _⟩ := may_at hm hp
    have hih := hhi _ (List.mem_of_getElem? hp)
    have hpw := pre_at (f := Pc.w) hp
    have hpg := pre_at (f := Pc.g) hp
    have hmw := pw_le hm (Nat.zero_le k)
    have hmg : 0 < k → pre Pc.g op 1 ≤ pre Pc.g op k := fun h => pg_le hm h
    have hw00 : pre Pc.w op 0 = 0 := rfl
    rw [endAt, hp] at hc ⊢
    simp only [endStep] at hc ⊢
    simp only at hl
    by_cases hk0 : k = 0
    · subst hk0
      simp only [BEq.rfl, if_true, Bool.or_eq_false_iff, Bool.not_eq_false'] at hc ⊢
      have e0 : (endAt lines high hi ⟨mv, pls, cut⟩ op 0) = ⟨mv, pls, cut⟩ := rfl
      simp only [Nat.zero_add] at hpw hpg ⊢
      rw [e0] at hc ⊢
      simp only at hc ⊢
      obtain ⟨⟨c1, c2⟩, c3⟩ := hc
      obtain ⟨_, _, _, _, _, y1, y2⟩ := addOk_t c2
      obtain ⟨_, _, _, _, _, z1, z2⟩ := addOk_t c3
      refine ⟨c1, fun _ => by rw [z2, hpw, hw00]; omega, fun h => absurd h (by omega), fun d p hd hdp => ?_⟩
      obtain rfl : d = 0 := by omega
      obtain rfl : op[0] = p := by rw [hp] at hdp; injection hdp
      rw [List.getElem?_append_right (by omega), Nat.add_zero, Nat.sub_self]
      have eo : offP op 0 = 0 := by unfold offP; simp only [Nat.zero_add]; rw [hw00]; omega
      rw [eo, y2, Int.add_zero]
      exact ⟨rfl, z1, y1⟩
    · have hkb : (k == 0) = false := by simpa using hk0
      simp only [hkb, Bool.false_eq_true, if_false, Bool.or_eq_false_iff, Bool.not_eq_false'] at hc ⊢
      obtain ⟨⟨⟨c1, c4⟩, c2⟩, c3⟩ := hc
      obtain ⟨i1, i2, _, i4⟩ := ih (by omega) c1
      have hx := i2 (by omega)
      have hg1 := hmg (by omega)
      obtain ⟨_, _, _, _, _, x1, x2⟩ := addOk_t c4
      obtain ⟨_, _, _, _, _, y1, y2⟩ := addOk_t c2
      obtain ⟨_, _, _, _, _, z1, z2⟩ := addOk_t c3
      refine ⟨i1, fun _ => by rw [z2, x2, hx]; omega, fun h => absurd h (by omega), fun d p hd hdp => ?_⟩
      by_cases e : d = k
      · subst e
        obtain rfl : op[d] = p := by rw [hp] at hdp; injection hdp
        rw [List.getElem?_append_right (by omega), hl, Nat.sub_self]
        have eo : mv + offP op d = (endAt lines high hi ⟨mv, pls, cut⟩ op d).x + op[d].g := by unfold offP; rw [hx]; omega
        rw [eo, y2, x2]
        exact ⟨rfl, by omega, y1⟩
      · rw [List.getElem?_append_left (by omega)]
        exact i4 d p (by omega) hdp
end Go.Proofs.Ytgglffmfkhbcgaa
