/- What follows of shares: where the room is enough; items that are alike get alike. Conditions: none. -/
import Derived.Test.YtnjnkcjhhgffjaaFlexMathL
namespace Go.Proofs.Ytnjnkcjhhgffjaa
theorem map_fit {L : List FIt} (h : ∀ x ∈ L, x.fit) : (L.map fun x => (x.cnt, false)) = L.map fun x => (x, false) := by
  refine List.map_congr_left fun x hx => ?_
  rw [FIt.cnt_of_fit (h x hx)]
theorem init_free (L : List FIt) : freeF (L.map fun x => (x, false)) < L.length + 1 := by
  have := free_le (L.map fun x => (x, false))
  rw [List.length_map] at this
  omega
theorem sumF_init (f : FP → Int) (L : List FIt) : sumF f (L.map fun x => (x, false)) = (L.map fun x => f (x, false)).sum := by
  unfold sumF; rw [List.map_map]; rfl
/-- Where there is room. -/
theorem room_law {L : List FIt} {room : Int} (hfit : ∀ x ∈ L, x.fit) (hn : L.length ≤ 100) (he : (shareL L room).2 = true) :
    (room < (L.map FIt.b).sum + (L.map FIt.e).sum →
      (∀ (k : Nat) (x : FIt) (s : Int), L[k]? = some x → (shareL L room).1[k]? = some s → 0 ≤ s ∧ s ≤ x.b) ∧ room ≤ (shareL L room).1.sum + (L.map FIt.e).sum) ∧
    ((L.map FIt.b).sum + (L.map FIt.e).sum ≤ room →
      (∀ (k : Nat) (x : FIt) (s : Int), L[k]? = some x → (shareL L room).1[k]? = some s → 0 ≤ s ∧ x.b ≤ s) ∧ (shareL L room).1.sum + (L.map FIt.e).sum ≤ room ∧
        (64 ≤ (L.map FIt.g).sum → room - L.length < (shareL L room).1.sum + (L.map FIt.e).sum)) := by
  have hsl : shareL L room = ((roundsF room (L.length + 1) (L.map fun x => (x, false)) false).1, !(roundsF room (L.length + 1) (L.map fun x => (x, false)) false).2) := by
    unfold shareL
    rw [if_neg (by omega), map_fit hfit]
  rw [hsl] at he ⊢
  simp only at he ⊢
  have hc : (roundsF room (L.length + 1) (L.map fun x => (x, false)) false).2 = false := by simpa using he
  have hPfit : ∀ p ∈ L.map fun x => (x, false), p.1.fit := by
    intro p hp
    obtain ⟨x, hx, rfl⟩ := List.mem_map.1 hp
    exact hfit x hx
  have hE : sumF extraF (L.map fun x => (x, false)) = (L.map FIt.e).sum := sumF_init _ _
  have hB : sumF baseF (L.map fun x => (x, false)) = (L.map FIt.b).sum := sumF_init _ _
  constructor
  · intro hlt
    obtain ⟨P', f, h1, h2, h3, h4⟩ := lack_law room (L.length + 1) _ (init_free L) hPfit (by unfold trueRest; rw [hE, hB]; omega) hc
    have hL : P'.map (·.1) = L := by rw [h2, List.map_map]; simp [Function.comp_def]
    rw [h1]
    refine ⟨fun k x s hx hs => ?_, ?_⟩
    · rw [List.getElem?_map] at hs
      cases hp : P'[k]? with
      | none => rw [hp] at hs; cases hs
      | some p =>
        rw [hp] at hs
        injection hs with hs
        have : p.1 = x := by
          rw [← hL, List.getElem?_map, hp] at hx
          injection hx
        have h5 := h3 p (List.mem_of_getElem? hp)
        rw [this] at h5
        omega
    · have e : sumF extraF P' = (L.map FIt.e).sum := by rw [← hL, List.map_map]; rfl
      rw [e] at h4
      exact h4
  · intro hge
    have hcut : (roundF room (L.map fun x => (x, false)) false).2.2.1 = false := by
      unfold roundsF at hc
      split at hc
      · cases h : (roundF room (L.map fun x => (x, false)) false).2.2.1 with
        | false => rfl
        | true => rw [h, rounds_cut] at hc; cases hc
      · exact hc
    have hrest : restOk room (L.map fun x => (x, false)) = true := by
      unfold roundF at hcut
      split at hcut <;> simp at hcut <;> exact hcut.1.1
    have hR := rest_exact hrest
    rw [hE, hB] at hR
    have hpos : 0 ≤ restN room (L.map fun x => (x, false)) := by omega
    have hround : roundF room (L.map fun x => (x, false)) false = ((L.map fun x => (x, false)).map (growF (restN room (L.map fun x => (x, false))) (allF FIt.g (L.map fun x => (x, false)))), (L.map fun x => (x, false)), (((false || !restOk room (L.map fun x => (x, false))) || !shareOkF (restN room (L.map fun x => (x, false))) (allF FIt.g (L.map fun x => (x, false))) FIt.g (L.map fun x => (x, false))) || !growOk (restN room (L.map fun x => (x, false))) (allF FIt.g (L.map fun x => (x, false))) (L.map fun x => (x, false))), false) := by
      unfold roundF; exact if_pos hpos
    have hcut2 : shareOkF (restN room (L.map fun x => (x, false))) (allF FIt.g (L.map fun x => (x, false))) FIt.g (L.map fun x => (x, false)) = true ∧ growOk (restN room (L.map fun x => (x, false))) (allF FIt.g (L.map fun x => (x, false))) (L.map fun x => (x, false)) = true := by
      rw [hround] at hcut
      simp at hcut
      exact ⟨by simpa using hcut.1.2, by simpa using hcut.2⟩
    obtain ⟨hso, hgo⟩ := hcut2
    have hres : (roundsF room (L.length + 1) (L.map fun x => (x, false)) false).1 = (L.map fun x => (x, false)).map (growF (restN room (L.map fun x => (x, false))) (allF FIt.g (L.map fun x => (x, false)))) := by
      unfold roundsF
      rw [hround]
      rfl
    rw [hres]
    have hfs : ∀ p ∈ L.map fun x => (x, false), 0 ≤ p.1.g := fun p hp => (hPfit p hp).fg.1
    obtain ⟨hD1, hD2⟩ := allF_bd FIt.g (L.map fun x => (x, false))
    have hsum := shares_le hpos hfs hD1 hD2 hso
    have hshare := share_exact hpos hfs hD1 hso
    have hgrow := grow_exact hgo
    have hsize : ((L.map fun x => (x, false)).map (growF (restN room (L.map fun x => (x, false))) (allF FIt.g (L.map fun x => (x, false))))).sum = (L.map FIt.b).sum + sumF (shareF (restN room (L.map fun x => (x, false))) (allF FIt.g (L.map fun x => (x, false))) FIt.g) (L.map fun x => (x, false)) := by
      rw [← hB, ← sumF_add]
      exact sumF_congr hgrow
    rw [hsize]
    refine ⟨fun k x s hx hs => ?_, by omega, fun h64 => ?_⟩
    · rw [List.getElem?_map, List.getElem?_map, hx] at hs
      injection hs with hs
      have hm : (x, false) ∈ L.map fun x => (x, false) := List.mem_map.2 ⟨x, List.mem_of_getElem? hx, rfl⟩
      have h1 := hgrow _ hm
      have h2 := (hshare _ hm).1
      have h3 := (hfit x (List.mem_of_getElem? hx)).fb
      have h4 : baseF (x, false) = x.b := rfl
      have hs' : growF (restN room (L.map fun x => (x, false))) (allF FIt.g (L.map fun x => (x, false))) (x, false) = s := hs
      omega
    · have hw : weighF FIt.g (L.map fun x => (x, false)) = (L.map FIt.g).sum := sumF_init (weightF FIt.g) L
      have hD : weighF FIt.g (L.map fun x => (x, false)) = allF FIt.g (L.map fun x => (x, false)) := by unfold allF; omega
      have hlen : 0 < (L.map fun x => (x, false)).length := by
        rw [List.length_map]
        cases L with
        | nil => simp at h64
        | cons x L => simp
      have := shares_ge hpos hfs hD1 hD hso hlen
      rw [List.length_map] at this
      omega
/-! ### alike -/
theorem part_mono {all D a b : Int} (h0 : 0 ≤ all) (ha : 0 ≤ a) (hab : a ≤ b) (hb : b ≤ 1048576) : part2 all a D ≤ part2 all b D := by
  unfold part2 mayPart
  by_cases h : 1 ≤ D ∧ D ≤ 1048576
  · rw [if_pos (decide_eq_true ⟨ha, by omega, h.1, h.2⟩), if_pos (decide_eq_true ⟨by omega, hb, h.1, h.2⟩)]
    have hc : 0 ≤ cl all := by have : cl 0 ≤ cl all := cl_mono h0; rwa [show cl 0 = 0 from by decide] at this
    exact cl_mono (tdiv_mono (by omega) (Int.mul_le_mul_of_nonneg_left hab hc))
  · rw [if_neg (fun e => h (by have := of_decide_eq_true e; omega)), if_neg (fun e => h (by have := of_decide_eq_true e; omega))]
    exact Int.le_refl _
theorem part_zero (all D : Int) : part2 all 0 D = 0 := by
  unfold part2
  split
  · rw [Int.mul_zero, Int.zero_tdiv]; decide
  · rfl
theorem part_nonneg {all a D : Int} (h0 : 0 ≤ all) (ha : 0 ≤ a) (hb : a ≤ 1048576) : 0 ≤ part2 all a D := by
  have := part_mono (D := D) h0 (Int.le_refl 0) ha hb
  rwa [part_zero] at this
theorem add2_le {b x y : Int} (h : x ≤ y) : add2 b x ≤ add2 b y := by unfold add2; exact cl_mono (by have := cl_mono h; omega)
theorem sub2_le {b x y : Int} (h : x ≤ y) : sub2 b y ≤ sub2 b x := by unfold sub2; exact cl_mono (by have := cl_mono h; omega)
theorem add2_zero {b : Int} (h1 : 0 ≤ b) (h2 : b ≤ 1099511627776) : add2 b 0 = b := by
  have o : ok b = true := ok_iff.2 ⟨by omega, h2⟩
  unfold add2; rw [show cl 0 = 0 from by decide, Int.add_zero, cl_cl, ok_cl o]
theorem sub2_zero {b : Int} (h1 : 0 ≤ b) (h2 : b ≤ 1099511627776) : sub2 b 0 = b := by
  have o : ok b = true := ok_iff.2 ⟨by omega, h2⟩
  unfold sub2; rw [show cl 0 = 0 from by decide, Int.sub_zero, cl_cl, ok_cl o]
/-- Who is frozen: all that have as much, and shrink no less. -/
def Even (P : List FP) : Prop := (∀ p ∈ P, ∀ q ∈ P, p.1.b = q.1.b → p.1.s ≤ q.1.s → p.2 = true → q.2 = true) ∧ ∀ p ∈ P, p.1.s = 0 → p.2 = false
def Good (P : List FP) (f : FP → Int) : Prop := (∀ p ∈ P, ∀ q ∈ P, p.1.b = q.1.b → q.1.g ≤ p.1.g → p.1.s ≤ q.1.s → f q ≤ f p) ∧ ∀ p ∈ P, p.1.g = 0 → p.1.s = 0 → f p = p.1.b
theorem grow_good {rest D : Int} {P : List FP} (h0 : 0 ≤ rest) (hfit : ∀ p ∈ P, p.1.fit) (hE : Even P) : Good P (growF rest D) := by
  constructor
  · intro p hp q hq hb hg hs
    have fp := hfit p hp
    have fq := hfit q hq
    cases h1 : p.2
    · cases h2 : q.2
      · unfold growF shareF
        rw [h1, h2, if_neg Bool.false_ne_true, if_neg Bool.false_ne_true, if_neg Bool.false_ne_true, if_neg Bool.false_ne_true, hb]
        exact add2_le (part_mono h0 fq.fg.1 hg (by have := fp.fg.2; omega))
      · unfold growF shareF
        rw [h1, h2, if_pos rfl, if_neg Bool.false_ne_true, if_neg Bool.false_ne_true]
        have := add2_le (b := p.1.b) (part_nonneg (D := D) h0 fp.fg.1 (by have := fp.fg.2; omega))
        rw [add2_zero fp.fb.1 fp.fb.2] at this
        have := fp.fb.1
        omega
    · have h2 := hE.1 p hp q hq hb hs h1
      unfold growF
      rw [h1, h2, if_pos rfl, if_pos rfl]
      exact Int.le_refl _
  · intro p hp hg hs
    have fp := hfit p hp
    unfold growF shareF
    rw [hE.2 p hp hs, if_neg Bool.false_ne_true, if_neg Bool.false_ne_true, hg, part_zero, add2_zero fp.fb.1 fp.fb.2]
theorem less_le {lack D : Int} {p q : FP} (h0 : 0 ≤ lack) (fp : p.1.fit) (fq : q.1.fit) (hb : p.1.b = q.1.b) (hs : p.1.s ≤ q.1.s) (h1 : p.2 = false) (h2 : q.2 = false) : lessF lack D q ≤ lessF lack D p := by
  unfold lessF shareF
  rw [h1, h2, if_neg Bool.false_ne_true, if_neg Bool.false_ne_true, hb]
  exact sub2_le (part_mono h0 fp.fs.1 hs (by have := fq.fs.2; omega))
theorem less_zero {lack D : Int} {p : FP} (fp : p.1.fit) (hs : p.1.s = 0) : lessF lack D p = p.1.b := by
  have : shareF lack D FIt.s p = 0 := by unfold shareF; rw [hs, part_zero]; split <;> rfl
  unfold lessF
  rw [this, sub2_zero fp.fb.1 fp.fb.2]
theorem size_good {lack D : Int} {P : List FP} (h0 : 0 ≤ lack) (hfit : ∀ p ∈ P, p.1.fit) (hE : Even P) : Good P (sizeF lack D) := by
  constructor
  · intro p hp q hq hb _ hs
    have fp := hfit p hp
    have fq := hfit q hq
    cases h1 : p.2
    · cases h2 : q.2
      · have := less_le (D := D) h0 fp fq hb hs h1 h2
        unfold sizeF
        rw [h1, h2, if_neg Bool.false_ne_true, if_neg Bool.false_ne_true]
        omega
      · unfold sizeF
        rw [h1, h2, if_pos rfl, if_neg Bool.false_ne_true]
        omega
    · have h2 := hE.1 p hp q hq hb hs h1
      unfold sizeF
      rw [h1, h2, if_pos rfl, if_pos rfl]
      exact Int.le_refl _
  · intro p hp _ hs
    have fp := hfit p hp
    unfold sizeF
    rw [hE.2 p hp hs, if_neg Bool.false_ne_true, less_zero fp hs]
    have := fp.fb.1
    omega
theorem next_even {lack D : Int} {P : List FP} (h0 : 0 ≤ lack) (hfit : ∀ p ∈ P, p.1.fit) (hE : Even P) : Even (nextF lack D P) := by
  constructor
  · intro p' hp' q' hq' hb hs hf
    obtain ⟨p, hp, rfl⟩ := List.mem_map.1 hp'
    obtain ⟨q, hq, rfl⟩ := List.mem_map.1 hq'
    simp only at hb hs hf ⊢
    unfold iceF at hf ⊢
    cases h2 : q.2
    · cases h1 : p.2
      · rw [h1, Bool.false_or] at hf
        have h3 := of_decide_eq_true hf
        have h4 := less_le (D := D) h0 (hfit p hp) (hfit q hq) hb hs h1 h2
        rw [Bool.false_or]
        exact decide_eq_true (by omega)
      · have := hE.1 p hp q hq hb hs h1
        rw [h2] at this
        cases this
    · rw [Bool.true_or]
  · intro p' hp' hs
    obtain ⟨p, hp, rfl⟩ := List.mem_map.1 hp'
    simp only at hs ⊢
    unfold iceF
    rw [hE.2 p hp hs, Bool.false_or, less_zero (hfit p hp) hs]
    exact decide_eq_false (by have := (hfit p hp).fb.1; omega)
theorem alike_law (room : Int) : ∀ (k : Nat) (P : List FP) (c : Bool), freeF P < k → (∀ p ∈ P, p.1.fit) → Even P →
    ∃ (P' : List FP) (f : FP → Int), (roundsF room k P c).1 = P'.map f ∧ P'.map (·.1) = P.map (·.1) ∧ Good P' f
  | 0, P, _, h, _, _ => absurd h (by omega)
  | k + 1, P, c, hk, hfit, hE => by
    by_cases h0 : 0 ≤ restN room P
    · refine ⟨P, growF (restN room P) (allF FIt.g P), ?_, rfl, grow_good h0 hfit hE⟩
      have hround : (roundF room P c).2.2.2 = false ∧ (roundF room P c).1 = P.map (growF (restN room P) (allF FIt.g P)) := by
        unfold roundF
        rw [if_pos h0]
        exact ⟨rfl, rfl⟩
      unfold roundsF
      rw [hround.1, if_neg Bool.false_ne_true]
      exact hround.2
    · have hlack : 0 ≤ -restN room P := by omega
      have hround : (roundF room P c).2.2.2 = anyF (-restN room P) (allF FIt.s P) P ∧ (roundF room P c).1 = P.map (sizeF (-restN room P) (allF FIt.s P)) ∧ (roundF room P c).2.1 = nextF (-restN room P) (allF FIt.s P) P := by
        unfold roundF
        rw [if_neg h0]
        exact ⟨rfl, rfl, rfl⟩
      cases hany : anyF (-restN room P) (allF FIt.s P) P
      · refine ⟨P, sizeF (-restN room P) (allF FIt.s P), ?_, rfl, size_good hlack hfit hE⟩
        unfold roundsF
        rw [hround.1, hany, if_neg Bool.false_ne_true]
        exact hround.2.1
      · have hfree := free_next hany
        have hnfit : ∀ p ∈ nextF (-restN room P) (allF FIt.s P) P, p.1.fit := by
          intro p hp
          obtain ⟨q, hq, rfl⟩ := List.mem_map.1 hp
          exact hfit q hq
        have hfst : (nextF (-restN room P) (allF FIt.s P) P).map (·.1) = P.map (·.1) := by
          unfold nextF
          rw [List.map_map]
          rfl
        obtain ⟨P', f, h1, h2, h3⟩ := alike_law room k (nextF (-restN room P) (allF FIt.s P) P) (roundF room P c).2.2.1 (by omega) hnfit (next_even hlack hfit hE)
        refine ⟨P', f, ?_, h2.trans hfst, h3⟩
        conv => lhs; unfold roundsF
        rw [hround.1, hany, if_pos rfl, hround.2.2]
        exact h1
/-- Items that are alike. -/
theorem alikeL {L : List FIt} {room : Int} (hfit : ∀ x ∈ L, x.fit) (hn : L.length ≤ 100) : (shareL L room).1.length = L.length ∧
    (∀ (i k : Nat) (x y : FIt) (s t : Int), L[i]? = some x → L[k]? = some y → (shareL L room).1[i]? = some s → (shareL L room).1[k]? = some t → x.b = y.b → y.g ≤ x.g → x.s ≤ y.s → t ≤ s) ∧
    (∀ (i : Nat) (x : FIt) (s : Int), L[i]? = some x → (shareL L room).1[i]? = some s → x.g = 0 → x.s = 0 → s = x.b) := by
  have hsl : (shareL L room).1 = (roundsF room (L.length + 1) (L.map fun x => (x, false)) false).1 := by
    unfold shareL
    rw [if_neg (by omega), map_fit hfit]
  have hPfit : ∀ p ∈ L.map fun x => (x, false), p.1.fit := by
    intro p hp
    obtain ⟨x, hx, rfl⟩ := List.mem_map.1 hp
    exact hfit x hx
  have hE : Even (L.map fun x => (x, false)) := by
    constructor
    · intro p hp q hq _ _ h
      obtain ⟨x, hx, rfl⟩ := List.mem_map.1 hp
      cases h
    · intro p hp _
      obtain ⟨x, hx, rfl⟩ := List.mem_map.1 hp
      rfl
  obtain ⟨P', f, h1, h2, h3, h4⟩ := alike_law room (L.length + 1) _ false (init_free L) hPfit hE
  have hL : P'.map (·.1) = L := by rw [h2, List.map_map]; simp [Function.comp_def]
  have hat : ∀ (i : Nat) (x : FIt) (s : Int), L[i]? = some x → (shareL L room).1[i]? = some s → ∃ p ∈ P', p.1 = x ∧ f p = s := by
    intro i x s hx hs
    rw [hsl, h1, List.getElem?_map] at hs
    cases hp : P'[i]? with
    | none => rw [hp] at hs; cases hs
    | some p =>
      rw [hp] at hs
      injection hs with hs
      refine ⟨p, List.mem_of_getElem? hp, ?_, hs⟩
      rw [← hL, List.getElem?_map, hp] at hx
      injection hx
  refine ⟨?_, ?_, ?_⟩
  · rw [hsl, h1, List.length_map, ← List.length_map (f := (·.1)) (as := P'), hL]
  · intro i k x y s t hx hy hs ht hb hg hss
    obtain ⟨p, hp, rfl, rfl⟩ := hat i x s hx hs
    obtain ⟨q, hq, rfl, rfl⟩ := hat k y t hy ht
    exact h3 p hp q hq hb hg hss
  · intro i x s hx hs hg hss
    obtain ⟨p, hp, rfl, rfl⟩ := hat i x s hx hs
    exact h4 p hp hg hss
end Go.Proofs.Ytnjnkcjhhgffjaa
