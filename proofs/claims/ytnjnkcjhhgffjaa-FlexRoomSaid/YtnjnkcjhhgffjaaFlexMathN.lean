/- Of room that is shared: all that FlexRoom asks, together. Conditions: none. -/
import Derived.Test.YtnjnkcjhhgffjaaFlexMathM
namespace Go.Proofs.Ytnjnkcjhhgffjaa
theorem room_bd {L : List FIt} {room : Int} (hfit : ∀ x ∈ L, x.fit) (hn : L.length ≤ 100) (he : (shareL L room).2 = true) : -1099511627776 ≤ room ∧ room ≤ 1099511627776 := by
  have hsl : (shareL L room).2 = !(roundsF room (L.length + 1) (L.map fun x => (x, false)) false).2 := by
    unfold shareL
    rw [if_neg (by omega), map_fit hfit]
  rw [hsl] at he
  have hc : (roundsF room (L.length + 1) (L.map fun x => (x, false)) false).2 = false := by simpa using he
  have hcut : (roundF room (L.map fun x => (x, false)) false).2.2.1 = false := by
    unfold roundsF at hc
    split at hc
    · cases h : (roundF room (L.map fun x => (x, false)) false).2.2.1 with
      | false => rfl
      | true => rw [h, rounds_cut] at hc; cases hc
    · exact hc
  have hrest : restOk room (L.map fun x => (x, false)) = true := by
    unfold roundF at hcut
    split at hcut <;> simp at hcut <;> exact hcut.1.1
  unfold restOk at hrest
  rw [Bool.and_eq_true] at hrest
  have := subOk_t hrest.2
  exact ⟨this.1, this.2.1⟩
theorem take_sum_le {Z : List Int} (h : ∀ z ∈ Z, 0 ≤ z) (k : Nat) : 0 ≤ (Z.take k).sum ∧ (Z.take k).sum ≤ Z.sum := by
  have nn : ∀ l : List Int, (∀ z ∈ l, 0 ≤ z) → 0 ≤ l.sum := by
    intro l
    induction l with
    | nil => intro _; exact Int.le_refl _
    | cons z l ih => intro hl; rw [List.sum_cons]; have := hl z List.mem_cons_self; have := ih (fun y hy => hl y (List.mem_cons_of_mem _ hy)); omega
  have h1 := nn (Z.take k) (fun z hz => h z (List.mem_of_mem_take hz))
  have h2 := nn (Z.drop k) (fun z hz => h z (List.mem_of_mem_drop hz))
  have h3 : Z.sum = (Z.take k).sum + (Z.drop k).sum := by rw [← List.sum_append, List.take_append_drop]
  omega
theorem map_sum_bd (f : FIt → Int) (M : Int) : ∀ {L : List FIt}, (∀ x ∈ L, 0 ≤ f x ∧ f x ≤ M) → 0 ≤ (L.map f).sum ∧ (L.map f).sum ≤ M * L.length
  | [], _ => by simp
  | x :: L, h => by
    have ih := map_sum_bd f M (L := L) (fun y hy => h y (List.mem_cons_of_mem _ hy))
    have h0 := h x List.mem_cons_self
    rw [List.map_cons, List.sum_cons, List.length_cons, Int.natCast_add, Int.mul_add]
    omega
theorem sum_snoc_at {Z : List Int} {k : Nat} {z : Int} (h : Z[k]? = some z) : (Z.take (k + 1)).sum = (Z.take k).sum + z := by
  rw [List.take_add_one, h, List.sum_append]; simp
theorem map_snoc_at (f : FIt → Int) {L : List FIt} {k : Nat} {x : FIt} (h : L[k]? = some x) : ((L.take (k + 1)).map f).sum = ((L.take k).map f).sum + f x := by
  rw [List.take_add_one, h, List.map_append, List.sum_append]; simp
theorem share_len {L : List FIt} {room : Int} (hn : L.length ≤ 100) : (shareL L room).1.length = L.length := by
  have hsl : (shareL L room).1 = (roundsF room (L.length + 1) (L.map fun x => (x.cnt, false)) false).1 := by
    unfold shareL
    rw [if_neg (by omega)]
  rw [hsl, rounds_len _ _ _ _ (by have := free_le (L.map fun x => (x.cnt, false)); rw [List.length_map] at this; omega), List.length_map]
theorem sums_le_bases (f : FIt → Int) : ∀ {L : List FIt} {Z : List Int}, Z.length = L.length → (∀ (k : Nat) (x : FIt) (s : Int), L[k]? = some x → Z[k]? = some s → s ≤ f x) → Z.sum ≤ (L.map f).sum
  | [], [], _, _ => Int.le_refl _
  | [], _ :: _, h, _ => by simp at h
  | _ :: _, [], h, _ => by simp at h
  | x :: L, z :: Z, h, hh => by
    have ih := sums_le_bases f (L := L) (Z := Z) (by simpa using h) (fun k y s hy hs => hh (k + 1) y s (by simpa using hy) (by simpa using hs))
    have h0 := hh 0 x z rfl rfl
    rw [List.map_cons, List.sum_cons, List.sum_cons]
    omega
/-- All of it. -/
theorem room_pack {L : List FIt} {room : Int} (hfit : ∀ x ∈ L, x.fit) (hn : L.length ≤ 100) (he : (shareL L room).2 = true) :
    (-1099511627776 ≤ room ∧ room ≤ 1099511627776) ∧ (∀ z ∈ (shareL L room).1, 0 ≤ z) ∧ (∀ k, 0 ≤ ((shareL L room).1.take k).sum ∧ ((shareL L room).1.take k).sum ≤ 219902325555200) ∧
    (∀ f : FIt → Int, (f = FIt.b ∨ f = FIt.e ∨ f = FIt.g) → ∀ k, 0 ≤ ((L.take k).map f).sum ∧ ((L.take k).map f).sum ≤ 109951162777600) := by
  have hr := room_bd hfit hn he
  have hlen := share_len (room := room) hn
  obtain ⟨h1, h2⟩ := room_law hfit hn he
  have hb : ∀ f : FIt → Int, (f = FIt.b ∨ f = FIt.e ∨ f = FIt.g) → ∀ k, 0 ≤ ((L.take k).map f).sum ∧ ((L.take k).map f).sum ≤ 109951162777600 := by
    intro f hf k
    have hk : (L.take k).length ≤ 100 := by rw [List.length_take]; omega
    have := map_sum_bd f 1099511627776 (L := L.take k) (fun x hx => by
      have hx := hfit x (List.mem_of_mem_take hx)
      rcases hf with rfl | rfl | rfl
      · exact hx.fb
      · exact hx.fe
      · have := hx.fg; omega)
    omega
  have hz : ∀ z ∈ (shareL L room).1, 0 ≤ z := by
    intro z hz
    obtain ⟨k, hk⟩ := List.getElem?_of_mem hz
    have hkl := (List.getElem?_eq_some_iff.1 hk).1
    have hkL : k < L.length := by omega
    rcases Int.lt_or_le room ((L.map FIt.b).sum + (L.map FIt.e).sum) with h | h
    · exact ((h1 h).1 k _ z (List.getElem?_eq_getElem hkL) hk).1
    · exact ((h2 h).1 k _ z (List.getElem?_eq_getElem hkL) hk).1
  refine ⟨hr, hz, fun k => ?_, hb⟩
  have h3 := take_sum_le hz k
  have hE := hb FIt.e (.inr (.inl rfl)) L.length
  have hB := hb FIt.b (.inl rfl) L.length
  rw [List.take_length] at hE hB
  rcases Int.lt_or_le room ((L.map FIt.b).sum + (L.map FIt.e).sum) with h | h
  · have h4 := sums_le_bases FIt.b hlen (fun k x s hx hs => ((h1 h).1 k x s hx hs).2)
    omega
  · have h4 := (h2 h).2.1
    omega
end Go.Proofs.Ytnjnkcjhhgffjaa
