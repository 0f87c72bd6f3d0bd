/- Rows and blocks that lie as they lay, by the type of their cells; lists of structs, cell by cell. Conditions: none. -/
import Derived.Test.YthacboofbbfmlaaGreatDoorRowG
import Derived.Test.YthacboofbbfmlaaGreatDoorValBase
namespace Go.Proofs.YthacboofbbfmlaaGreatDoor
open Go.ChangeShapes Go.WideShapes Go.ChangeAt Go.RowKit
namespace Sel
open RowG (Row)
/-- Blocks of a type lie as they lay. -/
def KT (w w' : World) (e : TypeId) : Prop := ∀ (j : Nat) (cur : Array Value) (fr : Nat × Nat), w.heap[j]? = some (.cells cur e fr) → w'.heap[j]? = w.heap[j]?
theorem KT.refl (w : World) (e : TypeId) : KT w w e := fun _ _ _ _ => rfl
theorem KT.trans {a b c : World} {e : TypeId} (h : KT a b e) (k : KT b c e) : KT a c e := fun j cur fr hj => by
  have h1 := h j cur fr hj
  rw [k j cur fr (h1.trans hj), h1]
theorem KT.below {w w' : World} (h : Below w.heap.size w w') (e : TypeId) : KT w w' e := fun j _ _ hj => h.block j (Array.getElem?_eq_some_iff.1 hj).1
theorem KT.drewN (w : World) (n : Nat) (e : TypeId) : KT w (w.drewN n) e := fun _ _ _ _ => rfl
theorem KT.set {w : World} {g : Nat} {t e : TypeId} {cs : Array Value} (h : Blk w g t cs) (hne : t ≠ e) (i : Nat) (u : Value) : KT w (w.setCell ⟨g, i, none⟩ u) e := fun j cur fr hj => by
  refine Below.heap_setCell w ⟨g, i, none⟩ u j ?_
  rintro rfl
  unfold Blk at h
  rw [h] at hj
  injection hj with hj
  injection hj with _ hj
  exact hne hj
theorem KT.grown {α : Type} {w w' : World} {base k : Nat} {t e : TypeId} {enc : α → List Value} {v : Value} {l : List α} (h : Row w base t k enc v l) (hg : w.grownBy w' v.ownBlock) (hne : t ≠ e) : KT w w' e := fun j cur fr hj => by
  refine hg.block j (Array.getElem?_eq_some_iff.1 hj).1 ?_
  intro he
  rcases h.2 with ⟨rfl, _⟩ | ⟨b, cap, cur2, rfl, _, h5, _⟩
  · simp [Value.ownBlock] at he
  · have : j = b := by simpa [Value.ownBlock] using he
    subst this
    rw [h5] at hj
    injection hj with hj
    injection hj with _ hj
    exact hne hj
theorem row_kt {α : Type} {w w' : World} {base k : Nat} {e : TypeId} {enc : α → List Value} {v : Value} {l : List α} (h : Row w base e k enc v l) (hk : KT w w' e) : Row w' base e k enc v l := by
  refine ⟨h.1, ?_⟩
  rcases h.2 with h2 | ⟨g, cap, cur, h1, h2, h3, h4⟩
  · exact Or.inl h2
  · exact Or.inr ⟨g, cap, cur, h1, h2, (hk g cur _ h3).trans h3, h4⟩
theorem blk_kt {w w' : World} {g : Nat} {e : TypeId} {cs : Array Value} (h : Blk w g e cs) (hk : KT w w' e) : Blk w' g e cs := (hk g cs _ h).trans h
/-- Another row of the type, elsewhere. -/
def Dj (u v : Value) : Prop := ∀ b, u.ownBlock = some b → v.ownBlock ≠ some b
theorem Dj.symm {u v : Value} (h : Dj u v) : Dj v u := fun b hv hu => h b hu hv
theorem row_other {α : Type} {w w' : World} {base k : Nat} {e : TypeId} {enc : α → List Value} {u : Value} {l : List α} {r : Option Nat} (h : Row w base e k enc u l) (hg : w.grownBy w' r) (hd : ∀ b, u.ownBlock = some b → r ≠ some b) : Row w' base e k enc u l := by
  refine ⟨h.1, ?_⟩
  rcases h.2 with h2 | ⟨g, cap, cur, rfl, h2, h3, h4⟩
  · exact Or.inl h2
  · exact Or.inr ⟨g, cap, cur, rfl, h2, (hg.block g (Array.getElem?_eq_some_iff.1 h3).1 (fun e => hd g rfl e.symm)).trans h3, h4⟩
/-- What has grown lies apart from what lay apart. -/
theorem Dj.grown {α : Type} {w : World} {base k : Nat} {e : TypeId} {enc : α → List Value} {u v v' : Value} {l : List α} (h : Dj u v) (hu : Row w base e k enc u l) (ho : v'.ownBlock = v.ownBlock ∨ v'.ownBlock = some w.heap.size) : Dj u v' := fun b hb => by
  rcases ho with e | e
  · rw [e]; exact h b hb
  · rw [e]
    intro e2
    injection e2 with e2
    have := (World.ownsRow.lt hu b hb).2
    omega
theorem row_max {α : Type} {w : World} {base k n c : Nat} {e : TypeId} {enc : α → List Value} {A : Option Addr} {l : List α} (h : Row w base e k enc (.slice A n c) l) : l.length ≤ maxLen := by
  rcases h.2 with ⟨-, h0⟩ | ⟨b, cap, cur, -, -, -, h4, h5, -⟩
  · omega
  · omega
theorem flat_len {α : Type} {enc : α → List Value} {k : Nat} (henc : ∀ x, (enc x).length = k) (l : List α) : (l.flatMap enc).length = l.length * k := by
  induction l with
  | nil => simp
  | cons x t ih => rw [List.flatMap_cons, List.length_append, henc, ih, List.length_cons, Nat.succ_mul]; omega
theorem flat_at {α : Type} {enc : α → List Value} {k : Nat} (henc : ∀ x, (enc x).length = k) : ∀ (l : List α) (i : Nat) (x : α) (j : Nat), l[i]? = some x → j < k → (l.flatMap enc)[i * k + j]? = (enc x)[j]? := by
  intro l
  induction l with
  | nil => intro i x j h; cases h
  | cons y t ih =>
    intro i x j h hj
    rw [List.flatMap_cons]
    cases i with
    | zero =>
      rw [List.getElem?_cons_zero] at h
      obtain rfl := Option.some.inj h
      rw [Nat.zero_mul, Nat.zero_add, List.getElem?_append_left (by rw [henc]; exact hj)]
    | succ i =>
      rw [List.getElem?_cons_succ] at h
      rw [List.getElem?_append_right (by rw [henc, Nat.succ_mul]; omega), henc, show (i + 1) * k + j - k = i * k + j by rw [Nat.succ_mul]; omega]
      exact ih i x j h hj
theorem setRow_blk {w : World} {g : Nat} {t : TypeId} {old cells : Array Value} (h : Blk w g t old) : Blk (w.setRow g cells) g t cells := by
  unfold World.setRow Blk
  unfold Blk at h
  simp [Array.getElem?_modify, h]
theorem below_setRow {w E : World} (h : Below w.heap.size w E) {g : Nat} (hg : w.heap.size ≤ g) (cs : Array Value) : Below w.heap.size w (E.setRow g cs) := by
  refine ⟨h.os, h.tape, h.output, by unfold World.setRow; simpa using h.size, fun b hb => ?_⟩
  unfold World.setRow
  rw [Array.getElem?_modify, if_neg (by omega)]
  exact h.block b hb
theorem row_setRow {α : Type} {w : World} {base k g : Nat} {e t : TypeId} {enc : α → List Value} {v : Value} {l : List α} {old cs : Array Value} (h : Row w base e k enc v l) (K : Blk w g t old) (ht : e ≠ t) : Row (w.setRow g cs) base e k enc v l := by
  refine ⟨h.1, ?_⟩
  rcases h.2 with h2 | ⟨g', cap, cur, h1, h2, h3, h4⟩
  · exact Or.inl h2
  · refine Or.inr ⟨g', cap, cur, h1, h2, ?_, h4⟩
    unfold World.setRow
    rw [Array.getElem?_modify, if_neg ?_]
    · exact h3
    · rintro rfl
      unfold Blk at K
      rw [K] at h3
      injection h3 with h3
      injection h3 with _ h3
      exact ht h3.symm
theorem below_setRow2 {w E : World} {B : Nat} (h : Below B w E) {g : Nat} (hg : B ≤ g) (cs : Array Value) : Below B w (E.setRow g cs) := by
  refine ⟨h.os, h.tape, h.output, by unfold World.setRow; simpa using h.size, fun b hb => ?_⟩
  unfold World.setRow
  rw [Array.getElem?_modify, if_neg (by omega)]
  exact h.block b hb
theorem setRow_size (w : World) (g : Nat) (cs : Array Value) : (w.setRow g cs).heap.size = w.heap.size := by unfold World.setRow; simp
theorem blk_setRow {w : World} {g h : Nat} {t : TypeId} {old cs : Array Value} (K : Blk w h t old) (hne : h ≠ g) : Blk (w.setRow g cs) h t old := by
  unfold World.setRow Blk
  unfold Blk at K
  rw [Array.getElem?_modify, if_neg (fun e => hne e.symm)]
  exact K
theorem blk_setOther {w : World} {h : Nat} {t : TypeId} {old : Array Value} {p : Addr} (K : Blk w h t old) (hne : h ≠ p.block) (u : Value) : Blk (w.setCell p u) h t old := by
  unfold Blk at K ⊢
  rw [Below.heap_setCell w p u h (fun e => hne e)]
  exact K
theorem blk5 {w : World} {g : Nat} {t : TypeId} {a b c d e : Value} (h : Blk w g t #[a, b, c, d, e]) : w.cell? ⟨g, 0, none⟩ = some a ∧ w.cell? ⟨g, 1, none⟩ = some b ∧ w.cell? ⟨g, 2, none⟩ = some c ∧ w.cell? ⟨g, 3, none⟩ = some d ∧ w.cell? ⟨g, 4, none⟩ = some e := ⟨h.cell 0, h.cell 1, h.cell 2, h.cell 3, h.cell 4⟩
theorem fz5 {w : World} {g : Nat} {t : TypeId} {a b c d e : Value} (h : Blk w g t #[a, b, c, d, e]) : w.frozen? ⟨g, 0, none⟩ = false ∧ w.frozen? ⟨g, 1, none⟩ = false ∧ w.frozen? ⟨g, 2, none⟩ = false ∧ w.frozen? ⟨g, 3, none⟩ = false ∧ w.frozen? ⟨g, 4, none⟩ = false := ⟨h.frozen 0, h.frozen 1, h.frozen 2, h.frozen 3, h.frozen 4⟩
theorem below_set5 {w E : World} {B g : Nat} (h : Below B w E) (hg : B ≤ g) (a b c d e : Value) : Below B w (((((E.setCell ⟨g, 0, none⟩ a).setCell ⟨g, 1, none⟩ b).setCell ⟨g, 2, none⟩ c).setCell ⟨g, 3, none⟩ d).setCell ⟨g, 4, none⟩ e) :=
  ((((h.setCell hg _).setCell hg _).setCell hg _).setCell hg _).setCell hg _
theorem blk_set5 {w : World} {g : Nat} {t : TypeId} {a0 b0 c0 d0 e0 : Value} (K : Blk w g t #[a0, b0, c0, d0, e0]) (a b c d e : Value) : Blk (((((w.setCell ⟨g, 0, none⟩ a).setCell ⟨g, 1, none⟩ b).setCell ⟨g, 2, none⟩ c).setCell ⟨g, 3, none⟩ d).setCell ⟨g, 4, none⟩ e) g t #[a, b, c, d, e] :=
  ((((K.set_ 0 a).set_ 1 b).set_ 2 c).set_ 3 d).set_ 4 e
theorem kt_set5 {w : World} {g : Nat} {t e : TypeId} {cs : Array Value} (h : Blk w g t cs) (hne : t ≠ e) (a b c d u : Value) : KT w (((((w.setCell ⟨g, 0, none⟩ a).setCell ⟨g, 1, none⟩ b).setCell ⟨g, 2, none⟩ c).setCell ⟨g, 3, none⟩ d).setCell ⟨g, 4, none⟩ u) e :=
  ((((KT.set h hne 0 a).trans (KT.set (h.set_ 0 a) hne 1 b)).trans (KT.set ((h.set_ 0 a).set_ 1 b) hne 2 c)).trans (KT.set (((h.set_ 0 a).set_ 1 b).set_ 2 c) hne 3 d)).trans (KT.set ((((h.set_ 0 a).set_ 1 b).set_ 2 c).set_ 3 d) hne 4 u)
theorem blk_below {w w' : World} {B h : Nat} {t : TypeId} {cs : Array Value} (K : Blk w h t cs) (hb : Below B w w') (hlt : h < B) : Blk w' h t cs := (hb.block h hlt).trans K
end Sel
end Go.Proofs.YthacboofbbfmlaaGreatDoor
