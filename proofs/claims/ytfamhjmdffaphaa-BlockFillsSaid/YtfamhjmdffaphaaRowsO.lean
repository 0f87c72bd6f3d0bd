/- Rows that a call gathers by itself: small words. Conditions: as the theorems' premises say. -/
import Derived.Test.YtfamhjmdffaphaaBlk
import Derived.Test.YtfamhjmdffaphaaAppend
import Derived.OneCell
import Derived.Below
import Derived.WalkLawsBesides
import Derived.OpenShut
namespace Go.Proofs.Ytfamhjmdffaphaa
open Go.ChangeShapes Go.WideShapes Go.RowKit
theorem reads_blk {w : World} {B g size n : Nat} {t : TypeId} {cs : Array Value} (h : Blk w g t cs) (hg : g < B) (hn : cs.size = n * size) : Reads w B size (some ⟨g, 0, none⟩) n cs.toList := by
  refine ⟨by simpa using hn, fun _ => ⟨_, rfl, hg, fun j u hu => ?_⟩⟩
  rw [add_zero_, h.cell j, ← hu, Array.getElem?_toList]
theorem own_form' {w : World} {base : Nat} {e : TypeId} {size : Nat} {v : Value} {n : Nat} {xs : List Value} (h : w.ownsRow base e size v n xs) : ∃ A c, v = .slice A n c := by
  rcases h.2 with ⟨rfl, rfl⟩ | ⟨g, cap, cur, rfl, _⟩
  · exact ⟨_, _, rfl⟩
  · exact ⟨_, _, rfl⟩
theorem own_slice {w : World} {base : Nat} {e : TypeId} {size : Nat} {v : Value} {n : Nat} {xs : List Value} (h : w.ownsRow base e size v n xs) : ∃ A m c, v = .slice A m c := by
  obtain ⟨A, c, h⟩ := own_form' h
  exact ⟨A, n, c, h⟩
theorem own_below {w w' : World} {base : Nat} {e : TypeId} {size : Nat} {v : Value} {n : Nat} {xs : List Value} (h : w.ownsRow base e size v n xs) (hb : Below w.heap.size w w') : w'.ownsRow base e size v n xs := by
  refine ⟨h.1, ?_⟩
  rcases h.2 with h2 | ⟨g, cap, cur, h1, h2, h3, h4⟩
  · exact Or.inl h2
  · refine Or.inr ⟨g, cap, cur, h1, h2, ?_, h4⟩
    have hlt : g < w.heap.size := by
      rcases Nat.lt_or_ge g w.heap.size with hlt | hge
      · exact hlt
      · rw [Array.getElem?_eq_none hge] at h3; cases h3
    rw [hb.block g hlt]
    exact h3
theorem below_own {w w0 w' : World} {e : TypeId} {size : Nat} {v : Value} {n : Nat} {xs : List Value} {o : Obj} (hb : Below w.heap.size w w0) (hown : w0.ownsRow w.heap.size e size v n xs) (hg : (w0.alloc o).grownBy w' v.ownBlock) : Below w.heap.size w w' := by
  have hb2 := below_al hb o
  exact hb2.grown hg hb2.size (fun k hk => (hown.lt k hk).1)

/-- The cells of a row lie in a block of the row's own, known whole; or it has none. -/
def RowB (w : World) (t : TypeId) (size : Nat) (A : Option Addr) (n : Nat) (xs : List Value) : Prop :=
  xs.length = n * size ∧ (0 < n → ∃ (g : Nat) (cs : Array Value), A = some ⟨g, 0, none⟩ ∧ Blk w g t cs ∧ ∀ (j : Nat) (u : Value), xs[j]? = some u → cs[j]? = some u)
section
variable {w w' : World} {t : TypeId} {size n : Nat} {A : Option Addr} {xs : List Value}
theorem RowB.of_own {base c : Nat} (h : w.ownsRow base t size (.slice A n c) n xs) : RowB w t size A n xs := by
  refine ⟨h.1, fun hn => ?_⟩
  obtain ⟨g, cap, hv, _, hlt⟩ := h.form hn
  have hA : A = some ⟨g, 0, none⟩ := by injection hv
  subst hA
  rcases h.2 with ⟨h0, h1⟩ | ⟨g', cap', cur, h1, h2, h3, h4⟩
  · cases h0
  · have : g' = g := by injection h1 with h1; injection h1 with h1; injection h1 with h1; exact h1.symm
    subst this
    refine ⟨g', cur, rfl, h3, fun j u hu => ?_⟩
    have hc := h.cells (g := g') rfl j u hu
    have hk := (Blk.cell (w := w) (g := g') (t := t) (cs := cur) h3 j)
    rw [add_zero_] at hc
    rw [← hk, hc]
theorem RowB.reads (h : RowB w t size A n xs) : Reads w w.heap.size size A n xs :=
  ⟨h.1, fun hn => by
    obtain ⟨g, cs, e, hb, hc⟩ := h.2 hn
    refine ⟨_, e, hb.lt, fun j u hu => ?_⟩
    rw [add_zero_, hb.cell j, hc j u hu]⟩
theorem RowB.map_ (h : RowB w t size A n xs) (k : ∀ g cs, Blk w g t cs → Blk w' g t cs) : RowB w' t size A n xs :=
  ⟨h.1, fun hn => by
    obtain ⟨g, cs, e, hb, hc⟩ := h.2 hn
    exact ⟨g, cs, e, k g cs hb, hc⟩⟩
theorem RowB.alloc (h : RowB w t size A n xs) (o : Obj) : RowB (w.alloc o) t size A n xs := h.map_ fun _ _ hb => hb.alloc o
theorem RowB.drew (h : RowB w t size A n xs) : RowB w.drew t size A n xs := h.map_ fun _ _ hb => hb
theorem RowB.drewN (h : RowB w t size A n xs) (k : Nat) : RowB (w.drewN k) t size A n xs := h.map_ fun _ _ hb => hb
theorem RowB.next (h : RowB w t size A n xs) (hb : Below w.heap.size w w') : RowB w' t size A n xs := h.map_ fun _ _ hk => hk.next hb
theorem RowB.far {p : Addr} {t' : TypeId} {cs' : Array Value} (h : RowB w t size A n xs) (hp : Blk w p.block t' cs') (hne : t ≠ t') (u : Value) : RowB (w.setCell p u) t size A n xs :=
  h.map_ fun _ _ hk => hk.far (hk.ne_ hp hne) u
end
end Go.Proofs.Ytfamhjmdffaphaa
