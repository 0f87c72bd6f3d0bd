/- Bytes that a call has gathered by itself: one more, and as a text. Conditions: as the theorems' premises say. -/
import Derived.Test.YtfamhjmdffaphaaAppend
import Derived.Test.YtfamhjmdffaphaaBlk
import Derived.Test.YtfamhjmdffaphaaRows
import Derived.WalkKit
import Derived.Laws.IdiomStrings
import Derived.ProofKit
import Derived.OpenShut
import Derived.IntWalk
import Derived.Lib.Hide
import Derived.Outline
import Derived.WalkLawsBesides
namespace Go.Proofs.Ytfamhjmdffaphaa
open Go.ChangeShapes Go.WideShapes Go.ChangeAt Go.RowKit
def bv (c : UInt8) : Value := .int .u8 (c.toNat : Int)
/-- A slice value holds just these bytes, in a row of the call's own. -/
def Bys (w : World) (base : Nat) (v : Value) (l : List UInt8) : Prop := w.ownsRow base 5 1 v l.length (l.map bv)
theorem u8_info : (Try.prog.info? 5).map (fun i => (i.zero, i.size, i.bytes)) = some (some (.int .u8 0), 1, 1) := by kernel_rfl
theorem Bys.alloc {w : World} {base : Nat} {v : Value} {l : List UInt8} (h : Bys w base v l) (o : Obj) : Bys (w.alloc o) base v l := World.ownsRow.alloc h o
theorem Bys.nil (w : World) (base : Nat) (h : base ≤ w.heap.size) : Bys (w.alloc (.cells #[] 5)) base (.slice (some ⟨w.heap.size, 0, none⟩) 0 0) [] := World.ownsRow_made w #[] 0 h (Nat.zero_le _) rfl
theorem Bys.below {w w' : World} {base : Nat} {v : Value} {l : List UInt8} (h : Bys w base v l) (hb : Below w.heap.size w w') : Bys w' base v l := by
  refine ⟨h.1, ?_⟩
  rcases h.2 with h2 | ⟨g, cap, cur, h1, h2, h3, h4⟩
  · exact Or.inl h2
  · refine Or.inr ⟨g, cap, cur, h1, h2, ?_, h4⟩
    have hlt : g < w.heap.size := by
      rcases Nat.lt_or_ge g w.heap.size with hlt | hge
      · exact hlt
      · rw [Array.getElem?_eq_none hge] at h3; cases h3
    rw [hb.block g hlt]
    exact h3
theorem below_pushU {w w0 w' : World} {v : Value} {l : List UInt8} {u : Value} (hb : Below w.heap.size w w0) (hown : Bys w0 w.heap.size v l) (hg : (w0.alloc (.cells #[u] 5)).grownBy w' v.ownBlock) : Below w.heap.size w w' := by
  have hb2 := below_al hb (.cells #[u] 5)
  exact hb2.grown hg hb2.size (fun k hk => (hown.lt k hk).1)
theorem below_push {w w0 w' : World} {v : Value} {l : List UInt8} {c : UInt8} (hb : Below w.heap.size w w0) (hown : Bys w0 w.heap.size v l) (hg : (w0.alloc (.cells #[bv c] 5)).grownBy w' v.ownBlock) : Below w.heap.size w w' := by
  have hb2 := below_al hb (.cells #[bv c] 5)
  exact hb2.grown hg hb2.size (fun k hk => (hown.lt k hk).1)
end Go.Proofs.Ytfamhjmdffaphaa
