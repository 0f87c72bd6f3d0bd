/- A small fact for ResTurned's walk. Conditions: none. -/
import Derived.Test.YtibpjfeghpmoiaaBlk
namespace Go.Proofs.Ytibpjfeghpmoiaa
open Go.RowKit
theorem sset {W : World} {g g7 i j : Nat} {ad : Addr} {u v x : Value} (h1 : g ≠ g7) (h2 : g ≠ ad.block) (h : W.cell? ⟨g7, 0, none⟩ = some u ∧ W.cell? (ad.add i) = some v ∧ W.cell? ⟨ad.block, ad.off + j, none⟩ = some x) (k : Nat) (y : Value) :
    (W.setCell ⟨g, k, none⟩ y).cell? ⟨g7, 0, none⟩ = some u ∧ (W.setCell ⟨g, k, none⟩ y).cell? (ad.add i) = some v ∧ (W.setCell ⟨g, k, none⟩ y).cell? ⟨ad.block, ad.off + j, none⟩ = some x := by
  refine ⟨(World.cell?_setCell_other W ⟨g, k, none⟩ _ y (fun e => ?_)).trans h.1, (World.cell?_setCell_other W ⟨g, k, none⟩ _ y (fun e => ?_)).trans h.2.1, (World.cell?_setCell_other W ⟨g, k, none⟩ _ y (fun e => ?_)).trans h.2.2⟩
  · have := congrArg Addr.block e; dsimp only at this; omega
  · have := congrArg Addr.block e; rw [block_of_add] at this; dsimp only at this; omega
  · have := congrArg Addr.block e; dsimp only at this; omega
end Go.Proofs.Ytibpjfeghpmoiaa
