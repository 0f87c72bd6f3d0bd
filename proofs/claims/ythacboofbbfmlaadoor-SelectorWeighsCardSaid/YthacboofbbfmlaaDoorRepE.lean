/- (*strings.trieNode).add, where a node is turned into a table of two. Conditions: as the theorem's premises say. -/
import Derived.Test.YthacboofbbfmlaaDoorRepD
namespace Go.Proofs.YthacboofbbfmlaaDoor
open Go.ChangeShapes Go.WideShapes Go.ChangeAt Go.RowKit
namespace Rep
theorem Oth.cell {a : Nat} {w W : World} (h : Oth a w W) {g o : Nat} (hg : g < w.heap.size) (hn : ¬ g = a) : W.cell? ⟨g, o, none⟩ = w.cell? ⟨g, o, none⟩ := by
  have := h.block g hg hn
  simp only [World.cell?, this]
theorem tab_zero : madeCells (Value.pointer none).cells 11 = tabC nilP := by kernel_rfl
end Rep
end Go.Proofs.YthacboofbbfmlaaDoor
