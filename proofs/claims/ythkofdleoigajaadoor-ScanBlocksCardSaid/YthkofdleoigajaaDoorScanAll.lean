/- Layer 7's awake, over the landed code; and Blocks at a text of ASCII. Conditions: bytealg.MaxLen holds some number. -/
import Derived.Test.YthkofdleoigajaaDoorScanBlocksC
import Derived.Test.YthkofdleoigajaaDoorScanWordsC
import Derived.Test.YthkofdleoigajaaDoorScanSplitC
import Derived.Test.YthkofdleoigajaaDoorScanLowC
import Derived.Test.YthkofdleoigajaaDoorScanAwake
import Derived.Shelf.Strings.IndexAnyAll
namespace Go.Proofs.YthkofdleoigajaaDoor
open Go.ChangeShapes Go.WideShapes Go.ChangeAt Go.RowKit
theorem ia_ascii (s : ByteArray) (hs : s.size ≤ mostB) (ha : ∀ c ∈ s.data.toList, c.toNat < 128) : blks.IaC s := by
  unfold mostB at hs
  intro t w ht hm
  exact Any.strings_IndexAny_laid Tryd.lays153 (by kernel_rfl) t ⟨#[123, 125]⟩ w (by omega) (by decide) (fun j b hb => ha b (hm b (List.mem_of_getElem? hb))) (ascii_of (by decide))
theorem blocks_ascii (s : ByteArray) (hs : s.size ≤ mostB) (ha : ∀ c ∈ s.data.toList, c.toNat < 128) : BlocksAt s := fun w hL => blks.blocks_any s (ia_ascii s hs ha) w hL hs
theorem awake7_any (w : World) (hL : Lens w) : Calls Tryd.prog 7 #[] w fun e w' => e = .returned (.bool true) ∧ Below w.heap.size w w' :=
  scanAwake.awake_of strip_any trim_any lower_any partsS.split_any partsW.words_any (blocks_ascii _ (by unfold mostB; decide) (by decide)) w hL
end Go.Proofs.YthkofdleoigajaaDoor
