/- What scan's own Blocks answers, at any text. Conditions: the text is not too long; bytealg.MaxLen holds some number. -/
import Derived.Test.YthkofdleoigajaaDoorScanIa2
import Derived.Test.YthkofdleoigajaaDoorScanAll
namespace Go.Proofs.YthkofdleoigajaaDoor
open Go.ChangeShapes Go.WideShapes Go.ChangeAt Go.RowKit Go.Shelf
theorem info116 : (Tryd.prog.info? 68).map (fun i => (i.zero, i.size)) = some (some (.agg (Array.replicate 256 (.bool false))), 256) := by kernel_rfl
theorem ia_any (s : ByteArray) (hs : s.size ≤ mostB) : blks.IaC s := by
  unfold mostB at hs
  intro t w ht _
  by_cases h8 : t.size ≤ 8
  · exact ia_short t h8 w
  · refine (Any.strings_IndexAny_long Tryd.lays153 (zero_of_info info116).1 (zero_of_info info116).2 t ⟨#[123, 125]⟩ w (by decide) (by omega) (by omega) (by decide) (ascii_of (by decide))).mono fun e w' ⟨h1, h2⟩ => ⟨h1, ?_⟩
    rw [h2]
    exact ((Below.refl _ _).alloc (Nat.le_refl _) _).alloc (by simp) _
theorem blocks_c : BlocksC := fun s w hL hs => blks.blocks_any s (ia_any s hs) w hL hs
end Go.Proofs.YthkofdleoigajaaDoor
