/- Rows.ScanBlocksSaid: the row's step. Conditions: none beyond the row's own. -/
import Derived.Test.YthkofdleoigajaaDoorScanBlocks
import Derived.Test.YthkofdleoigajaaDoorScanAll2
import Derived.Test.YthkofdleoigajaaDoorOpenB
import Derived.Test.YthkofdleoigajaaDoorTie
import Derived.Test.YthkofdleoigajaaDoorCards
import Derived.Test.YthkofdleoigajaaDoorLawT
import Derived.Test.YthkofdleoigajaaDoorLens
import Derived.Test.YthkofdleoigajaaDoorOpen
import Derived.Test.YthkofdleoigajaaDoorLaw
import Derived.WalkLawsBesides
namespace Go.Proofs.YthkofdleoigajaaDoor
open Go.ChangeShapes Go.WideShapes Go.ChangeAt Go.RowKit
namespace scanBlocks
/-! ### the row's step -/
theorem own : ownKnob Tryd.prog.godebug = none := by kernel_rfl
theorem laidOut : laidOutB Tryd.prog = true := by kernel_rfl
theorem rec_blks : Tryd.prog.readableRec 23 = true ∧ 23 < Tryd.prog.types.size := ⟨by kernel_rfl, of_decide_eq_true (by kernel_rfl)⟩
theorem cells_blk : Tryd.prog.cellsOf 29 = 2 := by kernel_rfl
theorem bytes_blk : Tryd.prog.bytesOf 29 = 32 := by kernel_rfl
set_option maxRecDepth 100000 in
theorem lifted (os : Os) (started : os.Started) (H : Type) (enc : TypeId × Value → H) :
    ReturnsInHanded {} Tryd.checked os 6 .any (fun w args => (Rows.scanBlocksSpec.pre enc Tryd.prog Tryd.f6 Rows.scanBlocksRow.domain false w args ∧ laidMetH Tryd.prog Rows.scanBlocksRow.laid w) ∧ sizedMet enc Tryd.prog Tryd.f6 (OpenSpec.ofChange Rows.scanBlocksSpec) false w args) (Rows.scanBlocksSpec.post enc Tryd.prog Tryd.f6 false true false false) := by
  refine law_liftedT (C := Tryd.checked) (enc := enc) (laid := Rows.scanBlocksRow.laid) own started (by kernel_rfl) Tryd.func6
    (ChangeSpec.witness_shaped (enc := enc) (C := Tryd.checked) (os := os) (X := fun w _ => laidMetH Tryd.prog Rows.scanBlocksRow.laid w) false (World.laidAll Tryd.prog os Rows.scanBlocksRow.laid) #[.slice none 0 0] 8 (World.laidAll_os _ _ _)
      (World.shaped_of_ZipB (by kernel_rfl) (by kernel_rfl)) (by kernel_rfl) (by kernel_rfl) (by kernel_rfl) (by rw [MakeChecks.laidMetH_plain _ _ _ (by kernel_rfl)]; exact laidMet_laidAll _ (by kernel_rfl) (by kernel_rfl)))
    laidOut ?_ rfl Tryd.underlying4 rfl ?_ ?_
  · intro t ht
    rw [Tryd.params6] at ht
    simp only [List.mem_cons, List.not_mem_nil, or_false] at ht
    obtain rfl := ht
    exact rec_blks
  · intro ds h
    match ds, h with
    | [d0], _ => exact ⟨rfl, rfl, rfl⟩
  · intro W base args ds p hval0 hA0 hlt hsz hLaid hsh
    have hval : ∀ (j : Nat) t v, Tryd.f6.params[j]? = some t → args[j]? = some v → Value.okWide Tryd.prog W .any base t v := hval0
    have hA : DataW.TrodAll enc Tryd.prog W 0 (fun _ => true) true Tryd.f6.params.toList args.toList ds p := hA0
    rw [Tryd.params6] at hA hval
    obtain ⟨v0, vs0, d0, ds0, p0, q0, hargs, rfl, rfl, h0, r0⟩ := trodAll_cons hA
    obtain ⟨rfl, rfl, rfl⟩ := trodAll_nil r0
    obtain rfl : args = #[v0] := by cases args; simp_all
    obtain ⟨A0, n0, c0, l0, rfl, m0, R0, W0⟩ := open_blks Tryd.underlying23 Tryd.underlying29 (by kernel_rfl) cells_blk Tryd.underlying9 Tryd.underlying9 (hval 0 23 v0 rfl rfl) h0 bytes_blk (j := 0) hsz (by rw [Tryd.params6]; rfl) rfl
    exact walk awake7_any trim_any blocks_c A0 n0 c0 l0 W (lens_of W hsh) (by omega) R0 W0
theorem over : Rows.scanBlocksRow.holds Tryd.pinned (OpenSpec.ofChange Rows.scanBlocksSpec) :=
  OpenClaim.holds_of_wide 6 Tryd.f6 rfl rfl rfl rfl rfl rfl rfl ⟨rfl, rfl, rfl, rfl, rfl⟩ rfl rfl rfl rfl rfl (by kernel_rfl) Tryd.func6 (by kernel_rfl)
    (of_decide_eq_true (by kernel_rfl)) (by unfold Func.isWrapper; first | (rw [if_pos (by decide +kernel)]; kernel_rfl) | (rw [if_neg (by decide +kernel)]; exact ⟨rfl, rfl⟩))
    (fun os started H enc _ => lifted os started H enc)
/-- The statement. -/
theorem proved : Rows.ScanBlocksCardSaid :=
  Claim7.holds_tied_plain_at .later [] [.data, .pinned] true (true, "b2700bdadca7e466fd4104c373aa153ed13038e61b4c93d0a4513e3fd5ff73d4") false over (fun _ h => by cases h) (by kernel_rfl) (fun _ h => by cases h) scanBlocks_row_tie rfl ⟨rfl, rfl⟩ (by kernel_rfl) rfl
    (fun f fn hf hfn => by
      obtain rfl : f = 6 := Option.some.inj ((show Tryd.prog.funcNamed "scrim/scrimlaw07.ScanBlocks" = some 6 by kernel_rfl).symm.trans hf) |>.symm
      obtain rfl : fn = Tryd.f6 := (Option.some.inj (Tryd.func6.symm.trans hfn)).symm
      exact ⟨by kernel_rfl, fun j t ht => by
        rw [Tryd.params6] at ht
        have hm : t ∈ [23] := by simpa using Array.mem_of_getElem? ht
        have hall : ([23].all fun u => !Tryd.prog.wantsStandIn u) = true := by kernel_rfl
        exact (show Tryd.prog.wantsStandIn t = false by simpa using List.all_eq_true.1 hall t hm)⟩)
    (by kernel_rfl)
end scanBlocks
end Go.Proofs.YthkofdleoigajaaDoor
