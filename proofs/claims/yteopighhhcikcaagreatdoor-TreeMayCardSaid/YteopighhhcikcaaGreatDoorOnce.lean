/- sync.Once's slow road, of one goroutine: the two calls that doSlow defers, the lock, doSlow and Do, around strings.Replacer's buildOnce. Conditions: what buildOnce does is a hypothesis; the Once is not done, its lock is free. -/
import Derived.Test.YteopighhhcikcaaGreatDoorRows
import Derived.Test.YteopighhhcikcaaGreatDoorKit
import Derived.Test.YteopighhhcikcaaGreatDoorBlk
import Derived.WalkKit
import Derived.ProofKit
import Derived.OpenShut
import Derived.IntWalk
import Derived.Lib.Hide
import Derived.Outline
import Derived.Tactics
import Derived.Tactics2
import Derived.Defers
import Derived.Laws.Pointers
import Derived.Laws.LoneSync
import Derived.RegionTactic
import Derived.RegionCalls
import Derived.ChangeAlike
namespace Go.Proofs.YteopighhhcikcaaGreatDoor
open Go.ChangeShapes Go.WideShapes Go.ChangeAt Go.RowKit
namespace Once
theorem disable (w : World) : (callFunc 174 #[]).run Tryz.prog w = .ok (.value (.tuple #[])) w := run_call_mark0 Tryz.func174 (by kernel_rfl) (by kernel_rfl) (by kernel_rfl) .disable (by kernel_rfl) w
theorem enable (w : World) : (callFunc 176 #[]).run Tryz.prog w = .ok (.value (.tuple #[])) w := run_call_mark0 Tryz.func176 (by kernel_rfl) (by kernel_rfl) (by kernel_rfl) .enable (by kernel_rfl) w
theorem acquire (a : Addr) (w : World) : (callFunc 177 #[.pointer (some a)]).run Tryz.prog w = .ok (.value (.tuple #[])) w := run_call_marked Tryz.func177 (by kernel_rfl) (by kernel_rfl) (by kernel_rfl) .acquire (by kernel_rfl) a w
theorem releaseMerge (a : Addr) (w : World) : (callFunc 179 #[.pointer (some a)]).run Tryz.prog w = .ok (.value (.tuple #[])) w := run_call_marked Tryz.func179 (by kernel_rfl) (by kernel_rfl) (by kernel_rfl) .releaseMerge (by kernel_rfl) a w
/-- The Once's Store(true), as a deferred call. -/
theorem store_deferred (a : Addr) (x : Value) (u : FrameMode) (w : World) (hc : w.cell? a = some x) (hz : w.frozen? a = false) :
    CallsD Tryz.prog 147 #[.pointer (some a), .bool true] u w fun e u' w' => u' = u ∧ (e = .returned (.tuple #[]) ∧ w' = w.drew.setCell a (.int .u32 1)) := by
  have hc' : w.drew.cell? a = some x := by go_simp
  have hz' : w.drew.frozen? a = false := by go_simp
  have hst := run_call_store (P := Tryz.prog) Tryz.func163 (by kernel_rfl) (by kernel_rfl) (by kernel_rfl) (by kernel_rfl) (k := .u32) (y := 1) hc' hz'
  go_enter_d Tryz.func147, Tryz.ntmps147
  go_wp2
  go_region_calls
  all_goals (go_end0; exact ⟨rfl, rfl⟩)
set_option maxRecDepth 100000 in
set_option maxHeartbeats 4000000 in
/-- The lock, held and nobody waiting, let go, as a deferred call. -/
theorem unlock_deferred (a : Addr) (u : FrameMode) (w : World) (hc : w.cell? a = some (.int .i32 1)) (hz : w.frozen? a = false) :
    CallsD Tryz.prog 146 #[.pointer (some a)] u w fun e u' w' => u' = u ∧ (e = .returned (.tuple #[]) ∧ w' = w.setCell a (.int .i32 0)) := by
  have hd := disable
  have he := enable
  have hr := releaseMerge
  have hadd := run_call_add (P := Tryz.prog) Tryz.func180 (by kernel_rfl) (by kernel_rfl) (by kernel_rfl) .i32 (by kernel_rfl) (y := -1) (s := 0) hc hz (by simp [go_sem]; rfl)
  have hcv := run_convert_to_unsafe (P := Tryz.prog) (src := 233) (dst := 198) Tryz.underlying233 Tryz.underlying198 (by kernel_rfl) hc
  go_enter_d Tryz.func146, Tryz.ntmps146
  go_wp2
  go_end0
  go_wp2
  go_end0
  exact ⟨rfl, rfl⟩
set_option maxRecDepth 100000 in
set_option maxHeartbeats 4000000 in
/-- The lock, free, taken. -/
theorem lock_free (a : Addr) (w : World) (hc : w.cell? a = some (.int .i32 0)) (hz : w.frozen? a = false) :
    Calls Tryz.prog 145 #[.pointer (some a)] w fun e w' => e = .returned (.tuple #[]) ∧ w' = w.setCell a (.int .i32 1) := by
  have hd := disable
  have he := enable
  have ha := acquire
  have hcas := run_call_cas_hit (P := Tryz.prog) Tryz.func175 (by kernel_rfl) (by kernel_rfl) (by kernel_rfl) .i32 (by kernel_rfl) (y := 1) hc hz
  have hc' : (w.setCell a (.int .i32 1)).cell? a = some (.int .i32 1) := World.cell?_setCell_same w a _ hc
  have hcv := run_convert_to_unsafe (P := Tryz.prog) (src := 233) (dst := 198) Tryz.underlying233 Tryz.underlying198 (by kernel_rfl) hc'
  go_enter Tryz.func145, Tryz.ntmps145
  go_wp2
  first | go_end0 | (simp only [Exit.inBlock, Exit.then]; refine bodyPost_ret (results_none rfl _ _ _) rfl ?_) | refine bodyPost_ret (results_none rfl _ _ _) rfl ?_
  go_wp2
  go_end0
  exact ⟨rfl, rfl⟩
set_option maxRecDepth 100000 in
set_option maxHeartbeats 4000000 in
/-- doSlow: the lock, buildOnce, then the two deferred calls. -/
theorem slow_any (b : Nat) (N sl : Value) (R : World → Value → Prop) (w : World) (K : Blk w b 130 #[.int .u32 0, .int .i32 0, .int .u32 0, N, sl])
    (hbuild : ∀ W, Blk W b 130 #[.int .u32 0, .int .i32 1, .int .u32 0, N, sl] → W = w.setCell ⟨b, 1, none⟩ (.int .i32 1) → Calls Tryz.prog 95 #[.pointer (some ⟨b, 0, none⟩)] W fun e w' =>
      e = .returned (.tuple #[]) ∧ ∃ X, Blk w' b 130 #[.int .u32 0, .int .i32 1, .int .u32 0, X, .slice none 0 0] ∧ R w' X) :
    Calls Tryz.prog 125 #[.pointer (some ⟨b, 0, none⟩), .func (.func 95) #[.pointer (some ⟨b, 0, none⟩)] #[]] w fun e w' => e = .returned (.tuple #[]) ∧
      ∃ W0 X, Blk W0 b 130 #[.int .u32 0, .int .i32 1, .int .u32 0, X, .slice none 0 0] ∧ R W0 X ∧ w' = (W0.drew.setCell ⟨b, 0, none⟩ (.int .u32 1)).setCell ⟨b, 1, none⟩ (.int .i32 0) := by
  have K1 : Blk (w.setCell ⟨b, 1, none⟩ (.int .i32 1)) b 130 #[.int .u32 0, .int .i32 1, .int .u32 0, N, sl] := K.set_ 1 (.int .i32 1)
  have hl := run_call_load (P := Tryz.prog) Tryz.func144 (by kernel_rfl) (by kernel_rfl) (by kernel_rfl) .u32 (by kernel_rfl) (w := w.setCell ⟨b, 1, none⟩ (.int .i32 1)) (a := ⟨b, 0, none⟩) (x := 0) (K1.cell 0)
  have hb := hbuild _ K1 rfl
  have k1 := K.cell 1
  have f1 := K.frozen 1
  have hnot : ∀ (x : Bool) (w : World), (Op.unary .not (.bool x)).run Tryz.prog w = .ok (.bool (!x)) w := fun _ _ => rfl
  go_enter_defers Tryz.func125, Tryz.ntmps125
  go_wp2_with (first
    | (go_at_call 145; refine (lock_free ⟨b, 1, none⟩ _ k1 f1).mono ?_; rintro e w' ⟨rfl, rfl⟩)
    | (go_at_call 95; refine hb.mono ?_; rintro e w2 ⟨rfl, X, KX, hR⟩)
    | (go_at_call 124; go_in))
  unfold bodyPostD
  refine leaves_cons (f := 147) (args := #[.pointer (some ⟨b, 0, none⟩), .bool true]) (by simp) (by simp [go_sem]) ?_
  refine (store_deferred ⟨b, 0, none⟩ (.int .u32 0) .returning _ (KX.cell 0) (KX.frozen 0)).mono ?_
  rintro e u' w'' ⟨rfl, rfl, rfl⟩
  have K2 : Blk (w2.drew.setCell ⟨b, 0, none⟩ (.int .u32 1)) b 130 #[.int .u32 1, .int .i32 1, .int .u32 0, X, .slice none 0 0] := KX.drew.set_ 0 (.int .u32 1)
  refine leaves_cons (f := 146) (args := #[.pointer (some ⟨b, 1, none⟩)]) (by simp [settle]) (by simp [go_sem]) ?_
  refine (unlock_deferred ⟨b, 1, none⟩ _ _ (K2.cell 1) (K2.frozen 1)).mono ?_
  rintro e u' w'' ⟨rfl, rfl, rfl⟩
  simp [Leaves, settle, results, Tryz.results125]
  exact ⟨w2, X, KX, hR, rfl⟩
set_option maxRecDepth 100000 in
set_option maxHeartbeats 4000000 in
/-- Do, not yet done, the lock free. -/
theorem do_first (b : Nat) (N sl : Value) (R : World → Value → Prop) (w : World) (K : Blk w b 130 #[.int .u32 0, .int .i32 0, .int .u32 0, N, sl])
    (hbuild : ∀ W, Blk W b 130 #[.int .u32 0, .int .i32 1, .int .u32 0, N, sl] → W = w.setCell ⟨b, 1, none⟩ (.int .i32 1) → Calls Tryz.prog 95 #[.pointer (some ⟨b, 0, none⟩)] W fun e w' =>
      e = .returned (.tuple #[]) ∧ ∃ X, Blk w' b 130 #[.int .u32 0, .int .i32 1, .int .u32 0, X, .slice none 0 0] ∧ R w' X) :
    Calls Tryz.prog 94 #[.pointer (some ⟨b, 0, none⟩), .func (.func 95) #[.pointer (some ⟨b, 0, none⟩)] #[]] w fun e w' => e = .returned (.tuple #[]) ∧
      ∃ W0 X, Blk W0 b 130 #[.int .u32 0, .int .i32 1, .int .u32 0, X, .slice none 0 0] ∧ R W0 X ∧ w' = (W0.drew.setCell ⟨b, 0, none⟩ (.int .u32 1)).setCell ⟨b, 1, none⟩ (.int .i32 0) := by
  have hl := run_call_load (P := Tryz.prog) Tryz.func144 (by kernel_rfl) (by kernel_rfl) (by kernel_rfl) .u32 (by kernel_rfl) (w := w) (a := ⟨b, 0, none⟩) (x := 0) (K.cell 0)
  have hnot : ∀ (x : Bool) (w : World), (Op.unary .not (.bool x)).run Tryz.prog w = .ok (.bool (!x)) w := fun _ _ => rfl
  have hs := slow_any b N sl R w K hbuild
  clear hbuild
  go_enter Tryz.func94, Tryz.ntmps94
  go_wp2_with (first
    | (go_at_call 125; refine hs.mono ?_; rintro e w' ⟨rfl, h⟩)
    | (go_at_call 124; go_in))
  go_end0
  exact ⟨rfl, h⟩
end Once
end Go.Proofs.YteopighhhcikcaaGreatDoor
