/- (*strings.Replacer).build and buildOnce, over the four signs. Conditions: as the theorems' premises say. -/
import Derived.Test.YteopighhhcikcaaGreatDoorRepC
namespace Go.Proofs.YteopighhhcikcaaGreatDoor
open Go.ChangeShapes Go.WideShapes Go.ChangeAt Go.RowKit
namespace Rep
set_option maxRecDepth 100000 in
set_option maxHeartbeats 8000000 in
theorem build_tell (b q cap : Nat) (w : World) (K : Blk w b 130 #[.int .u32 0, .int .i32 1, .int .u32 0, .nilIface, .slice (some ⟨q, 0, none⟩) 8 cap]) (hx : TxAt w q tellP) :
    Calls Tryz.prog 126 #[.pointer (some ⟨b, 0, none⟩)] w fun e w' => e = .returned (.iface 188 (.pointer (some ⟨w.heap.size, 0, none⟩))) ∧ GenOk w' w.heap.size ∧ Below w.heap.size w w' := by
  have k4 := K.cell 4
  have x0 : w.cell? ⟨q, 0, none⟩ = some (.string (toB [38, 108, 116, 59])) := hx.at_ rfl
  have hz : (toB [38, 108, 116, 59]).size = 4 := rfl
  have cg := gen_any tellP rfl q cap w hx
  generalize toB [38, 108, 116, 59] = key at *
  go_enter Tryz.func126, Tryz.ntmps126
  go_wp2
  refine wp_loop_rounds 1 ?_
  rw [rounds_succ]
  go_wp2_with (go_at_call 149; (with_reducible refine cg.mono ?_); rintro e w1 ⟨rfl, hG, hB⟩)
  go_ret
  exact ⟨rfl, hG, hB⟩
theorem gen_oth {w w' : World} {G b : Nat} (h : GenOk w G) (hO : Oth b w w') (hb : b < G) : GenOk w' G := by
  obtain ⟨T0, N1, A, N6, N8, hG, ⟨hT, KT, KV⟩, ⟨hA, Ka, KA, KB, KT2, KN2⟩, ⟨hN6, K6, K7⟩, ⟨hN8, K8, K9⟩⟩ := h
  have h0 := hG.1
  exact ⟨T0, N1, A, N6, N8, hG.oth hO (by omega), ⟨hT, blk_oth KT hO (by omega), blk_oth KV hO (by omega)⟩, ⟨hA, blk_oth Ka hO (by omega), blk_oth KA hO (by omega), blk_oth KB hO (by omega), blk_oth KT2 hO (by omega), blk_oth KN2 hO (by omega)⟩,
    ⟨hN6, blk_oth K6 hO (by omega), blk_oth K7 hO (by omega)⟩, ⟨hN8, blk_oth K8 hO (by omega), blk_oth K9 hO (by omega)⟩⟩
theorem gen_lt {w : World} {G : Nat} (h : GenOk w G) : G < w.heap.size := by
  obtain ⟨T0, N1, A, N6, N8, hG, _⟩ := h
  exact hG.2.lt
theorem gen_next {w w' : World} {G : Nat} (h : GenOk w G) (hb : Below w.heap.size w w') : GenOk w' G := by
  obtain ⟨T0, N1, A, N6, N8, hG, ⟨hT, KT, KV⟩, ⟨hA, Ka, KA, KB, KT2, KN2⟩, ⟨hN6, K6, K7⟩, ⟨hN8, K8, K9⟩⟩ := h
  exact ⟨T0, N1, A, N6, N8, ⟨hG.1, hG.2.next hb⟩, ⟨hT, KT.next hb, KV.next hb⟩, ⟨hA, Ka.next hb, KA.next hb, KB.next hb, KT2.next hb, KN2.next hb⟩, ⟨hN6, K6.next hb, K7.next hb⟩, ⟨hN8, K8.next hb, K9.next hb⟩⟩
/-- What a Replacer holds when the signs are built. -/
def TellR (w0 : World) (W : World) (X : Value) : Prop := ∃ G, X = .iface 188 (.pointer (some ⟨G, 0, none⟩)) ∧ GenOk W G ∧ Below w0.heap.size w0 W
set_option maxRecDepth 100000 in
set_option maxHeartbeats 8000000 in
theorem once_tell (w0 : World) (b q cap : Nat) (w : World) (hb : w0.heap.size ≤ b) (hB0 : Below w0.heap.size w0 w) (K : Blk w b 130 #[.int .u32 0, .int .i32 1, .int .u32 0, .nilIface, .slice (some ⟨q, 0, none⟩) 8 cap]) (hx : TxAt w q tellP) :
    Calls Tryz.prog 95 #[.pointer (some ⟨b, 0, none⟩)] w fun e w' => e = .returned (.tuple #[]) ∧ ∃ X, Blk w' b 130 #[.int .u32 0, .int .i32 1, .int .u32 0, X, .slice none 0 0] ∧ TellR w0 w' X := by
  have cb := build_tell b q cap w K hx
  have hlt := K.lt
  go_enter Tryz.func95, Tryz.ntmps95
  go_wp2_with (go_at_call 126; (with_reducible refine cb.mono ?_); rintro e w1 ⟨rfl, hG, hB⟩
               have K1 := K.next hB
               have k3 := K1.cell 3
               have k4 := K1.cell 4
               have f3 := K1.frozen 3
               have f4 := K1.frozen 4)
  first | go_end0 | refine bodyPost_ret (results_none rfl _ _ _) rfl ?_
  have hO : Oth b w1 ((w1.setCell ⟨b, 3, none⟩ (.iface 188 (.pointer (some ⟨w.heap.size, 0, none⟩)))).setCell ⟨b, 4, none⟩ (.slice none 0 0)) :=
    ((Oth.refl b w1).set_ (p := ⟨b, 3, none⟩) (.inl rfl) _).set_ (p := ⟨b, 4, none⟩) (.inl rfl) _
  exact ⟨rfl, _, (K1.set_ 3 _).set_ 4 _, w.heap.size, rfl, gen_oth hG hO hlt, hO.below (below_next hB0 hB) hb⟩
end Rep
end Go.Proofs.YteopighhhcikcaaGreatDoor
