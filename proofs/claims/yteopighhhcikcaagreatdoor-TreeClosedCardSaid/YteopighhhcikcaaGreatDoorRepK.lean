/- (*strings.Replacer).Replace over the four signs, and token.Tell. Conditions: the text is not too long. -/
import Derived.Test.YteopighhhcikcaaGreatDoorRepJ
namespace Go.Proofs.YteopighhhcikcaaGreatDoor
open Go.ChangeShapes Go.WideShapes Go.ChangeAt Go.RowKit
namespace Rep
theorem gen_set {w : World} {G b i : Nat} {cs : Array Value} (h : GenOk w G) (K : Blk w b 130 cs) (v : Value) : GenOk (w.setCell ⟨b, i, none⟩ v) G := by
  obtain ⟨T0, N1, A, N6, N8, hG, ⟨hT, KT, KV⟩, ⟨hA, Ka, KA, KB, KT2, KN2⟩, ⟨hN6, K6, K7⟩, ⟨hN8, K8, K9⟩⟩ := h
  have q := fun (g : Nat) (t : TypeId) (cs : Array Value) (h : Blk w g t cs) (h2 : t ≠ 130) => h.far (p := ⟨b, i, none⟩) (Blk.ne_ h K h2) v
  exact ⟨T0, N1, A, N6, N8, ⟨hG.1, q _ _ _ hG.2 (by decide)⟩, ⟨hT, q _ _ _ KT (by decide), q _ _ _ KV (by decide)⟩,
    ⟨hA, q _ _ _ Ka (by decide), q _ _ _ KA (by decide), q _ _ _ KB (by decide), q _ _ _ KT2 (by decide), q _ _ _ KN2 (by decide)⟩,
    ⟨hN6, q _ _ _ K6 (by decide), q _ _ _ K7 (by decide)⟩, ⟨hN8, q _ _ _ K8 (by decide), q _ _ _ K9 (by decide)⟩⟩
theorem method_rep (f G : Nat) (w : World) : (method (f + 1) 188 (.pointer (some ⟨G, 0, none⟩)) "Replace").run Tryz.prog w = .ok (214, .pointer (some ⟨G, 0, none⟩)) w := by kernel_rfl
set_option maxRecDepth 100000 in
set_option maxHeartbeats 8000000 in
theorem replace_tell (l : List UInt8) (hl : l.length ≤ 1000000) (w0 : World) (b q cap : Nat) (w : World) (hb : w0.heap.size ≤ b) (hB : Below w0.heap.size w0 w) (K : Blk w b 130 #[.int .u32 0, .int .i32 0, .int .u32 0, .nilIface, .slice (some ⟨q, 0, none⟩) 8 cap]) (hx : TxAt w q tellP) (hqb : ¬ q = b) :
    Calls Tryz.prog 61 #[.pointer (some ⟨b, 0, none⟩), .string (toB l)] w fun e w' => e = .returned (.string (toB (tellL l))) ∧ Below w0.heap.size w0 w' := by
  have cd := Once.do_first b .nilIface (.slice (some ⟨q, 0, none⟩) 8 cap) (TellR w0) w K (fun W hK hW => by
    subst hW
    exact once_tell w0 b q cap _ hb (below_set hB (p := ⟨b, 1, none⟩) hb _) hK (hx.far (p := ⟨b, 1, none⟩) hqb _))
  have hme : ∀ G w, (method 383 188 (.pointer (some ⟨G, 0, none⟩)) "Replace").run Tryz.prog w = .ok (214, .pointer (some ⟨G, 0, none⟩)) w := fun G w => method_rep 382 G w
  have hmf : ∀ (fn : Fn) (first cap : Array Value) (w : World), (Instr.makeFunc fn first cap).run Tryz.prog w = .ok (.func fn first cap) w := fun _ _ _ _ => rfl
  have cr := fun G w h => rep_any l hl G w h
  unfold ptr at cr
  generalize toB l = s at *
  clear hx
  go_enter Tryz.func61, Tryz.ntmps61
  go_wp2_with (first
    | (go_at_call 94; (with_reducible refine cd.mono ?_); rintro e w2 ⟨rfl, W0, X, KX, ⟨G, rfl, hG, hB0⟩, rfl⟩
       have K1 := KX.set_ 0 (.int .u32 1)
       have k3 := KX.cell 3
       have hG2 : GenOk ((W0.setCell ⟨b, 0, none⟩ (.int .u32 1)).setCell ⟨b, 1, none⟩ (.int .i32 0)).drew G := gen_set (i := 1) (gen_set (i := 0) hG KX (.int .u32 1)) K1 (.int .i32 0)
       have hB2 : Below w0.heap.size w0 ((W0.setCell ⟨b, 0, none⟩ (.int .u32 1)).setCell ⟨b, 1, none⟩ (.int .i32 0)).drew := (below_set (below_set hB0 (p := ⟨b, 0, none⟩) hb (.int .u32 1)) (p := ⟨b, 1, none⟩) hb (.int .i32 0)).drew)
    | (go_at_call 214; (with_reducible refine (cr _ _ hG2).mono ?_); rintro e w3 ⟨rfl, hb3⟩))
  go_ret
  exact ⟨rfl, below_next hB2 hb3⟩
theorem tx_new (w : World) (l : List (List UInt8)) (t : TypeId) : TxAt (w.alloc (.cells (strs l).toArray t)) w.heap.size l := by
  refine ⟨by rw [size_al]; exact Nat.lt_succ_self _, fun j x hj => ?_⟩
  refine ((Blk.new w t (strs l).toArray).cell j).trans ?_
  simpa using hj
set_option maxRecDepth 100000 in
set_option maxHeartbeats 8000000 in
/-- Tell answers what the four signs tell. -/
theorem tell_any (l : List UInt8) (hl : l.length ≤ 1000000) (w : World) : Calls Tryz.prog 22 #[.string (toB l)] w fun e w' => e = .returned (.string (toB (tellL l))) ∧ Below w.heap.size w w' := by
  have hT := tx_new w tellP 9
  have hB := below_al (Below.refl w.heap.size w) (.cells (strs tellP).toArray 9)
  have cn := new_any tellP (by decide) (by decide) (by decide) w.heap.size 8 (w.alloc (.cells (strs tellP).toArray 9)) hT
  have hz := size_al w (.cells (strs tellP).toArray 9)
  have cr := fun b q cap W hb hB K hx hqb => replace_tell l hl w b q cap W hb hB K hx hqb
  generalize toB l = s at *
  go_enter Tryz.func22, Tryz.ntmps22
  go_wp2_with (first
    | (go_at_call 60; (refine cn.mono ?_); rintro e w2 ⟨q, b, cap, rfl, K2, hx2, hqb, hq, hb, hb2⟩
       have hB2 := below_next hB hb2
       have hb3 : w.heap.size ≤ b := by omega
       have K3 : Blk w2 b 130 #[.int .u32 0, .int .i32 0, .int .u32 0, .nilIface, .slice (some ⟨q, 0, none⟩) 8 cap] := K2)
    | (go_at_call 61; (with_reducible refine (cr b q cap _ hb3 hB2 K3 hx2 hqb).mono ?_); rintro e w3 ⟨rfl, hB3⟩))
  go_ret
  exact ⟨rfl, hB3⟩
end Rep
end Go.Proofs.YteopighhhcikcaaGreatDoor
