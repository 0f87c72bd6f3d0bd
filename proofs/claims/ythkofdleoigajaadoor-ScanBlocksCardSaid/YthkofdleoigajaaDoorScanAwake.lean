/- Layer 7's awake, from what scan's functions answer. Conditions: those answers. -/
import Derived.Test.YthkofdleoigajaaDoorRx7Same
namespace Go.Proofs.YthkofdleoigajaaDoor
open Go.ChangeShapes Go.WideShapes Go.ChangeAt Go.RowKit
namespace scanAwake
theorem bytes_lt (n : Nat) (h : n ≤ 100) : n ≤ mostB := by unfold mostB; omega
theorem reads_two (w : World) (t : TypeId) (a b : Value) : Reads (w.alloc (.cells #[a, b] t)) (w.heap.size + 1) 1 (some ⟨w.heap.size, 0, none⟩) 2 [a, b] := by
  refine ⟨rfl, fun _ => ⟨_, rfl, Nat.lt_succ_self _, fun j u hu => ?_⟩⟩
  have hc := (Blk.new w t #[a, b])
  rw [add_zero_]
  rw [hc.cell j]
  match j, hu with
  | 0, hu => exact hu
  | 1, hu => exact hu
theorem bound_of {w : World} {B size n : Nat} {A : Option Addr} {xs : List Value} (h : Reads w B size A n xs) : xs.length = n * size := h.1
set_option maxHeartbeats 8000000 in
set_option maxRecDepth 100000 in
theorem awake_of (cStrip : StripC) (cTrim : TrimC) (cLower : LowerC) (cSplit : SplitC) (cWords : WordsC) (cBlocks : BlocksAt ⟨#[97, 32, 123, 32, 98, 32, 125, 32, 125, 32, 99, 32, 123, 100, 125, 32, 101, 32, 123]⟩) (w : World) (hL : Lens w) :
    Calls Tryd.prog 7 #[] w fun e w' => e = .returned (.bool true) ∧ Below w.heap.size w w' := by
  have h1 := fun w hl => cBlocks w hl
  have b1 : blocksF [97, 32, 123, 32, 98, 32, 125, 32, 125, 32, 99, 32, 123, 100, 125, 32, 101, 32, 123] = [([97], [98]), ([99], [100])] := by decide +kernel
  simp only [b1] at h1
  have h2 := fun w hl => cStrip ⟨#[97, 47, 42, 98, 42, 47, 99, 47, 42, 100]⟩ w hl (bytes_lt _ (by decide))
  have b2 : onB stripL ⟨#[97, 47, 42, 98, 42, 47, 99, 47, 42, 100]⟩ = ⟨#[97, 32, 99, 32]⟩ := by
    unfold onB
    have : stripL [97, 47, 42, 98, 42, 47, 99, 47, 42, 100] = [97, 32, 99, 32] := by simp [stripL, behind]
    simp [this]
  rw [b2] at h2
  have h3 := fun w => cTrim ⟨#[32, 97, 10]⟩ w (bytes_lt _ (by decide))
  have b3 : onB trimL ⟨#[32, 97, 10]⟩ = ⟨#[97]⟩ := by decide +kernel
  rw [b3] at h3
  have h4 := fun w => cSplit ⟨#[97, 44, 32, 98]⟩ 44 w (bytes_lt _ (by decide))
  have b4 : splitF 44 [97, 44, 32, 98] = [[97], [98]] := by decide +kernel
  simp only [b4, show (((44 : UInt8).toNat : Nat) : Int) = 44 from rfl] at h4
  have h5 := fun w => cWords ⟨#[32, 97, 32, 32, 98]⟩ w (bytes_lt _ (by decide))
  have b5 : wordsF [32, 97, 32, 32, 98] = [[97], [98]] := by decide +kernel
  simp only [b5] at h5
  have h6 := fun w => cLower ⟨#[97, 66]⟩ w (bytes_lt _ (by decide))
  have b6 : onB lowL ⟨#[97, 66]⟩ = ⟨#[97, 98]⟩ := by decide +kernel
  rw [b6] at h6
  have hs : ∀ A n c B m d k0 k1 w, Reads w k0 1 A n (strs [[97], [98]]) → Reads w k1 1 B m [.string ⟨#[97]⟩, .string ⟨#[98]⟩] → Calls Tryd.prog 14 #[.slice A n c, .slice B m d] w fun e w' => e = .returned (.bool true) ∧ ∃ q, w.drewN q = w' := by
    intro A n c B m d k0 k1 w hx hy
    have lx : n = 2 := by have := hx.1; simp [strs] at this; omega
    have ly : m = 2 := by have := hy.1; simp at this; omega
    have := rsame_any A B n c m d k0 k1 [[97], [98]] [[97], [98]] w hx hy (by omega) (by omega)
    rwa [show sameS [[97], [98]] [[97], [98]] = true from by decide +kernel] at this
  clear b1 b2 b3 b4 b5 b6 cStrip cTrim cLower cSplit cWords cBlocks
  go_enter Tryd.func7, Tryd.ntmps7
  go_wp2_with (first
    | (go_at_call 8; (with_reducible refine (h1 _ hL).mono ?_); rintro e w1 ⟨A, n, c, rfl, hr, hb1⟩
       have hn : n = 2 := by have := hr.1; simp [flatB] at this; omega
       subst hn
       obtain ⟨ad, rfl, -, hc⟩ := hr.2 (by decide)
       have e0 := hc 0 (.string ⟨#[97]⟩) rfl
       have e1 := hc 1 (.string ⟨#[98]⟩) rfl
       have e2 := hc 2 (.string ⟨#[99]⟩) rfl
       have e3 := hc 3 (.string ⟨#[100]⟩) rfl
       have z0 : ad.add 0 = ad := by unfold Addr.add; rw [if_pos rfl]
       rw [z0] at e0
       rw [add_one ad 0] at e1
       have z2 : ad.add 2 = ⟨ad.block, ad.off + 2, none⟩ := by unfold Addr.add; rw [if_neg (by omega)]
       have z3 : ad.add 3 = ⟨ad.block, ad.off + 2 + 1, none⟩ := by unfold Addr.add; rw [if_neg (by omega)]
       rw [z2] at e2
       rw [z3] at e3
       have hB := hb1
       clear hr hc hb1 z0 z2 z3)
    | (go_at_call 10; (with_reducible refine (h2 _ (hL.of hB)).mono ?_); rintro e w2 ⟨rfl, hb2⟩; replace hB := below_next hB hb2; clear hb2)
    | (go_at_call 12; (with_reducible refine (h3 _).mono ?_); rintro e w3 ⟨rfl, hb3⟩; replace hB := below_next hB hb3; clear hb3)
    | (go_at_call 15; (with_reducible refine (h4 _).mono ?_); rintro e w4 ⟨A4, n4, c4, rfl, hr4, hb4⟩; replace hB := below_next hB hb4; clear hb4)
    | (go_at_call 17; (with_reducible refine (h5 _).mono ?_); rintro e w5 ⟨A5, n5, c5, rfl, hr5, hb5⟩; replace hB := below_next hB hb5; clear hb5)
    | (go_at_call 19; (with_reducible refine (h6 _).mono ?_); rintro e w6 ⟨rfl, hb6⟩; replace hB := below_next hB hb6; clear hb6)
    | (go_at_call 14; (first | (with_reducible refine (hs _ _ _ _ _ _ _ _ _ (hr5.alloc (Nat.le_refl _) _) (reads_two _ _ _ _)).mono ?_) | (with_reducible refine (hs _ _ _ _ _ _ _ _ _ (hr4.alloc (Nat.le_refl _) _) (reads_two _ _ _ _)).mono ?_)); rintro e w7 ⟨rfl, q, rfl⟩; replace hB := below_dr (below_al hB (.cells #[.string ⟨#[97]⟩, .string ⟨#[98]⟩] 9)) q))
  go_ret
  exact ⟨rfl, hB⟩
end scanAwake
end Go.Proofs.YthkofdleoigajaaDoor
