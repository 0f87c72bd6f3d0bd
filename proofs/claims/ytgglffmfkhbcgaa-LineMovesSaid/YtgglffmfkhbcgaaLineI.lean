/- Layer 16's awake. Conditions: none. -/
import Derived.Test.YtgglffmfkhbcgaaLineH
namespace Go.Proofs.Ytgglffmfkhbcgaa
open Go.ChangeShapes Go.WideShapes Go.ChangeAt Go.RowKit
theorem pls_reads {w : World} {b n : Nat} {v : Value} {l : List Pl} (h : PlsO w b v l) (hl : l.length = n) : ∃ A c, v = .slice A n c ∧ Reads w w.heap.size 6 A n (flatL l) := by
  subst hl
  obtain ⟨A, c, rfl⟩ := own_form' h
  exact ⟨A, c, rfl, Reads.of_own h⟩
set_option maxHeartbeats 16000000 in
set_option maxRecDepth 100000 in
theorem lineAwake (w : World) : Calls Try.prog 10 #[] w fun e w' => e = .returned (.bool true) ∧ Below w.heap.size w w' := by
  have hr0 : Reads (w.alloc (.cells #[.int .i64 0, .int .i64 10, .int .i64 4, .int .i64 0, .string ⟨#[]⟩, .bool false, .int .i64 0, .int .i64 10, .int .i64 6, .int .i64 2, .string ⟨#[]⟩, .bool true, .int .i64 0, .int .i64 3, .int .i64 2, .int .i64 0, .string ⟨#[]⟩, .bool false] 32)) (w.alloc (.cells #[.int .i64 0, .int .i64 10, .int .i64 4, .int .i64 0, .string ⟨#[]⟩, .bool false, .int .i64 0, .int .i64 10, .int .i64 6, .int .i64 2, .string ⟨#[]⟩, .bool true, .int .i64 0, .int .i64 3, .int .i64 2, .int .i64 0, .string ⟨#[]⟩, .bool false] 32)).heap.size 6 (some ⟨w.heap.size, 0, none⟩) 3 (flatP L0) := reads_now rfl rfl
  have x1 := rowsL.fill_any (some ⟨w.heap.size, 0, none⟩) 3 3 L0 15 2 _ hr0 (by decide) (by decide)
  rw [fillH0, fillE0, fillP0] at x1
  have x2 := fun (w' : World) (h : Reads w' w'.heap.size 6 (some ⟨w.heap.size, 0, none⟩) 3 (flatP L0)) => rowsL.fill_any (some ⟨w.heap.size, 0, none⟩) 3 3 L0 (-1) 0 w' h (by decide) (by decide)
  rw [fillH1, fillE1, fillP1] at x2
  have y1 := fun (w' : World) (A : Option Addr) (c : Nat) (h : Reads w' w'.heap.size 6 A 3 (flatL P0)) => own16_any A 3 c P0 w' h (by decide)
  have y2 := fun (w' : World) (A A2 : Option Addr) (c c2 : Nat) (h : Reads w' w'.heap.size 6 A 3 (flatL P0)) (h2 : Reads w' w'.heap.size 6 A2 3 (flatL P0)) => same16_any A A2 3 c c2 _ _ P0 w' h h2 (by decide)
  have y3 := fun (w' : World) (A : Option Addr) (c : Nat) (h : Reads w' w'.heap.size 6 A 3 (flatL P0)) => wide_any A 3 c w'.heap.size P0 w' (Nat.le_refl _) h (by decide)
  rw [wideP0] at y3
  have hB0 := below_al (Below.refl w.heap.size w) (.cells #[.int .i64 0, .int .i64 10, .int .i64 4, .int .i64 0, .string ⟨#[]⟩, .bool false, .int .i64 0, .int .i64 10, .int .i64 6, .int .i64 2, .string ⟨#[]⟩, .bool true, .int .i64 0, .int .i64 3, .int .i64 2, .int .i64 0, .string ⟨#[]⟩, .bool false] 32)
  have z1 := fun (w' : World) => reads_now (w := w') (t := 52) (size := 6) (n := 3) (cs := #[.int .i64 0, .int .i64 0, .int .i64 5, .int .i64 0, .int .i64 10, .int .i64 4, .int .i64 1, .int .i64 1, .int .i64 2, .int .i64 4, .int .i64 10, .int .i64 6, .int .i64 2, .int .i64 1, .int .i64 12, .int .i64 8, .int .i64 3, .int .i64 2]) (xs := flatL P0) rfl rfl
  have HP3 := Lib.hid (show P0.length = 3 from rfl)
  generalize P0 = P0' at *
  generalize flatP L0 = L0' at *
  go_enter Try.func10, Try.ntmps10
  go_wp2_with (first
    | (go_at_call 11; (first
        | ((with_reducible refine x1.mono ?_); rintro e w1 ⟨v1, rfl, hp1, hb⟩
           have hB1 := below_next hB0 hb
           have hr1 := hr0.onward hb
           obtain ⟨A1, c1, rfl, hq1⟩ := pls_reads hp1 HP3.out
           clear hb hr0 x1 hp1)
        | ((with_reducible refine (x2 _ (hr1.alloc' _)).mono ?_); rintro e w2 ⟨v2, rfl, hp2, hb⟩
           have hB2 := below_next (below_al hB1 _) hb
           have hq2 := (hq1.alloc' _).onward hb
           have hz2 := (z1 w1).onward hb
           clear hp2 hb hq1 x2 z1 hr1)))
    | (go_at_call 25; (with_reducible refine (y1 _ _ _ hq2).mono ?_); rintro e w3 ⟨A3, c3, rfl, hq3, hb⟩
       have hB3 := below_next hB2 hb
       have hq4 := hq2.onward hb
       have hz3 := hz2.onward hb
       clear hb y1)
    | (go_at_call 24; (with_reducible refine (y2 _ _ _ _ _ hq3 hz3).mono ?_); rintro e w4 ⟨rfl, q, rfl⟩
       have hB4 := below_dr hB3 q
       have hq5 : Reads (w3.drewN q) (w3.drewN q).heap.size 6 A1 3 (flatL P0') := hq4)
    | (go_at_call 26; (with_reducible refine (y3 _ _ _ hq5).mono ?_); rintro e w5 ⟨rfl, hb⟩
       have hB5 := below_next hB4 hb))
  go_ret
  exact ⟨rfl, hB5⟩
end Go.Proofs.Ytgglffmfkhbcgaa
