/- Layer 18's awake. Conditions: none. -/
import Derived.Test.YtnjnkcjhhgffjaaFlexSame
namespace Go.Proofs.Ytnjnkcjhhgffjaa
open Go.ChangeShapes Go.WideShapes Go.ChangeAt Go.RowKit
theorem shareA : shareL [⟨20, 0, 64, 0⟩, ⟨30, 0, 64, 0⟩] 100 = ([45, 55], true) := by decide +kernel
theorem shareB : shareL [⟨10, 0, 0, 576⟩, ⟨100, 0, 0, 64⟩] 50 = ([0, 50], true) := by decide +kernel
theorem justA : justL [10, 20, 30] 71 3 = ([0, 15, 40], true) := by decide +kernel
theorem orderA : orderS [2, 1, 2, 1] = [1, 3, 0, 2] := by decide +kernel
theorem reads_now {w : World} {t : TypeId} {size n : Nat} {cs : Array Value} {xs : List Value} (hx : cs.toList = xs) (hn : cs.size = n * size) : Reads (w.alloc (.cells cs t)) (w.alloc (.cells cs t)).heap.size size (some ⟨w.heap.size, 0, none⟩) n xs := by
  subst hx
  exact reads_blk (Blk.new w t cs) (by rw [size_al]; exact Nat.lt_succ_self _) hn
theorem Reads.onward {w w' : World} {size n : Nat} {A : Option Addr} {xs : List Value} (h : Reads w w.heap.size size A n xs) (hb : Below w.heap.size w w') : Reads w' w'.heap.size size A n xs := (h.below hb).more hb.size
theorem Reads.alloc' {w : World} {size n : Nat} {A : Option Addr} {xs : List Value} (h : Reads w w.heap.size size A n xs) (o : Obj) : Reads (w.alloc o) (w.alloc o).heap.size size A n xs := (h.alloc (Nat.le_refl _) o).more (by rw [size_al]; omega)
theorem Reads.dr {w : World} {size n : Nat} {A : Option Addr} {xs : List Value} (h : Reads w w.heap.size size A n xs) (k : Nat) : Reads (w.drewN k) (w.drewN k).heap.size size A n xs := h
theorem to_below {P : Program} {f : FuncId} {args : Array Value} {w : World} {b : Bool} (h : Calls P f args w fun e w' => e = .returned (.bool b) ∧ ∃ q, w' = w.drewN q) : Calls P f args w fun e w' => e = .returned (.bool b) ∧ Below w.heap.size w w' :=
  h.mono fun _ _ ⟨h1, q, h2⟩ => ⟨h1, by rw [h2]; exact below_dr (Below.refl _ _) q⟩
set_option maxHeartbeats 8000000 in
set_option maxRecDepth 100000 in
theorem flexAwake (w : World) : Calls Try.prog 20 #[] w fun e w' => e = .returned (.bool true) ∧ Below w.heap.size w w' := by
  have x1 := fun (w : World) => share_any (some ⟨w.heap.size, 0, none⟩) 2 2 [⟨20, 0, 64, 0⟩, ⟨30, 0, 64, 0⟩] 100 (w.alloc (.cells #[.int .i64 20, .int .i64 0, .int .i64 64, .int .i64 0, .int .i64 30, .int .i64 0, .int .i64 64, .int .i64 0] 61)) (reads_now rfl rfl)
  have x2 := fun (w : World) => share_any (some ⟨w.heap.size, 0, none⟩) 2 2 [⟨10, 0, 0, 576⟩, ⟨100, 0, 0, 64⟩] 50 (w.alloc (.cells #[.int .i64 10, .int .i64 0, .int .i64 0, .int .i64 576, .int .i64 100, .int .i64 0, .int .i64 0, .int .i64 64] 61)) (reads_now rfl rfl)
  have x3 := fun (w : World) => justify_any (some ⟨w.heap.size, 0, none⟩) 3 3 [10, 20, 30] 71 3 (w.alloc (.cells #[.int .i64 10, .int .i64 20, .int .i64 30] 2)) (reads_now rfl rfl) (by decide)
  have x4 := fun (w : World) => order_small (some ⟨w.heap.size, 0, none⟩) 4 4 [2, 1, 2, 1] (w.alloc (.cells #[.int .i64 2, .int .i64 1, .int .i64 2, .int .i64 1] 2)) (reads_now rfl rfl) (by decide) (by decide)
  simp only [shareA, List.length_cons, List.length_nil, Nat.zero_add, Nat.reduceAdd] at x1
  simp only [shareB, List.length_cons, List.length_nil, Nat.zero_add, Nat.reduceAdd] at x2
  simp only [justA] at x3
  rw [orderA] at x4
  have s1 := fun (A : Option Addr) (c : Nat) (w : World) (h : Reads w w.heap.size 1 A 2 ([45, 55].map (Value.int .i64))) => to_below (same_any A (some ⟨w.heap.size, 0, none⟩) 2 2 c 2 _ _ [45, 55] [45, 55] (w.alloc (.cells #[.int .i64 45, .int .i64 55] 2)) (h.alloc' _) (reads_now rfl rfl) (by decide) (by decide))
  have s2 := fun (A : Option Addr) (c : Nat) (w : World) (h : Reads w w.heap.size 1 A 2 ([0, 50].map (Value.int .i64))) => to_below (same_any A (some ⟨w.heap.size, 0, none⟩) 2 2 c 2 _ _ [0, 50] [0, 50] (w.alloc (.cells #[.int .i64 0, .int .i64 50] 2)) (h.alloc' _) (reads_now rfl rfl) (by decide) (by decide))
  have s3 := fun (A : Option Addr) (c : Nat) (w : World) (h : Reads w w.heap.size 1 A 3 ([0, 15, 40].map (Value.int .i64))) => to_below (same_any A (some ⟨w.heap.size, 0, none⟩) 3 3 c 3 _ _ [0, 15, 40] [0, 15, 40] (w.alloc (.cells #[.int .i64 0, .int .i64 15, .int .i64 40] 2)) (h.alloc' _) (reads_now rfl rfl) (by decide) (by decide))
  have s4 := fun (A : Option Addr) (c : Nat) (w : World) (h : Reads w w.heap.size 1 A 4 ([1, 3, 0, 2].map (Value.int .i64))) => to_below (same11_any A (some ⟨w.heap.size, 0, none⟩) 4 4 c 4 _ _ [1, 3, 0, 2] [1, 3, 0, 2] (w.alloc (.cells #[.int .i64 1, .int .i64 3, .int .i64 0, .int .i64 2] 3)) (h.alloc' _) (reads_now rfl rfl) (by decide) (by decide))
  simp only [decide_true] at s1 s2 s3 s4
  have hB0 := Below.refl w.heap.size w
  go_enter Try.func20, Try.ntmps20
  go_wp2_with (first
    | (go_at_call 21; (first
        | ((with_reducible refine (x1 _).mono ?_); rintro e w1 ⟨A1, c1, rfl, hr1, hb⟩
           have hB1 := below_next (below_al hB0 _) hb
           clear hb)
        | ((with_reducible refine (x2 _).mono ?_); rintro e w2 ⟨A2, c2, rfl, hr2, hb⟩
           have hB2 := below_next (below_al hB1 _) hb
           have hr12 := (hr1.alloc' _).onward hb
           clear hb)))
    | (go_at_call 24; (with_reducible refine (x3 _).mono ?_); rintro e w3 ⟨A3, c3, rfl, hr3, hb⟩
       have hB3 := below_next (below_al hB2 _) hb
       have hr13 := (hr12.alloc' _).onward hb
       have hr23 := (hr2.alloc' _).onward hb
       clear hb)
    | (go_at_call 28; (with_reducible refine (x4 _).mono ?_); rintro e w4 ⟨A4, c4, rfl, hr4, hb⟩
       have hB4 := below_next (below_al hB6 _) hb
       clear hb)
    | (go_at_call 26; (first
        | ((with_reducible refine (s1 _ _ _ hr13).mono ?_); rintro e w5 ⟨rfl, hb⟩
           have hB5 := below_next (below_al hB3 _) hb
           have hr25 := (hr23.alloc' _).onward hb
           have hr35 := (hr3.alloc' _).onward hb
           clear hb)
        | ((with_reducible refine (s2 _ _ _ hr25).mono ?_); rintro e w6 ⟨rfl, hb⟩
           have hB6' := below_next (below_al hB5 _) hb
           have hr36 := (hr35.alloc' _).onward hb
           clear hb)
        | ((with_reducible refine (s3 _ _ _ hr36).mono ?_); rintro e w7 ⟨rfl, hb⟩
           have hB6 := below_next (below_al hB6' _) hb
           clear hb)))
    | (go_at_call 27; (with_reducible refine (s4 _ _ _ hr4).mono ?_); rintro e w8 ⟨rfl, hb⟩
       have hB7 := below_next (below_al hB4 _) hb))
  go_ret
  exact ⟨rfl, hB7⟩
end Go.Proofs.Ytnjnkcjhhgffjaa
