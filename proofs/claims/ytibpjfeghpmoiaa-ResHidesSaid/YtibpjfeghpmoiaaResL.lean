/- What awake of layer 13's laws answers. Conditions: none. -/
import Derived.Test.YtibpjfeghpmoiaaResE
import Derived.Test.YtibpjfeghpmoiaaResJ
namespace Go.Proofs.Ytibpjfeghpmoiaa
open Go.ChangeShapes Go.WideShapes Go.ChangeAt Go.RowKit
namespace resAwake
def L0 : List Img := [⟨⟨#[117]⟩, 10, 20, false⟩, ⟨⟨#[118]⟩, 3, 4, true⟩]
theorem s1 : sizeW L0 ⟨#[117]⟩ = 1024 ∧ sizeH L0 ⟨#[117]⟩ = 1024 ∧ trueB L0 ⟨#[117]⟩ = true := by decide
theorem s2 : trueW L0 ⟨#[117]⟩ = 10 ∧ trueH L0 ⟨#[117]⟩ = 20 := by decide
theorem s3 : sizeW L0 ⟨#[118]⟩ = 3 ∧ sizeH L0 ⟨#[118]⟩ = 4 ∧ trueB L0 ⟨#[118]⟩ = true := by decide
theorem s4 : sizeW L0 ⟨#[119]⟩ = 0 ∧ sizeH L0 ⟨#[119]⟩ = 0 ∧ trueB L0 ⟨#[119]⟩ = false := by decide
theorem s5 : mayT L0 40 = true := by decide
theorem s6 : likeT L0 40 false (L0.map pubI) 0 false = true := by decide
set_option maxHeartbeats 16000000 in
set_option maxRecDepth 100000 in
theorem awake_any (w : World) : Calls Try.prog 6 #[] w fun e w' => e = .returned (.bool true) ∧ Below w.heap.size w w' := by
  have hB := below_al (below_al (Below.refl w.heap.size w) (.cells #[.string ⟨#[117]⟩, .int .i64 10, .int .i64 20, .bool false, .string ⟨#[118]⟩, .int .i64 3, .int .i64 4, .bool true] 47)) (.cells #[.slice (some ⟨w.heap.size, 0, none⟩) 2 2, .int .i64 40, .bool false] 26)
  have Ki := (Blk.new w 47 #[.string ⟨#[117]⟩, .int .i64 10, .int .i64 20, .bool false, .string ⟨#[118]⟩, .int .i64 3, .int .i64 4, .bool true]).alloc (.cells #[.slice (some ⟨w.heap.size, 0, none⟩) 2 2, .int .i64 40, .bool false] 26)
  have Kt := Blk.new (w.alloc (.cells #[.string ⟨#[117]⟩, .int .i64 10, .int .i64 20, .bool false, .string ⟨#[118]⟩, .int .i64 3, .int .i64 4, .bool true] 47)) 26 #[.slice (some ⟨w.heap.size, 0, none⟩) 2 2, .int .i64 40, .bool false]
  rw [size_al] at Kt
  have hr : Reads ((w.alloc (.cells #[.string ⟨#[117]⟩, .int .i64 10, .int .i64 20, .bool false, .string ⟨#[118]⟩, .int .i64 3, .int .i64 4, .bool true] 47)).alloc (.cells #[.slice (some ⟨w.heap.size, 0, none⟩) 2 2, .int .i64 40, .bool false] 26)) ((w.alloc (.cells #[.string ⟨#[117]⟩, .int .i64 10, .int .i64 20, .bool false, .string ⟨#[118]⟩, .int .i64 3, .int .i64 4, .bool true] 47)).alloc (.cells #[.slice (some ⟨w.heap.size, 0, none⟩) 2 2, .int .i64 40, .bool false] 26)).heap.size 4 (some ⟨w.heap.size, 0, none⟩) 2 (flatI L0) := reads_blk Ki Ki.lt rfl
  have rd : ∀ w0, Below ((w.alloc (.cells #[.string ⟨#[117]⟩, .int .i64 10, .int .i64 20, .bool false, .string ⟨#[118]⟩, .int .i64 3, .int .i64 4, .bool true] 47)).alloc (.cells #[.slice (some ⟨w.heap.size, 0, none⟩) 2 2, .int .i64 40, .bool false] 26)).heap.size ((w.alloc (.cells #[.string ⟨#[117]⟩, .int .i64 10, .int .i64 20, .bool false, .string ⟨#[118]⟩, .int .i64 3, .int .i64 4, .bool true] 47)).alloc (.cells #[.slice (some ⟨w.heap.size, 0, none⟩) 2 2, .int .i64 40, .bool false] 26)) w0 → Reads w0 w0.heap.size 4 (some ⟨w.heap.size, 0, none⟩) 2 (flatI L0) := fun w0 h => (hr.below h).more h.size
  have c1 := fun w0 h => size_any _ 2 2 L0 40 false ⟨#[117]⟩ w0 (rd w0 h) (by omega)
  have c2 := fun w0 h => true_any _ 2 2 L0 40 false ⟨#[117]⟩ w0 (rd w0 h) (by omega)
  have c3 := fun w0 h => size_any _ 2 2 L0 40 false ⟨#[118]⟩ w0 (rd w0 h) (by omega)
  have c4 := fun w0 h => size_any _ 2 2 L0 40 false ⟨#[119]⟩ w0 (rd w0 h) (by omega)
  have c5 := fun w0 h => public_any _ 2 2 L0 40 false w0 (rd w0 h) (by omega)
  have c6 := fun w0 => adv_any (some ⟨w.heap.size, 0, none⟩) 2 2 40 false w0
  have c7 := fun w0 h => may_any _ 2 2 L0 40 false w0 (rd w0 h) (by omega)
  have c8 := fun A' c' w0 h h2 => alike_any _ 2 2 L0 40 false A' 2 c' (L0.map pubI) 0 false w0 (rd w0 h) h2 (by omega) (by omega)
  rw [s1.1, s1.2.1, s1.2.2] at c1
  rw [s2.1, s2.2, s1.2.2] at c2
  rw [s3.1, s3.2.1, s3.2.2] at c3
  rw [s4.1, s4.2.1, s4.2.2] at c4
  rw [s5] at c7
  rw [s6] at c8
  rw [show pubA 40 false = 0 from rfl] at c5
  rw [show advR 40 false = 32 from rfl] at c6
  go_enter Try.func6, Try.ntmps6
  have p0 := Kt.cell 0
  have p1 := Kt.cell 1
  have p2 := Kt.cell 2
  go_wp2_with (first
    | (go_at_call 8; (with_reducible refine (c1 _ (Below.refl _ _)).mono ?_); rintro e w1 ⟨rfl, hb⟩
       have hB1 := hb
       have K1 := Kt.next hb
       clear p0 p1 p2 hb
       have p0 := K1.cell 0
       have p1 := K1.cell 1
       have p2 := K1.cell 2)
    | (go_at_call 10; (with_reducible refine (c2 _ hB1).mono ?_); rintro e w2 ⟨rfl, hb⟩
       have hB2 := below_next hB1 hb
       have K2 := K1.next hb
       clear p0 p1 p2 hb
       have p0 := K2.cell 0
       have p1 := K2.cell 1
       have p2 := K2.cell 2)
    | (go_at_call 8; (with_reducible refine (c3 _ hB2).mono ?_); rintro e w3 ⟨rfl, hb⟩
       have hB3 := below_next hB2 hb
       have K3 := K2.next hb
       clear p0 p1 p2 hb
       have p0 := K3.cell 0
       have p1 := K3.cell 1
       have p2 := K3.cell 2)
    | (go_at_call 8; (with_reducible refine (c4 _ hB3).mono ?_); rintro e w4 ⟨rfl, hb⟩
       have hB4 := below_next hB3 hb
       have K4 := K3.next hb
       clear p0 p1 p2 hb
       have p0 := K4.cell 0
       have p1 := K4.cell 1
       have p2 := K4.cell 2)
    | (go_at_call 17; (with_reducible refine (c5 _ hB4).mono ?_); rintro e w5 ⟨A', c', rfl, hrp, hb⟩
       have hB5 := below_al (below_next hB4 hb) (.cells #[.slice A' 2 c', .int .i64 0, .bool false] 26)
       have K5 := (K4.next hb).alloc (.cells #[.slice A' 2 c', .int .i64 0, .bool false] 26)
       have Q5 := Blk.new w5 26 #[.slice A' 2 c', .int .i64 0, .bool false]
       have hrp5 := Reads.alloc hrp (Nat.le_refl _) (.cells #[.slice A' 2 c', .int .i64 0, .bool false] 26)
       clear p0 p1 p2
       have p0 := (K4.next hb).cell 0
       have p1 := (K4.next hb).cell 1
       have p2 := (K4.next hb).cell 2
       have z5 := (K4.next hb).lt
       have n5 := Nat.ne_of_lt z5)
    | (go_at_call 14; (with_reducible refine (c6 _).mono ?_); rintro e w6 ⟨rfl, hb⟩
       have hB6 := below_next hB5 hb
       have K6 := K5.next hb
       have Q6 := Q5.next hb
       have hrp6 := Reads.more (B' := w6.heap.size) (hrp5.below (hb.mono (by rw [size_al]; omega))) (by have := hb.size; rw [size_al] at this; omega)
       clear p0 p1 p2 z5 n5
       have p0 := K6.cell 0
       have p1 := K6.cell 1
       have p2 := K6.cell 2)
    | (go_at_call 12; (with_reducible refine (c7 _ hB6).mono ?_); rintro e w7 ⟨rfl, hb⟩
       have hB7 := below_next hB6 hb
       have K7 := K6.next hb
       have Q7 := Q6.next hb
       have hrp7 := (hrp6.below hb).more hb.size
       clear p0 p1 p2 hb
       have p0 := K7.cell 0
       have p1 := K7.cell 1
       have p2 := K7.cell 2
       have q0 := Q7.cell 0
       have q1 := Q7.cell 1
       have q2 := Q7.cell 2
       obtain ⟨ad, rfl, hab, g0, g1, g2, g3⟩ := img_of (l := L0.map pubI) (k := 0) hrp7 rfl
       rw [show ad.add (0 * 4) = ad from by unfold Addr.add; rw [if_pos rfl]] at g0 g1 g2 g3
       obtain ⟨k0, k1, k2, k3⟩ := img_at (l := L0.map pubI) (k := 1) hrp7 rfl
       rw [show ad.add (1 * 4) = ⟨ad.block, ad.off + 4, none⟩ from by unfold Addr.add; rw [if_neg (by decide)]] at k0 k1 k2 k3
       have g1' : w7.cell? ⟨ad.block, ad.off + 1, none⟩ = some (.int .i64 0) := g1
       have k1' : w7.cell? ⟨ad.block, ad.off + 4 + 1, none⟩ = some (.int .i64 3) := k1
       clear g0 g1 g2 g3 k0 k1 k2 k3)
    | (go_at_call 19; (with_reducible refine (c8 (some ad) c' _ hB7 hrp7).mono ?_); rintro e w8 ⟨rfl, hb⟩
       have hB8 := below_next hB7 hb))
  go_ret
  exact ⟨rfl, below_next hB hB8⟩
end resAwake
end Go.Proofs.Ytibpjfeghpmoiaa
