/- What the landed package res's True, Size, May answer. Conditions: the list lies in memory as it is read. -/
import Derived.Test.YtibpjfeghpmoiaaResA
import Derived.Deep.QuietTactic
import Derived.Deep.RegionHeld3
namespace Go.Proofs.Ytibpjfeghpmoiaa
open Go.ChangeShapes Go.WideShapes Go.ChangeAt Go.RowKit
set_option maxHeartbeats 4000000 in
set_option maxRecDepth 100000 in
theorem true_any (A : Option Addr) (n c : Nat) (l : List Img) (a : Int) (o : Bool) (src : ByteArray) (w : World) (hr : Reads w w.heap.size 4 A n (flatI l)) (hn : n ≤ 4611686018427387904) :
    Calls Try.prog 10 #[.agg #[.slice A n c, .int .i64 a, .bool o], .string src] w fun e w' => e = .returned (.tuple #[.int .i64 (trueW l src), .int .i64 (trueH l src), .bool (trueB l src)]) ∧ Below w.heap.size w w' := by
  have hB := below_al (Below.refl w.heap.size w) (.cells #[.slice A n c, .int .i64 a, .bool o] 26)
  have K := Blk.new w 26 #[.slice A n c, .int .i64 a, .bool o]
  have hlen : l.length = n := by have := hr.1; rw [flatI_len] at this; omega
  have c1 := find_any A n c l a o src (w.alloc (.cells #[.slice A n c, .int .i64 a, .bool o] 26)) ((hr.below hB).more hB.size) hn
  unfold trueW trueH trueB
  rcases find_ways l src with ⟨h1, h2, _⟩ | ⟨k, i, h1, h2, h3, h4, _⟩
  · rw [h2]
    rw [h1] at c1
    clear h1 h2
    go_enter Try.func10, Try.ntmps10
    go_wp2_with (go_at_call 20; (with_reducible refine c1.mono ?_); rintro e w1 ⟨rfl, hb⟩)
    refine bodyPost_ret (v := .tuple #[.int .i64 0, .int .i64 0, .bool false]) (by simp [results, Try.results10, go_sem]) rfl ⟨rfl, below_next hB hb⟩
  · rw [h4]
    rw [h3] at c1
    have hkn : k < n := by have := (List.getElem?_eq_some_iff.1 h1).1; omega
    go_enter Try.func10, Try.ntmps10
    go_wp2_with (go_at_call 20; (with_reducible refine c1.mono ?_); rintro e w1 ⟨rfl, hb⟩)
    have hB1 := below_next hB hb
    have K1 := K.next hb
    obtain ⟨ad, rfl, hab, e0, e1, e2, e3⟩ := img_of (hr.below hB1) h1
    have q0 := K1.cell 0
    clear hr h1 c1 K K1 hb hB
    obtain ⟨is, iw, ih, io⟩ := i
    simp only at e0 e1 e2 e3
    go_quiet (fail)
    go_wp2
    refine bodyPost_ret (v := .tuple #[.int .i64 iw, .int .i64 ih, .bool true]) (by simp [results, Try.results10, go_sem]) rfl ⟨rfl, below_dr hB1 _⟩
theorem sall {E W W' : World} (h : (∀ b o, b < E.heap.size → W.cell? ⟨b, o, none⟩ = E.cell? ⟨b, o, none⟩) ∧ Below E.heap.size E W) (hb : Below W.heap.size W W') :
    (∀ b o, b < E.heap.size → W'.cell? ⟨b, o, none⟩ = E.cell? ⟨b, o, none⟩) ∧ Below E.heap.size E W' :=
  ⟨fun b o hlt => (hb.cell (p := ⟨b, o, none⟩) (Nat.lt_of_lt_of_le hlt h.2.size)).trans (h.1 b o hlt), below_next h.2 hb⟩
end Go.Proofs.Ytibpjfeghpmoiaa
