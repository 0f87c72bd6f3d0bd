/- Layer 4's awake answers true. Conditions: none. -/
import Derived.Test.YteopighhhcikcaaGreatDoorTokJ
import Derived.Test.YteopighhhcikcaaGreatDoorTokI
import Derived.Test.YteopighhhcikcaaGreatDoorTokH
import Derived.Test.YteopighhhcikcaaGreatDoorSgD
namespace Go.Proofs.YteopighhhcikcaaGreatDoor
open Go.ChangeShapes Go.WideShapes Go.ChangeAt Go.RowKit
namespace Tok
def ex0 : List UInt8 := [60, 80, 32, 105, 100, 61, 34, 97, 34, 62, 120, 60, 47, 112, 62, 38, 108, 116, 59, 60]
def ex1 : List T := [⟨1, [112], [], [([105, 100], [97])]⟩, ⟨3, [], [120], []⟩, ⟨2, [112], [], []⟩, ⟨3, [], [60, 60], []⟩]
theorem ex_read : readP ex0 = ex1 := by decide +kernel
theorem ex_n1 : nameB [97, 45, 49] = true := by decide +kernel
theorem ex_n2 : nameB [65] = false := by decide +kernel
theorem ex_t : Rep.tellL [38, 97, 109, 112, 59, 108, 116, 59] = [38, 108, 116, 59] := by decide +kernel
theorem ex_s : signL true [60, 34] = [38, 108, 116, 59, 38, 113, 117, 111, 116, 59] := by decide +kernel
/-- The cells of the tokens that awake writes itself. -/
def exC (g : Nat) : List TC := [⟨1, ⟨#[112]⟩, ⟨#[]⟩, some ⟨g, 0, none⟩, 1, 1⟩, ⟨3, ⟨#[]⟩, ⟨#[120]⟩, none, 0, 0⟩, ⟨2, ⟨#[112]⟩, ⟨#[]⟩, none, 0, 0⟩, ⟨3, ⟨#[]⟩, ⟨#[60, 60]⟩, none, 0, 0⟩]
theorem ex_want (w : World) : TR ((w.alloc (.cells (atC ([105, 100], [97])).toArray 41)).alloc (.cells ((exC w.heap.size).flatMap tcC).toArray 42)) ((w.alloc (.cells (atC ([105, 100], [97])).toArray 41)).alloc (.cells ((exC w.heap.size).flatMap tcC).toArray 42)).heap.size (some ⟨w.heap.size + 1, 0, none⟩) 4 ex1 := by
  have h1 := RowG.new_cells w 41 (atC ([105, 100], [97]))
  have h2 := RowG.new_cells (w.alloc (.cells (atC ([105, 100], [97])).toArray 41)) 42 ((exC w.heap.size).flatMap tcC)
  rw [size_al] at h2
  have hz : ((w.alloc (.cells (atC ([105, 100], [97])).toArray 41)).alloc (.cells ((exC w.heap.size).flatMap tcC).toArray 42)).heap.size = w.heap.size + 1 + 1 := by rw [size_al, size_al]
  rw [hz]
  refine ⟨exC w.heap.size, ⟨rfl, fun _ => ⟨_, rfl, Nat.lt_succ_self _, fun j u hu => by rw [add_zero_]; exact h2 j u hu⟩⟩, rfl, fun i c t hc ht => ?_⟩
  have hr : ∀ (A : Option Addr), Reads ((w.alloc (.cells (atC ([105, 100], [97])).toArray 41)).alloc (.cells ((exC w.heap.size).flatMap tcC).toArray 42)) (w.heap.size + 1 + 1) 2 A 0 [] := fun A => ⟨rfl, fun h => absurd h (Nat.lt_irrefl 0)⟩
  match i, hc, ht with
  | 0, hc, ht =>
    obtain rfl := Option.some.inj hc
    obtain rfl := Option.some.inj ht
    refine ⟨rfl, rfl, rfl, rfl, rfl, fun _ => ⟨_, rfl, ?_, fun j u hu => ?_⟩⟩
    · show w.heap.size < _; omega
    · rw [add_zero_]
      exact (World.cell?_alloc_lt _ _ _ (by show w.heap.size < _; rw [size_al]; exact Nat.lt_succ_self _)).trans (h1 j u hu)
  | 1, hc, ht =>
    obtain rfl := Option.some.inj hc
    obtain rfl := Option.some.inj ht
    exact ⟨rfl, rfl, rfl, rfl, hr _⟩
  | 2, hc, ht =>
    obtain rfl := Option.some.inj hc
    obtain rfl := Option.some.inj ht
    exact ⟨rfl, rfl, rfl, rfl, hr _⟩
  | 3, hc, ht =>
    obtain rfl := Option.some.inj hc
    obtain rfl := Option.some.inj ht
    exact ⟨rfl, rfl, rfl, rfl, hr _⟩
set_option maxRecDepth 100000 in
set_option maxHeartbeats 8000000 in
theorem awakeT_any (w : World) : Calls Tryz.prog 15 #[] w fun e w' => e = .returned (.bool true) ∧ Below w.heap.size w w' := by
  have cr := fun w => read_any ex0 (by decide) w
  rw [show toB ex0 = ⟨#[60, 80, 32, 105, 100, 61, 34, 97, 34, 62, 120, 60, 47, 112, 62, 38, 108, 116, 59, 60]⟩ from rfl, ex_read] at cr
  have n1 := fun w => name_any [97, 45, 49] (by decide) w
  rw [show toB [97, 45, 49] = ⟨#[97, 45, 49]⟩ from rfl, ex_n1] at n1
  have n2 := fun w => name_any [65] (by decide) w
  rw [show toB [65] = ⟨#[65]⟩ from rfl, ex_n2] at n2
  have ct := fun w => Rep.tell_any [38, 97, 109, 112, 59, 108, 116, 59] (by decide) w
  rw [show toB [38, 97, 109, 112, 59, 108, 116, 59] = ⟨#[38, 97, 109, 112, 59, 108, 116, 59]⟩ from rfl, ex_t, show toB [38, 108, 116, 59] = ⟨#[38, 108, 116, 59]⟩ from rfl] at ct
  have cs := fun w => Sg.sign_any [60, 34] true (by decide) w
  rw [show toB [60, 34] = ⟨#[60, 34]⟩ from rfl, ex_s, show toB [38, 108, 116, 59, 38, 113, 117, 111, 116, 59] = ⟨#[38, 108, 116, 59, 38, 113, 117, 111, 116, 59]⟩ from rfl] at cs
  go_enter Tryz.func15, Tryz.ntmps15
  go_wp2_with (first
    | (go_at_call 16; (with_reducible refine (cr _).mono ?_); rintro e w2 ⟨v, rfl, hT, hB2⟩
       obtain ⟨A2, c2, rfl, hT2⟩ := hT.tr
       have hb3 := below_al (below_al (Below.refl w2.heap.size w2) (.cells (atC ([105, 100], [97])).toArray 41)) (.cells ((exC w2.heap.size).flatMap tcC).toArray 42)
       have hT3 := hT2.next hb3
       have hW3 := ex_want w2
       have hB3 := below_next hB2 hb3)
    | (go_at_call 19; (refine (ownT_any A2 ex1.length c2 ex1 (by decide) _ hT3).mono ?_); rintro e w4 ⟨A4, c4, rfl, hT4, hb4⟩
       have hB4 := below_next hB3 hb4
       have hW4 := hW3.next hb4
       have csm := sameT_any A4 ex1.length c4 ex1 (some ⟨w2.heap.size + 1, 0, none⟩) 4 4 ex1 (by decide) (by decide) w4 w4.heap.size hT4 hW4)
    | (go_at_call 18; (refine csm.mono ?_); rintro e w5 ⟨rfl, q, rfl⟩
       have hB5 := below_dr hB4 q)
    | (go_at_call 20; (with_reducible refine (n1 _).mono ?_); rintro e w6 ⟨rfl, hb6⟩
       have hB6 := below_next hB5 hb6)
    | (go_at_call 20; (with_reducible refine (n2 _).mono ?_); rintro e w7 ⟨rfl, hb7⟩
       have hB7 := below_next hB6 hb7)
    | (go_at_call 22; (with_reducible refine (ct _).mono ?_); rintro e w8 ⟨rfl, hb8⟩
       have hB8 := below_next hB7 hb8)
    | (go_at_call 24; (with_reducible refine (cs _).mono ?_); rintro e w9 ⟨rfl, hb9⟩
       have hB9 := below_next hB8 hb9))
  go_ret
  exact ⟨rfl, hB9⟩
end Tok
end Go.Proofs.YteopighhhcikcaaGreatDoor
