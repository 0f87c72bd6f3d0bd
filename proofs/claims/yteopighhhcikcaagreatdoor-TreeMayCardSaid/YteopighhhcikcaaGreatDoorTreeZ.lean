/- Layer 5's awake answers true. Conditions: none. -/
import Derived.Test.YteopighhhcikcaaGreatDoorTreeMath5
import Derived.Test.YteopighhhcikcaaGreatDoorTokK
/- tree.Read; layer 5's awake answers true. Conditions: the text has at most 4000 bytes. -/
namespace Go.Proofs.YteopighhhcikcaaGreatDoor
open Go.ChangeShapes Go.WideShapes Go.ChangeAt Go.RowKit Go.Shelf
namespace Tre
open Tok
open RowG (Row)
theorem readD_any (l : List UInt8) (hl : l.length ≤ 4000) (hsm : ∀ t ∈ (readP l).map tkOf, Small t) (hsz : sizeTx ((readP l).map tkOf) ≤ 10000000000000) (w : World) :
    Calls Tryz.prog 29 #[.string (toB l)] w fun e w' => BuR (build ((readP l).map tkOf)) e w' ∧ Below w.heap.size w w' := by
  have cr := fun w => Tok.read_any l hl w
  have hc := readP_cnt l
  have hn : (readP l).length ≤ 1000000 := by omega
  have HSM := Lib.hid hsm
  have HSZ := Lib.hid hsz
  generalize readP l = ts at *
  generalize toB l = s at *
  clear hsm hsz hc
  obtain ⟨RB, hRB⟩ : ∃ RB, RB = build (ts.map tkOf) := ⟨_, rfl⟩
  have HRB := Lib.hid hRB
  rw [← hRB]
  clear hRB
  go_enter Tryz.func29, Tryz.ntmps29
  go_wp2_with (first
    | (go_at_call 16; (with_reducible refine (cr _).mono ?_); rintro e w2 ⟨v, rfl, hT, hB2⟩
       obtain ⟨A2, c2, rfl, hT2⟩ := hT.tr
       have cb := build_any A2 ts.length c2 (ts.map tkOf) hn HSM.out HSZ.out w2 (TRK.of hT2)
       rw [← HRB.out] at cb)
    | (go_at_call 28; (with_reducible refine cb.mono ?_); rintro e w3 ⟨⟨A3, c3, rfl, hN⟩, hb3⟩))
  go_ret2
  exact ⟨⟨A3, c3, rfl, hN⟩, below_next hB2 hb3⟩
def exD : List UInt8 := [97, 60, 98, 62, 99, 60, 47, 98, 62]
def exN : List Nd := [⟨-1, rootT, [], [], [1, 2]⟩, ⟨0, [], [97], [], []⟩, ⟨0, [98], [], [], [3]⟩, ⟨2, [], [99], [], []⟩]
theorem exD_build : build ((readP exD).map tkOf) = (exN, 0) := by decide +kernel
theorem exD_small : ∀ t ∈ (readP exD).map tkOf, Small t := by
  have e : (readP exD).map tkOf = [⟨3, [], [97], []⟩, ⟨1, [98], [], []⟩, ⟨3, [], [99], []⟩, ⟨2, [98], [], []⟩] := by decide +kernel
  rw [e]
  intro t ht
  simp only [List.mem_cons, List.not_mem_nil, or_false] at ht
  rcases ht with rfl | rfl | rfl | rfl
  · exact ⟨by decide, by decide, fun a ha => by cases ha⟩
  · exact ⟨by decide, by decide, fun a ha => by cases ha⟩
  · exact ⟨by decide, by decide, fun a ha => by cases ha⟩
  · exact ⟨by decide, by decide, fun a ha => by cases ha⟩
theorem exD_size : sizeTx ((readP exD).map tkOf) ≤ 10000000000000 := by
  have e : (readP exD).map tkOf = [⟨3, [], [97], []⟩, ⟨1, [98], [], []⟩, ⟨3, [], [99], []⟩, ⟨2, [98], [], []⟩] := by decide +kernel
  rw [e]
  decide
theorem ex9_build : build [⟨9, [], [], []⟩] = ([], 2) := by decide +kernel
theorem exN_may : mayP exN = true := by decide +kernel
theorem exN_up3 : ((up exN 3).length : Int) - 1 = 2 := by decide +kernel
theorem exN_up9 : ((up exN 9).length : Int) - 1 = -1 := by decide +kernel
theorem exN_fit : Fit exN := by
  intro nd hnd
  simp only [exN, List.mem_cons, List.not_mem_nil, or_false] at hnd
  rcases hnd with rfl | rfl | rfl | rfl
  · exact ⟨by decide, fun a ha => (by cases ha), by decide⟩
  · exact ⟨by decide, fun a ha => (by cases ha), by decide⟩
  · exact ⟨by decide, fun a ha => (by cases ha), by decide⟩
  · exact ⟨by decide, fun a ha => (by cases ha), by decide⟩
theorem exN_cnt : ∀ nd ∈ exN, nd.attrs.length ≤ 900000 ∧ nd.kids.length ≤ 900000 := by
  intro nd hnd
  simp only [exN, List.mem_cons, List.not_mem_nil, or_false] at hnd
  rcases hnd with rfl | rfl | rfl | rfl <;> exact ⟨by decide, by decide⟩
/-- The cells of the nodes that awake writes itself. -/
def exC5 (g : Nat) : List NC := [⟨-1, ⟨#[114, 111, 111, 116]⟩, ⟨#[]⟩, none, 0, 0, some ⟨g, 0, none⟩, 2, 2⟩, ⟨0, ⟨#[]⟩, ⟨#[97]⟩, none, 0, 0, none, 0, 0⟩, ⟨0, ⟨#[98]⟩, ⟨#[]⟩, none, 0, 0, some ⟨g + 1, 0, none⟩, 1, 1⟩, ⟨2, ⟨#[]⟩, ⟨#[99]⟩, none, 0, 0, none, 0, 0⟩]
def exW (w : World) : World := ((w.alloc (.cells #[.int .i64 1, .int .i64 2] 3)).alloc (.cells #[.int .i64 3] 3)).alloc (.cells ((exC5 w.heap.size).flatMap ncC).toArray 54)
theorem exW_below (w : World) : Below w.heap.size w (exW w) := below_al (below_al (below_al (Below.refl _ _) _) _) _
theorem exW_size (w : World) : (exW w).heap.size = w.heap.size + 1 + 1 + 1 := by unfold exW; rw [size_al, size_al, size_al]
theorem exW_nr (w : World) : NR (exW w) (exW w).heap.size (some ⟨w.heap.size + 1 + 1, 0, none⟩) 4 exN := by
  have h1 := ((Blk.new w 3 #[.int .i64 1, .int .i64 2]).alloc (.cells #[.int .i64 3] 3)).alloc (.cells ((exC5 w.heap.size).flatMap ncC).toArray 54)
  have h2 := (Blk.new (w.alloc (.cells #[.int .i64 1, .int .i64 2] 3)) 3 #[.int .i64 3]).alloc (.cells ((exC5 w.heap.size).flatMap ncC).toArray 54)
  have h3 := RowG.new_cells ((w.alloc (.cells #[.int .i64 1, .int .i64 2] 3)).alloc (.cells #[.int .i64 3] 3)) 54 ((exC5 w.heap.size).flatMap ncC)
  rw [size_al] at h2
  rw [size_al, size_al] at h3
  have hz := exW_size w
  have hnil : ∀ k (A : Option Addr), Reads (exW w) (exW w).heap.size k A 0 [] := fun k A => ⟨by rw [Nat.zero_mul]; rfl, fun h => absurd h (Nat.lt_irrefl 0)⟩
  refine ⟨exC5 w.heap.size, ⟨rfl, fun _ => ⟨_, rfl, by rw [hz]; show w.heap.size + 1 + 1 < _; omega, fun j u hu => by rw [add_zero_]; exact h3 j u hu⟩⟩, rfl, fun i c nd hc hn => ?_⟩
  match i, hc, hn with
  | 0, hc, hn =>
    obtain rfl := Option.some.inj hc
    obtain rfl := Option.some.inj hn
    refine ⟨rfl, rfl, rfl, ⟨rfl, hnil _ _⟩, rfl, ⟨rfl, fun _ => ⟨_, rfl, by rw [hz]; show w.heap.size < _; omega, fun j u hu => ?_⟩⟩, Nat.le_refl _⟩
    rw [add_zero_]
    exact (h1.cell j).trans (by simpa [kidC] using hu)
  | 1, hc, hn =>
    obtain rfl := Option.some.inj hc
    obtain rfl := Option.some.inj hn
    exact ⟨rfl, rfl, rfl, ⟨rfl, hnil _ _⟩, rfl, hnil _ _, Nat.le_refl _⟩
  | 2, hc, hn =>
    obtain rfl := Option.some.inj hc
    obtain rfl := Option.some.inj hn
    refine ⟨rfl, rfl, rfl, ⟨rfl, hnil _ _⟩, rfl, ⟨rfl, fun _ => ⟨_, rfl, by rw [hz]; show w.heap.size + 1 < _; omega, fun j u hu => ?_⟩⟩, Nat.le_refl _⟩
    rw [add_zero_]
    exact (h2.cell j).trans (by simpa [kidC] using hu)
  | 3, hc, hn =>
    obtain rfl := Option.some.inj hc
    obtain rfl := Option.some.inj hn
    exact ⟨rfl, rfl, rfl, ⟨rfl, hnil _ _⟩, rfl, hnil _ _, Nat.le_refl _⟩
theorem ex9_trk (w : World) : TRK (w.alloc (.cells #[.int .i64 9, .string ⟨#[]⟩, .string ⟨#[]⟩, .slice none 0 0] 38)) (w.alloc (.cells #[.int .i64 9, .string ⟨#[]⟩, .string ⟨#[]⟩, .slice none 0 0] 38)).heap.size (some ⟨w.heap.size, 0, none⟩) 1 [⟨9, [], [], []⟩] := by
  have h1 := RowG.new_cells w 38 (tcC ⟨9, ⟨#[]⟩, ⟨#[]⟩, none, 0, 0⟩)
  refine ⟨[⟨9, ⟨#[]⟩, ⟨#[]⟩, none, 0, 0⟩], ⟨rfl, fun _ => ⟨_, rfl, by rw [size_al]; exact Nat.lt_succ_self _, fun j u hu => by rw [add_zero_]; exact h1 j u hu⟩⟩, rfl, fun i c t hc ht => ?_⟩
  match i, hc, ht with
  | 0, hc, ht =>
    obtain rfl := Option.some.inj hc
    obtain rfl := Option.some.inj ht
    exact ⟨rfl, rfl, rfl, rfl, by rfl, fun h => absurd h (Nat.lt_irrefl 0)⟩
end Tre
end Go.Proofs.YteopighhhcikcaaGreatDoor
namespace Go.Proofs.YteopighhhcikcaaGreatDoor
open Go.ChangeShapes Go.WideShapes Go.ChangeAt Go.RowKit Go.Shelf
namespace Tre
open Tok
open RowG (Row)
set_option maxRecDepth 100000 in
set_option maxHeartbeats 16000000 in
theorem awake5_any (w : World) : Calls Tryz.prog 26 #[] w fun e w' => e = .returned (.bool true) ∧ Below w.heap.size w w' := by
  have cr := fun w => readD_any exD (by decide) exD_small exD_size w
  rw [show toB exD = ⟨#[97, 60, 98, 62, 99, 60, 47, 98, 62]⟩ from rfl, exD_build] at cr
  have cr2 : ∀ w, Calls Tryz.prog 29 #[.string ⟨#[97, 60, 98, 62, 99, 60, 47, 98, 62]⟩] w fun e w' => (∃ A c, e = .returned (.tuple #[.slice A 4 c, .int .i64 0]) ∧ NR w' w'.heap.size A 4 exN) ∧ Below w.heap.size w w' := fun w => (cr w).mono (by
    rintro e w' ⟨⟨A, c, rfl, hN⟩, hb⟩
    exact ⟨⟨A, c, rfl, hN⟩, hb⟩)
  have cb := fun w' A c h => build_any A 1 c [⟨9, [], [], []⟩] (by decide) (fun t ht => by rw [List.mem_singleton] at ht; subst ht; exact ⟨by decide, by decide, fun a ha => by cases ha⟩) (by decide) w' h
  rw [ex9_build] at cb
  have cb2 : ∀ w' A c, TRK w' w'.heap.size A 1 [⟨9, [], [], []⟩] → Calls Tryz.prog 28 #[.slice A 1 c] w' fun e w'' => (∃ A c, e = .returned (.tuple #[.slice A 0 c, .int .i64 2])) ∧ Below w'.heap.size w' w'' := fun w' A c h => (cb w' A c h).mono (by
    rintro e w'' ⟨⟨A, c, rfl, -⟩, hb⟩
    exact ⟨⟨A, c, rfl⟩, hb⟩)
  clear cr cb
  have csm := fun A c A2 c2 w' h1 h2 => same_yes A 4 c A2 c2 exN (by decide) (fun nd hnd => ⟨Nat.le_trans (exN_cnt nd hnd).1 (by decide), Nat.le_trans (exN_cnt nd hnd).2 (by decide)⟩) w' h1 h2
  have cm := fun A c w' h => may_yes A 4 c exN exN_may exN_fit w' h
  have cd3 := fun A c w' h => depth_any A 4 c exN 3 (by decide) w' h
  rw [exN_up3] at cd3
  have cd9 := fun A c w' h => depth_any A 4 c exN 9 (by decide) w' h
  rw [exN_up9] at cd9
  have cc := fun A c w' h => copy_any A 4 c exN (by decide) exN_cnt w' h
  go_enter Tryz.func26, Tryz.ntmps26
  go_upto_region 3 with (first
    | (go_at_call 29; (with_reducible refine (cr2 _).mono ?_); rintro e w2 ⟨⟨A2, c2, rfl, hN2⟩, hB2⟩))
  have hx := exW_below w2
  have hN3 := hN2.next hx
  have hW3 := exW_nr w2
  have hB3 := below_next hB2 hx
  change Code.wp _ _ _ _ (exW w2)
  generalize exW w2 = W3 at *
  have h9 := ex9_trk W3
  have hb9 := below_al (Below.refl W3.heap.size W3) (.cells #[.int .i64 9, .string ⟨#[]⟩, .string ⟨#[]⟩, .slice none 0 0] 38)
  have hB4 := below_next hB3 hb9
  have hN4 := hN3.next hb9
  have hW4 := hW3.next hb9
  have cb4 := cb2 _ _ 1 h9
  clear h9 hN3 hW3 hb9 hx cr2 cb2
  go_upto_region 4 with (first
    | (go_at_call 28; (with_reducible refine cb4.mono ?_); rintro e w5 ⟨⟨A5, c5, rfl⟩, hb5⟩))
  have hB5 := below_next hB4 hb5
  have hN5 := hN4.next hb5
  have hW5 := hW4.next hb5
  have cs5 := csm A2 c2 _ 4 w5 hN5 hW5
  clear hN4 hW4 cb4
  go_wp2_with (first
    | (go_at_call 32; (with_reducible refine cs5.mono ?_); rintro e w6 ⟨rfl, hb6⟩
       have hB6 := below_next hB5 hb6
       have hN6 := hN5.next hb6
       have hW6 := hW5.next hb6
       have cm6 := cm A2 c2 w6 hN6)
    | (go_at_call 31; (with_reducible refine cm6.mono ?_); rintro e w7 ⟨rfl, hb7⟩
       have hB7 := below_next hB6 hb7
       have hN7 := hN6.next hb7
       have hW7 := hW6.next hb7
       have cd7 := cd3 A2 c2 w7 hN7.pr)
    | (go_at_call 31; (with_reducible refine (may_nil _).mono ?_); rintro e w8 ⟨rfl, rfl⟩)
    | (go_at_call 63; (with_reducible refine cd7.mono ?_); rintro e w9 ⟨rfl, hb9⟩
       have hB9 := below_next hB7 hb9
       have hN9 := hN7.next hb9
       have hW9 := hW7.next hb9
       have cd9' := cd9 A2 c2 w9 hN9.pr)
    | (go_at_call 63; (with_reducible refine cd9'.mono ?_); rintro e w10 ⟨rfl, hb10⟩
       have hB10 := below_next hB9 hb10
       have hN10 := hN9.next hb10
       have hW10 := hW9.next hb10
       have cc10 := cc A2 c2 w10 hN10)
    | (go_at_call 46; (with_reducible refine cc10.mono ?_); rintro e w11 ⟨A11, c11, rfl, hN11, hb11⟩
       have hB11 := below_next hB10 hb11
       have hW11 := hW10.next hb11
       have cs11 := csm A11 c11 _ 4 w11 hN11 hW11)
    | (go_at_call 32; (with_reducible refine cs11.mono ?_); rintro e w12 ⟨rfl, hb12⟩
       have hB12 := below_next hB11 hb12))
  go_ret
  exact ⟨rfl, hB12⟩
end Tre
end Go.Proofs.YteopighhhcikcaaGreatDoor
