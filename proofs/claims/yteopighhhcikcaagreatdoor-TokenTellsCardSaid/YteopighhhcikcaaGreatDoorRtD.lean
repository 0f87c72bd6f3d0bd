/- The reference's Tell. Conditions: texts up to 5000 bytes. -/
import Derived.Test.YteopighhhcikcaaGreatDoorRtC
import Derived.Test.YteopighhhcikcaaGreatDoorRepH
import Derived.LoopN
namespace Go.Proofs.YteopighhhcikcaaGreatDoor
open Go.ChangeShapes Go.WideShapes Go.ChangeAt Go.RowKit
namespace Rt
open Tok Rep
theorem pre_two {a x y : UInt8} {s t l : List UInt8} (h1 : (a :: x :: s).isPrefixOf l = true) (h2 : (a :: y :: t).isPrefixOf l = true) : x = y := by
  obtain ⟨r1, e1⟩ := List.isPrefixOf_iff_prefix.1 h1
  obtain ⟨r2, e2⟩ := List.isPrefixOf_iff_prefix.1 h2
  rw [← e2] at e1
  simp only [List.cons_append, List.cons.injEq] at e1
  exact e1.2.1
theorem sgn_case (D : List UInt8) (b0 b1 b2 b3 : Bool) (h0 : List.isPrefixOf [38, 108, 116, 59] D = b0) (h1 : List.isPrefixOf [38, 103, 116, 59] D = b1) (h2 : List.isPrefixOf [38, 97, 109, 112, 59] D = b2) (h3 : List.isPrefixOf [38, 113, 117, 111, 116, 59] D = b3) :
    (b0 = true ∧ b1 = false ∧ b2 = false ∧ b3 = false ∧ sgn D = some (60, 4)) ∨ (b0 = false ∧ b1 = true ∧ b2 = false ∧ b3 = false ∧ sgn D = some (62, 4)) ∨ (b0 = false ∧ b1 = false ∧ b2 = true ∧ b3 = false ∧ sgn D = some (38, 5)) ∨ (b0 = false ∧ b1 = false ∧ b2 = false ∧ b3 = true ∧ sgn D = some (34, 6)) ∨ (b0 = false ∧ b1 = false ∧ b2 = false ∧ b3 = false ∧ sgn D = none) := by
  unfold sgn
  rw [h0, h1, h2, h3]
  cases b0 <;> cases b1 <;> cases b2 <;> cases b3
  all_goals
    first
    | (exact absurd (pre_two h0 h1) (by decide))
    | (exact absurd (pre_two h0 h2) (by decide))
    | (exact absurd (pre_two h0 h3) (by decide))
    | (exact absurd (pre_two h1 h2) (by decide))
    | (exact absurd (pre_two h1 h3) (by decide))
    | (exact absurd (pre_two h2 h3) (by decide))
    | simp
theorem tell_next {l : List UInt8} {k n : Nat} {x : UInt8} (hk : k < l.length) (h : sgn (l.drop k) = some (x, n)) : tellL (l.drop k) = x :: tellL (l.drop (k + n)) ∧ k + n ≤ l.length ∧ 0 < n := by
  have hd := List.drop_eq_getElem_cons hk
  obtain ⟨p1, p2⟩ := sgn_pos h
  rw [List.length_drop] at p2
  simp only at p1 p2
  refine ⟨?_, by omega, p1⟩
  have h' := h
  rw [hd] at h'
  rw [hd, tellL_yes h', ← hd]
  simp only
  rw [List.drop_drop]
theorem tell_same {l : List UInt8} {k : Nat} (hk : k < l.length) (h : sgn (l.drop k) = none) : tellL (l.drop k) = l[k] :: tellL (l.drop (k + 1)) := by
  have hd := List.drop_eq_getElem_cons hk
  rw [hd] at h
  rw [hd, tellL_no h]
set_option maxRecDepth 100000 in
set_option maxHeartbeats 16000000 in
theorem tell_any (l : List UInt8) (hl : l.length ≤ 5000) (w : World) : Calls Tryz.prog 23 #[.string (toB l)] w fun e w' => e = .returned (.string (toB (tellL l))) ∧ Below w.heap.size w w' := by
  have hsz : (toB l).size = l.length := toB_size l
  have hat : ∀ (k : Nat) (h : k < (toB l).size) (h2 : k < l.length), (toB l)[k]'h = l[k]'h2 := fun k h h2 => rfl
  have HAT := Lib.hid hat
  have hh0 := fun k hk w => has_any l [38, 108, 116, 59] k hl (by decide) (by decide) hk w
  have hh1 := fun k hk w => has_any l [38, 103, 116, 59] k hl (by decide) (by decide) hk w
  have hh2 := fun k hk w => has_any l [38, 97, 109, 112, 59] k hl (by decide) (by decide) hk w
  have hh3 := fun k hk w => has_any l [38, 113, 117, 111, 116, 59] k hl (by decide) (by decide) hk w
  rw [show toB [38, 108, 116, 59] = ⟨#[38, 108, 116, 59]⟩ from rfl] at hh0
  rw [show toB [38, 103, 116, 59] = ⟨#[38, 103, 116, 59]⟩ from rfl] at hh1
  rw [show toB [38, 97, 109, 112, 59] = ⟨#[38, 97, 109, 112, 59]⟩ from rfl] at hh2
  rw [show toB [38, 113, 117, 111, 116, 59] = ⟨#[38, 113, 117, 111, 116, 59]⟩ from rfl] at hh3
  have H0 := Lib.hid hh0
  have H1 := Lib.hid hh1
  have H2 := Lib.hid hh2
  have H3 := Lib.hid hh3
  clear hat hh0 hh1 hh2 hh3
  have KS := Blk.new w 9 #[.string ⟨#[38, 108, 116, 59]⟩, .string ⟨#[38, 103, 116, 59]⟩, .string ⟨#[38, 97, 109, 112, 59]⟩, .string ⟨#[38, 113, 117, 111, 116, 59]⟩]
  obtain ⟨W1, hW1⟩ : ∃ W1, W1 = w.alloc (.cells #[.string ⟨#[38, 108, 116, 59]⟩, .string ⟨#[38, 103, 116, 59]⟩, .string ⟨#[38, 97, 109, 112, 59]⟩, .string ⟨#[38, 113, 117, 111, 116, 59]⟩] 9) := ⟨_, rfl⟩
  have hB1 : Below w.heap.size w W1 := by rw [hW1]; exact below_al (Below.refl w.heap.size w) _
  have hg1 : w.heap.size + 1 = W1.heap.size := by rw [hW1, size_al]
  rw [← hW1] at KS
  have hgl : w.heap.size < W1.heap.size := by omega
  have hY0 := Bys.nil W1 W1.heap.size (Nat.le_refl _)
  have hB0 := below_al (Below.refl W1.heap.size W1) (.cells #[] 5)
  obtain ⟨tl, htl⟩ : ∃ tl, tl = toB l := ⟨_, rfl⟩
  rw [← htl] at hsz HAT H0 H1 H2 H3 ⊢
  obtain ⟨R, hR⟩ : ∃ R, R = toB (tellL l) := ⟨_, rfl⟩
  rw [← hR]
  have HR := Lib.hid hR
  have HW1 := Lib.hid hW1
  have HG1 := Lib.hid hg1
  clear htl hR hW1 hg1
  go_enter Tryz.func23, Tryz.ntmps23
  go_wp2
  rw [HG1.out, ← HW1.out]
  clear HW1 HG1
  obtain ⟨g, hg⟩ : ∃ g, g = w.heap.size := ⟨_, rfl⟩
  rw [← hg] at KS hgl ⊢
  clear hg
  go_loopw [4, 5] (fun v i wr => ∃ (k : Nat) (acc : List UInt8), k ≤ l.length ∧ i = .int .i64 k ∧ Bys wr W1.heap.size v acc ∧ acc.length ≤ k ∧ Below W1.heap.size W1 wr ∧ Hid (tellL l = acc ++ tellL (l.drop k))) (fun _ i _ => l.length - (intOf i).toNat)
  case atStart => exact ⟨0, [], Nat.zero_le _, rfl, hY0, Nat.le_refl _, hB0, rfl⟩
  case round =>
    obtain ⟨k, acc, hk, rfl, hY, hal, hB, HA⟩ := hrel
    clear hB0 hY0
    by_cases hlt : k < l.length
    · have hks : k < tl.size := by rw [hsz]; exact hlt
      have hgs := HAT.out k hks hlt
      have c0 := H0.out k (by omega)
      have c1 := H1.out k (by omega)
      have c2 := H2.out k (by omega)
      have c3 := H3.out k (by omega)
      have hcase := sgn_case (l.drop k) _ _ _ _ rfl rfl rfl rfl
      generalize List.isPrefixOf [38, 108, 116, 59] (l.drop k) = b0 at *
      generalize List.isPrefixOf [38, 103, 116, 59] (l.drop k) = b1 at *
      generalize List.isPrefixOf [38, 97, 109, 112, 59] (l.drop k) = b2 at *
      generalize List.isPrefixOf [38, 113, 117, 111, 116, 59] (l.drop k) = b3 at *
      have KR := KS.next hB
      have s0 := KR.cell 0
      have s1 := KR.cell 1
      have s2 := KR.cell 2
      have s3 := KR.cell 3
      have hle := hB.size
      have hacl : acc.length < 70000000000000 := by omega
      have k0 : (0 : Int) ≤ (k : Int) := Int.natCast_nonneg _
      have k1 : (k : Int) < (l.length : Int) := by omega
      have HTS := Lib.hid (@tell_same l k hlt)
      have HTN := Lib.hid (fun (n : Nat) (x : UInt8) => @tell_next l k n x)
      obtain ⟨c, hce⟩ : ∃ c : UInt8, l[k] = c := ⟨_, rfl⟩
      rw [hce] at hgs HTS
      clear hce KR
      rcases hcase with ⟨rfl, rfl, rfl, rfl, hs⟩ | ⟨rfl, rfl, rfl, rfl, hs⟩ | ⟨rfl, rfl, rfl, rfl, hs⟩ | ⟨rfl, rfl, rfl, rfl, hs⟩ | ⟨rfl, rfl, rfl, rfl, hs⟩
      · obtain ⟨hnx, hle2, -⟩ := HTN.out _ _ hlt hs
        obtain ⟨p, hp⟩ : ∃ p, p = k + 4 := ⟨_, rfl⟩
        rw [← hp] at hnx hle2
        have hop : (k : Int) + 4 = (p : Int) := by omega
        have hkp : k < p := by omega
        have HNX := Lib.hid hnx
        clear hnx hp hs HTS HTN
        go_wp2
        refine wp_loop_rounds 5 ?_
        rw [rounds_succ]
        go_wp2_with (first
          | (go_at_call 62; (with_reducible refine (c0 _).mono ?_); rintro e w1 ⟨rfl, rfl⟩)
          | (go_at_call 62; (with_reducible refine (c1 _).mono ?_); rintro e w1 ⟨rfl, rfl⟩)
          | (go_at_call 62; (with_reducible refine (c2 _).mono ?_); rintro e w1 ⟨rfl, rfl⟩)
          | (go_at_call 62; (with_reducible refine (c3 _).mono ?_); rintro e w1 ⟨rfl, rfl⟩)
          | (at_builtin; go_loud (refine wpList_pushU wr rfl (.tmp 36) (.tmp 38) rfl W1.heap.size _ _ 60 _ (by show bv 60 = _; rfl) _ rfl hY rfl hacl hle ?_); intro v' w' hY' hg
             have hB' := below_pushU hB hY hg
             clear hg))
        rw [rounds_succ]
        go_wp2_with (first
          | (go_at_call 62; (with_reducible refine (c0 _).mono ?_); rintro e w1 ⟨rfl, rfl⟩)
          | (go_at_call 62; (with_reducible refine (c1 _).mono ?_); rintro e w1 ⟨rfl, rfl⟩)
          | (go_at_call 62; (with_reducible refine (c2 _).mono ?_); rintro e w1 ⟨rfl, rfl⟩)
          | (go_at_call 62; (with_reducible refine (c3 _).mono ?_); rintro e w1 ⟨rfl, rfl⟩)
          | (at_builtin; go_loud (refine wpList_pushU wr rfl (.tmp 36) (.tmp 38) rfl W1.heap.size _ _ 60 _ (by show bv 60 = _; rfl) _ rfl hY rfl hacl hle ?_); intro v' w' hY' hg
             have hB' := below_pushU hB hY hg
             clear hg))
        rw [rounds_succ]
        go_wp2_with (first
          | (go_at_call 62; (with_reducible refine (c0 _).mono ?_); rintro e w1 ⟨rfl, rfl⟩)
          | (go_at_call 62; (with_reducible refine (c1 _).mono ?_); rintro e w1 ⟨rfl, rfl⟩)
          | (go_at_call 62; (with_reducible refine (c2 _).mono ?_); rintro e w1 ⟨rfl, rfl⟩)
          | (go_at_call 62; (with_reducible refine (c3 _).mono ?_); rintro e w1 ⟨rfl, rfl⟩)
          | (at_builtin; go_loud (refine wpList_pushU wr rfl (.tmp 36) (.tmp 38) rfl W1.heap.size _ _ 60 _ (by show bv 60 = _; rfl) _ rfl hY rfl hacl hle ?_); intro v' w' hY' hg
             have hB' := below_pushU hB hY hg
             clear hg))
        rw [rounds_succ]
        go_wp2_with (first
          | (go_at_call 62; (with_reducible refine (c0 _).mono ?_); rintro e w1 ⟨rfl, rfl⟩)
          | (go_at_call 62; (with_reducible refine (c1 _).mono ?_); rintro e w1 ⟨rfl, rfl⟩)
          | (go_at_call 62; (with_reducible refine (c2 _).mono ?_); rintro e w1 ⟨rfl, rfl⟩)
          | (go_at_call 62; (with_reducible refine (c3 _).mono ?_); rintro e w1 ⟨rfl, rfl⟩)
          | (at_builtin; go_loud (refine wpList_pushU wr rfl (.tmp 36) (.tmp 38) rfl W1.heap.size _ _ 60 _ (by show bv 60 = _; rfl) _ rfl hY rfl hacl hle ?_); intro v' w' hY' hg
             have hB' := below_pushU hB hY hg
             clear hg))
        rw [rounds_succ]
        go_wp2_with (first
          | (go_at_call 62; (with_reducible refine (c0 _).mono ?_); rintro e w1 ⟨rfl, rfl⟩)
          | (go_at_call 62; (with_reducible refine (c1 _).mono ?_); rintro e w1 ⟨rfl, rfl⟩)
          | (go_at_call 62; (with_reducible refine (c2 _).mono ?_); rintro e w1 ⟨rfl, rfl⟩)
          | (go_at_call 62; (with_reducible refine (c3 _).mono ?_); rintro e w1 ⟨rfl, rfl⟩)
          | (at_builtin; go_loud (refine wpList_pushU wr rfl (.tmp 36) (.tmp 38) rfl W1.heap.size _ _ 60 _ (by show bv 60 = _; rfl) _ rfl hY rfl hacl hle ?_); intro v' w' hY' hg
             have hB' := below_pushU hB hY hg
             clear hg))
        go_roundw
        case rel => exact ⟨p, _, hle2, by go_num, hY', by rw [List.length_append, List.length_singleton]; omega, hB', by show _ = _; rw [HA.out, HNX.out, List.append_assoc]; rfl⟩
        case measure => simp [intOf]; omega
      · obtain ⟨hnx, hle2, -⟩ := HTN.out _ _ hlt hs
        obtain ⟨p, hp⟩ : ∃ p, p = k + 4 := ⟨_, rfl⟩
        rw [← hp] at hnx hle2
        have hop : (k : Int) + 4 = (p : Int) := by omega
        have hkp : k < p := by omega
        have HNX := Lib.hid hnx
        clear hnx hp hs HTS HTN
        go_wp2
        refine wp_loop_rounds 5 ?_
        rw [rounds_succ]
        go_wp2_with (first
          | (go_at_call 62; (with_reducible refine (c0 _).mono ?_); rintro e w1 ⟨rfl, rfl⟩)
          | (go_at_call 62; (with_reducible refine (c1 _).mono ?_); rintro e w1 ⟨rfl, rfl⟩)
          | (go_at_call 62; (with_reducible refine (c2 _).mono ?_); rintro e w1 ⟨rfl, rfl⟩)
          | (go_at_call 62; (with_reducible refine (c3 _).mono ?_); rintro e w1 ⟨rfl, rfl⟩)
          | (at_builtin; go_loud (refine wpList_pushU wr rfl (.tmp 36) (.tmp 38) rfl W1.heap.size _ _ 62 _ (by show bv 62 = _; rfl) _ rfl hY rfl hacl hle ?_); intro v' w' hY' hg
             have hB' := below_pushU hB hY hg
             clear hg))
        rw [rounds_succ]
        go_wp2_with (first
          | (go_at_call 62; (with_reducible refine (c0 _).mono ?_); rintro e w1 ⟨rfl, rfl⟩)
          | (go_at_call 62; (with_reducible refine (c1 _).mono ?_); rintro e w1 ⟨rfl, rfl⟩)
          | (go_at_call 62; (with_reducible refine (c2 _).mono ?_); rintro e w1 ⟨rfl, rfl⟩)
          | (go_at_call 62; (with_reducible refine (c3 _).mono ?_); rintro e w1 ⟨rfl, rfl⟩)
          | (at_builtin; go_loud (refine wpList_pushU wr rfl (.tmp 36) (.tmp 38) rfl W1.heap.size _ _ 62 _ (by show bv 62 = _; rfl) _ rfl hY rfl hacl hle ?_); intro v' w' hY' hg
             have hB' := below_pushU hB hY hg
             clear hg))
        rw [rounds_succ]
        go_wp2_with (first
          | (go_at_call 62; (with_reducible refine (c0 _).mono ?_); rintro e w1 ⟨rfl, rfl⟩)
          | (go_at_call 62; (with_reducible refine (c1 _).mono ?_); rintro e w1 ⟨rfl, rfl⟩)
          | (go_at_call 62; (with_reducible refine (c2 _).mono ?_); rintro e w1 ⟨rfl, rfl⟩)
          | (go_at_call 62; (with_reducible refine (c3 _).mono ?_); rintro e w1 ⟨rfl, rfl⟩)
          | (at_builtin; go_loud (refine wpList_pushU wr rfl (.tmp 36) (.tmp 38) rfl W1.heap.size _ _ 62 _ (by show bv 62 = _; rfl) _ rfl hY rfl hacl hle ?_); intro v' w' hY' hg
             have hB' := below_pushU hB hY hg
             clear hg))
        rw [rounds_succ]
        go_wp2_with (first
          | (go_at_call 62; (with_reducible refine (c0 _).mono ?_); rintro e w1 ⟨rfl, rfl⟩)
          | (go_at_call 62; (with_reducible refine (c1 _).mono ?_); rintro e w1 ⟨rfl, rfl⟩)
          | (go_at_call 62; (with_reducible refine (c2 _).mono ?_); rintro e w1 ⟨rfl, rfl⟩)
          | (go_at_call 62; (with_reducible refine (c3 _).mono ?_); rintro e w1 ⟨rfl, rfl⟩)
          | (at_builtin; go_loud (refine wpList_pushU wr rfl (.tmp 36) (.tmp 38) rfl W1.heap.size _ _ 62 _ (by show bv 62 = _; rfl) _ rfl hY rfl hacl hle ?_); intro v' w' hY' hg
             have hB' := below_pushU hB hY hg
             clear hg))
        rw [rounds_succ]
        go_wp2_with (first
          | (go_at_call 62; (with_reducible refine (c0 _).mono ?_); rintro e w1 ⟨rfl, rfl⟩)
          | (go_at_call 62; (with_reducible refine (c1 _).mono ?_); rintro e w1 ⟨rfl, rfl⟩)
          | (go_at_call 62; (with_reducible refine (c2 _).mono ?_); rintro e w1 ⟨rfl, rfl⟩)
          | (go_at_call 62; (with_reducible refine (c3 _).mono ?_); rintro e w1 ⟨rfl, rfl⟩)
          | (at_builtin; go_loud (refine wpList_pushU wr rfl (.tmp 36) (.tmp 38) rfl W1.heap.size _ _ 62 _ (by show bv 62 = _; rfl) _ rfl hY rfl hacl hle ?_); intro v' w' hY' hg
             have hB' := below_pushU hB hY hg
             clear hg))
        go_roundw
        case rel => exact ⟨p, _, hle2, by go_num, hY', by rw [List.length_append, List.length_singleton]; omega, hB', by show _ = _; rw [HA.out, HNX.out, List.append_assoc]; rfl⟩
        case measure => simp [intOf]; omega
      · obtain ⟨hnx, hle2, -⟩ := HTN.out _ _ hlt hs
        obtain ⟨p, hp⟩ : ∃ p, p = k + 5 := ⟨_, rfl⟩
        rw [← hp] at hnx hle2
        have hop : (k : Int) + 5 = (p : Int) := by omega
        have hkp : k < p := by omega
        have HNX := Lib.hid hnx
        clear hnx hp hs HTS HTN
        go_wp2
        refine wp_loop_rounds 5 ?_
        rw [rounds_succ]
        go_wp2_with (first
          | (go_at_call 62; (with_reducible refine (c0 _).mono ?_); rintro e w1 ⟨rfl, rfl⟩)
          | (go_at_call 62; (with_reducible refine (c1 _).mono ?_); rintro e w1 ⟨rfl, rfl⟩)
          | (go_at_call 62; (with_reducible refine (c2 _).mono ?_); rintro e w1 ⟨rfl, rfl⟩)
          | (go_at_call 62; (with_reducible refine (c3 _).mono ?_); rintro e w1 ⟨rfl, rfl⟩)
          | (at_builtin; go_loud (refine wpList_pushU wr rfl (.tmp 36) (.tmp 38) rfl W1.heap.size _ _ 38 _ (by show bv 38 = _; rfl) _ rfl hY rfl hacl hle ?_); intro v' w' hY' hg
             have hB' := below_pushU hB hY hg
             clear hg))
        rw [rounds_succ]
        go_wp2_with (first
          | (go_at_call 62; (with_reducible refine (c0 _).mono ?_); rintro e w1 ⟨rfl, rfl⟩)
          | (go_at_call 62; (with_reducible refine (c1 _).mono ?_); rintro e w1 ⟨rfl, rfl⟩)
          | (go_at_call 62; (with_reducible refine (c2 _).mono ?_); rintro e w1 ⟨rfl, rfl⟩)
          | (go_at_call 62; (with_reducible refine (c3 _).mono ?_); rintro e w1 ⟨rfl, rfl⟩)
          | (at_builtin; go_loud (refine wpList_pushU wr rfl (.tmp 36) (.tmp 38) rfl W1.heap.size _ _ 38 _ (by show bv 38 = _; rfl) _ rfl hY rfl hacl hle ?_); intro v' w' hY' hg
             have hB' := below_pushU hB hY hg
             clear hg))
        rw [rounds_succ]
        go_wp2_with (first
          | (go_at_call 62; (with_reducible refine (c0 _).mono ?_); rintro e w1 ⟨rfl, rfl⟩)
          | (go_at_call 62; (with_reducible refine (c1 _).mono ?_); rintro e w1 ⟨rfl, rfl⟩)
          | (go_at_call 62; (with_reducible refine (c2 _).mono ?_); rintro e w1 ⟨rfl, rfl⟩)
          | (go_at_call 62; (with_reducible refine (c3 _).mono ?_); rintro e w1 ⟨rfl, rfl⟩)
          | (at_builtin; go_loud (refine wpList_pushU wr rfl (.tmp 36) (.tmp 38) rfl W1.heap.size _ _ 38 _ (by show bv 38 = _; rfl) _ rfl hY rfl hacl hle ?_); intro v' w' hY' hg
             have hB' := below_pushU hB hY hg
             clear hg))
        rw [rounds_succ]
        go_wp2_with (first
          | (go_at_call 62; (with_reducible refine (c0 _).mono ?_); rintro e w1 ⟨rfl, rfl⟩)
          | (go_at_call 62; (with_reducible refine (c1 _).mono ?_); rintro e w1 ⟨rfl, rfl⟩)
          | (go_at_call 62; (with_reducible refine (c2 _).mono ?_); rintro e w1 ⟨rfl, rfl⟩)
          | (go_at_call 62; (with_reducible refine (c3 _).mono ?_); rintro e w1 ⟨rfl, rfl⟩)
          | (at_builtin; go_loud (refine wpList_pushU wr rfl (.tmp 36) (.tmp 38) rfl W1.heap.size _ _ 38 _ (by show bv 38 = _; rfl) _ rfl hY rfl hacl hle ?_); intro v' w' hY' hg
             have hB' := below_pushU hB hY hg
             clear hg))
        rw [rounds_succ]
        go_wp2_with (first
          | (go_at_call 62; (with_reducible refine (c0 _).mono ?_); rintro e w1 ⟨rfl, rfl⟩)
          | (go_at_call 62; (with_reducible refine (c1 _).mono ?_); rintro e w1 ⟨rfl, rfl⟩)
          | (go_at_call 62; (with_reducible refine (c2 _).mono ?_); rintro e w1 ⟨rfl, rfl⟩)
          | (go_at_call 62; (with_reducible refine (c3 _).mono ?_); rintro e w1 ⟨rfl, rfl⟩)
          | (at_builtin; go_loud (refine wpList_pushU wr rfl (.tmp 36) (.tmp 38) rfl W1.heap.size _ _ 38 _ (by show bv 38 = _; rfl) _ rfl hY rfl hacl hle ?_); intro v' w' hY' hg
             have hB' := below_pushU hB hY hg
             clear hg))
        go_roundw
        case rel => exact ⟨p, _, hle2, by go_num, hY', by rw [List.length_append, List.length_singleton]; omega, hB', by show _ = _; rw [HA.out, HNX.out, List.append_assoc]; rfl⟩
        case measure => simp [intOf]; omega
      · obtain ⟨hnx, hle2, -⟩ := HTN.out _ _ hlt hs
        obtain ⟨p, hp⟩ : ∃ p, p = k + 6 := ⟨_, rfl⟩
        rw [← hp] at hnx hle2
        have hop : (k : Int) + 6 = (p : Int) := by omega
        have hkp : k < p := by omega
        have HNX := Lib.hid hnx
        clear hnx hp hs HTS HTN
        go_wp2
        refine wp_loop_rounds 5 ?_
        rw [rounds_succ]
        go_wp2_with (first
          | (go_at_call 62; (with_reducible refine (c0 _).mono ?_); rintro e w1 ⟨rfl, rfl⟩)
          | (go_at_call 62; (with_reducible refine (c1 _).mono ?_); rintro e w1 ⟨rfl, rfl⟩)
          | (go_at_call 62; (with_reducible refine (c2 _).mono ?_); rintro e w1 ⟨rfl, rfl⟩)
          | (go_at_call 62; (with_reducible refine (c3 _).mono ?_); rintro e w1 ⟨rfl, rfl⟩)
          | (at_builtin; go_loud (refine wpList_pushU wr rfl (.tmp 36) (.tmp 38) rfl W1.heap.size _ _ 34 _ (by show bv 34 = _; rfl) _ rfl hY rfl hacl hle ?_); intro v' w' hY' hg
             have hB' := below_pushU hB hY hg
             clear hg))
        rw [rounds_succ]
        go_wp2_with (first
          | (go_at_call 62; (with_reducible refine (c0 _).mono ?_); rintro e w1 ⟨rfl, rfl⟩)
          | (go_at_call 62; (with_reducible refine (c1 _).mono ?_); rintro e w1 ⟨rfl, rfl⟩)
          | (go_at_call 62; (with_reducible refine (c2 _).mono ?_); rintro e w1 ⟨rfl, rfl⟩)
          | (go_at_call 62; (with_reducible refine (c3 _).mono ?_); rintro e w1 ⟨rfl, rfl⟩)
          | (at_builtin; go_loud (refine wpList_pushU wr rfl (.tmp 36) (.tmp 38) rfl W1.heap.size _ _ 34 _ (by show bv 34 = _; rfl) _ rfl hY rfl hacl hle ?_); intro v' w' hY' hg
             have hB' := below_pushU hB hY hg
             clear hg))
        rw [rounds_succ]
        go_wp2_with (first
          | (go_at_call 62; (with_reducible refine (c0 _).mono ?_); rintro e w1 ⟨rfl, rfl⟩)
          | (go_at_call 62; (with_reducible refine (c1 _).mono ?_); rintro e w1 ⟨rfl, rfl⟩)
          | (go_at_call 62; (with_reducible refine (c2 _).mono ?_); rintro e w1 ⟨rfl, rfl⟩)
          | (go_at_call 62; (with_reducible refine (c3 _).mono ?_); rintro e w1 ⟨rfl, rfl⟩)
          | (at_builtin; go_loud (refine wpList_pushU wr rfl (.tmp 36) (.tmp 38) rfl W1.heap.size _ _ 34 _ (by show bv 34 = _; rfl) _ rfl hY rfl hacl hle ?_); intro v' w' hY' hg
             have hB' := below_pushU hB hY hg
             clear hg))
        rw [rounds_succ]
        go_wp2_with (first
          | (go_at_call 62; (with_reducible refine (c0 _).mono ?_); rintro e w1 ⟨rfl, rfl⟩)
          | (go_at_call 62; (with_reducible refine (c1 _).mono ?_); rintro e w1 ⟨rfl, rfl⟩)
          | (go_at_call 62; (with_reducible refine (c2 _).mono ?_); rintro e w1 ⟨rfl, rfl⟩)
          | (go_at_call 62; (with_reducible refine (c3 _).mono ?_); rintro e w1 ⟨rfl, rfl⟩)
          | (at_builtin; go_loud (refine wpList_pushU wr rfl (.tmp 36) (.tmp 38) rfl W1.heap.size _ _ 34 _ (by show bv 34 = _; rfl) _ rfl hY rfl hacl hle ?_); intro v' w' hY' hg
             have hB' := below_pushU hB hY hg
             clear hg))
        rw [rounds_succ]
        go_wp2_with (first
          | (go_at_call 62; (with_reducible refine (c0 _).mono ?_); rintro e w1 ⟨rfl, rfl⟩)
          | (go_at_call 62; (with_reducible refine (c1 _).mono ?_); rintro e w1 ⟨rfl, rfl⟩)
          | (go_at_call 62; (with_reducible refine (c2 _).mono ?_); rintro e w1 ⟨rfl, rfl⟩)
          | (go_at_call 62; (with_reducible refine (c3 _).mono ?_); rintro e w1 ⟨rfl, rfl⟩)
          | (at_builtin; go_loud (refine wpList_pushU wr rfl (.tmp 36) (.tmp 38) rfl W1.heap.size _ _ 34 _ (by show bv 34 = _; rfl) _ rfl hY rfl hacl hle ?_); intro v' w' hY' hg
             have hB' := below_pushU hB hY hg
             clear hg))
        go_roundw
        case rel => exact ⟨p, _, hle2, by go_num, hY', by rw [List.length_append, List.length_singleton]; omega, hB', by show _ = _; rw [HA.out, HNX.out, List.append_assoc]; rfl⟩
        case measure => simp [intOf]; omega
      · have hnx := HTS.out hs
        obtain ⟨p, hp⟩ : ∃ p, p = k + 1 := ⟨_, rfl⟩
        have hle2 : p ≤ l.length := by omega
        rw [← hp] at hnx
        have hop : (k : Int) + 1 = (p : Int) := by omega
        have hkp : k < p := by omega
        have HNX := Lib.hid hnx
        clear hnx hp hs HTS HTN
        go_wp2
        refine wp_loop_rounds 5 ?_
        rw [rounds_succ]
        go_wp2_with (first
          | (go_at_call 62; (with_reducible refine (c0 _).mono ?_); rintro e w1 ⟨rfl, rfl⟩)
          | (go_at_call 62; (with_reducible refine (c1 _).mono ?_); rintro e w1 ⟨rfl, rfl⟩)
          | (go_at_call 62; (with_reducible refine (c2 _).mono ?_); rintro e w1 ⟨rfl, rfl⟩)
          | (go_at_call 62; (with_reducible refine (c3 _).mono ?_); rintro e w1 ⟨rfl, rfl⟩)
          | (at_builtin; go_loud (refine wpList_pushU wr rfl (.tmp 36) (.tmp 38) rfl W1.heap.size _ _ c _ (by show bv c = _; rfl) _ rfl hY rfl hacl hle ?_); intro v' w' hY' hg
             have hB' := below_pushU hB hY hg
             clear hg))
        rw [rounds_succ]
        go_wp2_with (first
          | (go_at_call 62; (with_reducible refine (c0 _).mono ?_); rintro e w1 ⟨rfl, rfl⟩)
          | (go_at_call 62; (with_reducible refine (c1 _).mono ?_); rintro e w1 ⟨rfl, rfl⟩)
          | (go_at_call 62; (with_reducible refine (c2 _).mono ?_); rintro e w1 ⟨rfl, rfl⟩)
          | (go_at_call 62; (with_reducible refine (c3 _).mono ?_); rintro e w1 ⟨rfl, rfl⟩)
          | (at_builtin; go_loud (refine wpList_pushU wr rfl (.tmp 36) (.tmp 38) rfl W1.heap.size _ _ c _ (by show bv c = _; rfl) _ rfl hY rfl hacl hle ?_); intro v' w' hY' hg
             have hB' := below_pushU hB hY hg
             clear hg))
        rw [rounds_succ]
        go_wp2_with (first
          | (go_at_call 62; (with_reducible refine (c0 _).mono ?_); rintro e w1 ⟨rfl, rfl⟩)
          | (go_at_call 62; (with_reducible refine (c1 _).mono ?_); rintro e w1 ⟨rfl, rfl⟩)
          | (go_at_call 62; (with_reducible refine (c2 _).mono ?_); rintro e w1 ⟨rfl, rfl⟩)
          | (go_at_call 62; (with_reducible refine (c3 _).mono ?_); rintro e w1 ⟨rfl, rfl⟩)
          | (at_builtin; go_loud (refine wpList_pushU wr rfl (.tmp 36) (.tmp 38) rfl W1.heap.size _ _ c _ (by show bv c = _; rfl) _ rfl hY rfl hacl hle ?_); intro v' w' hY' hg
             have hB' := below_pushU hB hY hg
             clear hg))
        rw [rounds_succ]
        go_wp2_with (first
          | (go_at_call 62; (with_reducible refine (c0 _).mono ?_); rintro e w1 ⟨rfl, rfl⟩)
          | (go_at_call 62; (with_reducible refine (c1 _).mono ?_); rintro e w1 ⟨rfl, rfl⟩)
          | (go_at_call 62; (with_reducible refine (c2 _).mono ?_); rintro e w1 ⟨rfl, rfl⟩)
          | (go_at_call 62; (with_reducible refine (c3 _).mono ?_); rintro e w1 ⟨rfl, rfl⟩)
          | (at_builtin; go_loud (refine wpList_pushU wr rfl (.tmp 36) (.tmp 38) rfl W1.heap.size _ _ c _ (by show bv c = _; rfl) _ rfl hY rfl hacl hle ?_); intro v' w' hY' hg
             have hB' := below_pushU hB hY hg
             clear hg))
        rw [rounds_succ]
        go_wp2_with (first
          | (go_at_call 62; (with_reducible refine (c0 _).mono ?_); rintro e w1 ⟨rfl, rfl⟩)
          | (go_at_call 62; (with_reducible refine (c1 _).mono ?_); rintro e w1 ⟨rfl, rfl⟩)
          | (go_at_call 62; (with_reducible refine (c2 _).mono ?_); rintro e w1 ⟨rfl, rfl⟩)
          | (go_at_call 62; (with_reducible refine (c3 _).mono ?_); rintro e w1 ⟨rfl, rfl⟩)
          | (at_builtin; go_loud (refine wpList_pushU wr rfl (.tmp 36) (.tmp 38) rfl W1.heap.size _ _ c _ (by show bv c = _; rfl) _ rfl hY rfl hacl hle ?_); intro v' w' hY' hg
             have hB' := below_pushU hB hY hg
             clear hg))
        go_roundw
        case rel => exact ⟨p, _, hle2, by go_num, hY', by rw [List.length_append, List.length_singleton]; omega, hB', by show _ = _; rw [HA.out, HNX.out, List.append_assoc]; rfl⟩
        case measure => simp [intOf]; omega
    · obtain rfl : k = l.length := by omega
      have htk : l.drop l.length = [] := List.drop_length
      have HF : Hid (tellL l = acc) := by show _ = _; rw [HA.out, htk, tellL_nil, List.append_nil]
      have hcv := bys_text hY
      clear HA htk
      have HE : Hid ((⟨acc.toArray⟩ : ByteArray) = R) := by show _ = _; rw [HR.out, HF.out]; rfl
      generalize (⟨acc.toArray⟩ : ByteArray) = r at hcv HE
      go_wp2
      go_ret
      obtain rfl := HE.out
      exact ⟨rfl, hB1.trans (hB.mono hB1.size)⟩
end Rt
end Go.Proofs.YteopighhhcikcaaGreatDoor
