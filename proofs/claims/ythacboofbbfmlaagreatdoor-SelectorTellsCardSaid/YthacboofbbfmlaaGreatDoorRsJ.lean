/- The reference's Print. Conditions: as the theorem's premises say. -/
import Derived.Test.YthacboofbbfmlaaGreatDoorSelL
import Derived.Test.YthacboofbbfmlaaGreatDoorRtN
import Derived.Deep.QuietTactic
import Derived.StillTailTactics
import Derived.Deep.RegionHeld3
/- The reference's one, names and Weight. Conditions: as the theorems' premises say. -/
namespace Go.Proofs.YthacboofbbfmlaaGreatDoor
open Go.ChangeShapes Go.WideShapes Go.ChangeAt Go.RowKit Go.Shelf
namespace Sel
open Tok
open RowG (Row)
theorem rone_any (b : Bool) (w : World) : Calls Tryz.prog 35 #[.bool b] w fun e w' => e = .returned (.int .i64 (b1 b : Nat)) ∧ w = w' := by
  cases b
  all_goals
    go_enter Tryz.func35, Tryz.ntmps35
    go_wp2
    go_ret
    exact ⟨rfl, rfl⟩
set_option maxRecDepth 100000 in
set_option maxHeartbeats 16000000 in
theorem rnames_any (A : Option Addr) (n c : Nat) (l : List (List UInt8)) (hs : ∀ t ∈ l, t.length ≤ 140737488351232) (hn : n ≤ 1000000) (w : World) (h : Reads w w.heap.size 1 A n (l.flatMap txC)) :
    Calls Tryz.prog 34 #[.slice A n c] w fun e w' => e = .returned (.bool (l.all nameB)) ∧ Below w.heap.size w w' := by
  have hln : l.length = n := by have := h.1; rw [flat_len txC_len] at this; omega
  have HL := Lib.hid hln
  have HS := Lib.hid hs
  obtain ⟨R, hR⟩ : ∃ R, R = l.all nameB := ⟨_, rfl⟩
  rw [← hR]
  have HR := Lib.hid hR
  clear hln hs hR
  go_enter Tryz.func34, Tryz.ntmps34
  go_wp2
  go_loopw [3] (fun iv wr => ∃ k : Nat, k ≤ n ∧ iv = .int .i64 k ∧ Hid ((l.take k).all nameB = true) ∧ Below w.heap.size w wr) (fun iv _ => n - (intOf iv).toNat)
  case atStart => exact ⟨0, Nat.zero_le _, rfl, rfl, Below.refl _ _⟩
  case round =>
    obtain ⟨k, hk, rfl, HK, hBr⟩ := hrel
    have k0 : (0 : Int) ≤ (k : Int) := Int.natCast_nonneg _
    by_cases hlt : k < n
    · obtain ⟨x, hx⟩ : ∃ x, l[k]? = some x := ⟨_, List.getElem?_eq_getElem (by rw [HL.out]; exact hlt)⟩
      obtain ⟨ad, rfl, hb, e0⟩ := tx_of (Reads.below h hBr) hx
      have hki : (k : Int) < (n : Int) := by omega
      have cn := fun W' => Rt.name_any x (HS.out x (List.mem_of_getElem? hx)) W'
      cases hnm : nameB x with
      | false =>
        have hall : l.all nameB = false := by
          rw [List.all_eq_false]
          exact ⟨x, List.mem_of_getElem? hx, by rw [hnm]; decide⟩
        rw [hnm] at cn
        obtain rfl : R = false := HR.out.trans hall
        clear hx hnm hall HR
        go_wp2_with (go_at_call 33; (with_reducible refine (cn _).mono ?_); rintro e w3 ⟨rfl, hb3⟩)
        go_ret
        exact ⟨rfl, below_next hBr hb3⟩
      | true =>
        have HK1 : Hid ((l.take (k + 1)).all nameB = true) := by
          show _ = _
          rw [List.take_add_one, hx, List.all_append, HK.out]
          simp [hnm]
        rw [hnm] at cn
        clear hx hnm
        go_wp2_with (go_at_call 33; (with_reducible refine (cn _).mono ?_); rintro e w3 ⟨rfl, hb3⟩)
        go_roundw
        case rel => exact ⟨k + 1, by omega, by go_num, HK1, below_next hBr hb3⟩
        case measure => simp [intOf]; omega
    · obtain rfl : k = n := by omega
      have hall : l.all nameB = true := by
        have := HK.out
        rwa [List.take_of_length_le (by rw [HL.out]; exact Nat.le_refl _)] at this
      obtain rfl : R = true := HR.out.trans hall
      clear HR hall
      go_wp2
      go_ret
      exact ⟨rfl, hBr⟩
set_option maxRecDepth 100000 in
set_option maxHeartbeats 16000000 in
theorem rweigh_any (A K : Option Addr) (n c m d : Nat) (ps : List Sim) (hn : n ≤ 1000000) (hf : Few ps) (w : World) (h : SLR w w.heap.size A n ps) :
    Calls Tryz.prog 17 #[.agg #[.slice A n c, .slice K m d]] w fun e w' => e = .returned (.int .i64 (((ps.map wS).sum : Nat) : Int)) ∧ Below w.heap.size w w' := by
  have HL := Lib.hid h.len
  have HF := Lib.hid hf
  have hB := below_al (Below.refl w.heap.size w) (.cells #[.slice A n c, .slice K m d] 30)
  have K0 := Blk.new w 30 #[.slice A n c, .slice K m d]
  obtain ⟨X0, hX0⟩ : ∃ X0, X0 = (ps.map wS).sum := ⟨_, rfl⟩
  rw [← hX0]
  have HX0 := Lib.hid hX0
  clear hf hX0
  go_enter Tryz.func17, Tryz.ntmps17
  go_wp2
  generalize w.alloc (.cells #[.slice A n c, .slice K m d] 30) = W at *
  go_loopw [3, 4] (fun sv iv wr => ∃ k : Nat, k ≤ n ∧ iv = .int .i64 k ∧ sv = .int .i64 (((ps.take k).map wS).sum : Nat) ∧ Blk wr w.heap.size 30 #[.slice A n c, .slice K m d] ∧ Below w.heap.size w wr) (fun _ iv _ => n - (intOf iv).toNat)
  case atStart => exact ⟨0, Nat.zero_le _, rfl, rfl, K0, hB⟩
  case round =>
    obtain ⟨k, hk, rfl, rfl, KR, hBr⟩ := hrel
    obtain ⟨y0, y1⟩ := blk2 KR
    have k0 : (0 : Int) ≤ (k : Int) := Int.natCast_nonneg _
    by_cases hlt : k < n
    · obtain ⟨p, hp⟩ : ∃ p, ps[k]? = some p := ⟨_, List.getElem?_eq_getElem (by rw [HL.out]; exact hlt)⟩
      obtain ⟨ad, iA, ic, cA, cc, rfl, hb, e0, e1, e2, e3, e4, -, -⟩ := (h.below hBr (Nat.le_refl _)).at_ hp
      obtain ⟨f1, f2⟩ := HF.out p (List.mem_of_getElem? hp)
      have HW := Lib.hid (weigh_snoc hp)
      have hwl := weigh_le HF.out k
      have hki : (k : Int) < (n : Int) := by omega
      have u0 := lit_eq p.tag []
      have KB := Blk.new wr 52 #[.string (toB p.tag), .slice iA p.ids.length ic, .slice cA p.classes.length cc, .bool p.link, .bool p.visited]
      obtain ⟨q0, q1, q2, q3, q4⟩ := blk5 KB
      have hBA := below_al hBr (.cells #[.string (toB p.tag), .slice iA p.ids.length ic, .slice cA p.classes.length cc, .bool p.link, .bool p.visited] 52)
      have KRA := KR.alloc (.cells #[.string (toB p.tag), .slice iA p.ids.length ic, .slice cA p.classes.length cc, .bool p.link, .bool p.visited] 52)
      have cL := fun W' => rone_any p.link W'
      have cV := fun W' => rone_any p.visited W'
      have cT : ∀ W', Calls Tryz.prog 35 #[.bool true] W' fun e w' => e = .returned (.int .i64 ((1 : Nat) : Int)) ∧ W' = w' := fun W' => rone_any true W'
      have cF : ∀ W', Calls Tryz.prog 35 #[.bool false] W' fun e w' => e = .returned (.int .i64 ((0 : Nat) : Int)) ∧ W' = w' := fun W' => rone_any false W'
      have hb1 := b1_le p.link
      have hb2 := b1_le p.visited
      obtain ⟨sL, hsL⟩ : ∃ sL, sL = b1 p.link := ⟨_, rfl⟩
      obtain ⟨sV, hsV⟩ : ∃ sV, sV = b1 p.visited := ⟨_, rfl⟩
      rw [← hsL] at cL HW hb1
      rw [← hsV] at cV HW hb2
      obtain ⟨X, hX⟩ : ∃ X, X = ((ps.take k).map wS).sum := ⟨_, rfl⟩
      rw [← hX] at HW hwl ⊢
      have hX2 : X ≤ 20000000000000000 := by omega
      obtain ⟨tg, htg⟩ : ∃ tg : Nat, tg = if p.tag = [] then 0 else 1 := ⟨_, rfl⟩
      rw [← htg] at HW
      clear hp hX hsL hsV hwl
      generalize p.ids.length = a1 at *
      generalize p.classes.length = a2 at *
      obtain ⟨A1, hA1⟩ : ∃ A1, A1 = 10000 * a1 := ⟨_, rfl⟩
      obtain ⟨A2, hA2⟩ : ∃ A2, A2 = 100 * a2 := ⟨_, rfl⟩
      obtain ⟨A3, hA3⟩ : ∃ A3, A3 = 100 * sL := ⟨_, rfl⟩
      obtain ⟨A4, hA4⟩ : ∃ A4, A4 = 100 * sV := ⟨_, rfl⟩
      obtain ⟨s1, hs1⟩ : ∃ s1, s1 = X + A1 := ⟨_, rfl⟩
      obtain ⟨s2, hs2⟩ : ∃ s2, s2 = s1 + A2 := ⟨_, rfl⟩
      obtain ⟨s3, hs3⟩ : ∃ s3, s3 = s2 + A3 := ⟨_, rfl⟩
      obtain ⟨s4, hs4⟩ : ∃ s4, s4 = s3 + A4 := ⟨_, rfl⟩
      obtain ⟨s5, hs5⟩ : ∃ s5, s5 = s4 + tg := ⟨_, rfl⟩
      have htg1 : tg ≤ 1 := by rw [htg]; split <;> omega
      have w1 : IntKind.i64.wrap (10000 * (a1 : Int)) = (A1 : Int) := by rw [IntKind.wrap_i64]; omega
      have w2 : IntKind.i64.wrap ((X : Int) + (A1 : Int)) = (s1 : Int) := by rw [IntKind.wrap_i64]; omega
      have w3' : IntKind.i64.wrap (100 * (a2 : Int)) = (A2 : Int) := by rw [IntKind.wrap_i64]; omega
      have w4 : IntKind.i64.wrap ((s1 : Int) + (A2 : Int)) = (s2 : Int) := by rw [IntKind.wrap_i64]; omega
      have w5 : IntKind.i64.wrap (100 * (sL : Int)) = (A3 : Int) := by rw [IntKind.wrap_i64]; omega
      have w6 : IntKind.i64.wrap ((s2 : Int) + (A3 : Int)) = (s3 : Int) := by rw [IntKind.wrap_i64]; omega
      have w7 : IntKind.i64.wrap (100 * (sV : Int)) = (A4 : Int) := by rw [IntKind.wrap_i64]; omega
      have w8 : IntKind.i64.wrap ((s3 : Int) + (A4 : Int)) = (s4 : Int) := by rw [IntKind.wrap_i64]; omega
      have w9 : IntKind.i64.wrap ((s4 : Int) + (tg : Int)) = (s5 : Int) := by rw [IntKind.wrap_i64]; omega
      have w9x : (s4 : Int) + (tg : Int) = (s4 : Int) → IntKind.i64.wrap (s4 : Int) = (s5 : Int) := fun e => by rw [← e]; exact w9
      have HW5 : Hid (((ps.take (k + 1)).map wS).sum = s5) := by show _ = _; rw [HW.out]; omega
      clear HW hA1 hA2 hA3 hA4 hs1 hs2 hs3 hs4 hs5 htg1 hX2 f1 f2 hb1 hb2 HF
      by_cases t0 : p.tag = []
      · rw [decide_eq_true t0] at u0
        obtain rfl : tg = 0 := by rw [htg, if_pos t0]
        have w10 : IntKind.i64.wrap (s4 : Int) = (s5 : Int) := w9x (by simp)
        clear htg t0 w9x
        generalize toB p.tag = T at *
        go_wp2
        go_quiet ((go_at_call 35; (first | exact Calls.quiet_of_same ((cL _).mono (fun e w' h => ⟨h.1, h.2.symm⟩)) | exact Calls.quiet_of_same ((cV _).mono (fun e w' h => ⟨h.1, h.2.symm⟩)) | exact Calls.quiet_of_same ((cT _).mono (fun e w' h => ⟨h.1, h.2.symm⟩)) | exact Calls.quiet_of_same ((cF _).mono (fun e w' h => ⟨h.1, h.2.symm⟩)))))
        have hBq := below_drewN hBA nq
        have KRq := KRA.drewN nq
        clear w1 w2 w3' w4 w5 w6 w7 w8 w9 w10
        go_wp2
        go_roundw
        case rel => exact ⟨k + 1, by omega, by go_num, by rw [HW5.out], KRq, hBq⟩
        case measure => simp [intOf]; omega
      · rw [decide_eq_false t0] at u0
        obtain rfl : tg = 1 := by rw [htg, if_neg t0]
        have w10 : IntKind.i64.wrap ((s4 : Int) + 1) = (s5 : Int) := w9
        clear htg t0 w9x
        generalize toB p.tag = T at *
        go_wp2
        go_quiet ((go_at_call 35; (first | exact Calls.quiet_of_same ((cL _).mono (fun e w' h => ⟨h.1, h.2.symm⟩)) | exact Calls.quiet_of_same ((cV _).mono (fun e w' h => ⟨h.1, h.2.symm⟩)) | exact Calls.quiet_of_same ((cT _).mono (fun e w' h => ⟨h.1, h.2.symm⟩)) | exact Calls.quiet_of_same ((cF _).mono (fun e w' h => ⟨h.1, h.2.symm⟩)))))
        have hBq := below_drewN hBA nq
        have KRq := KRA.drewN nq
        clear w1 w2 w3' w4 w5 w6 w7 w8 w9 w10
        go_wp2
        go_roundw
        case rel => exact ⟨k + 1, by omega, by go_num, by rw [HW5.out], KRq, hBq⟩
        case measure => simp [intOf]; omega
    · obtain rfl : k = n := by omega
      have hfull : ps.take k = ps := List.take_of_length_le (by rw [HL.out]; exact Nat.le_refl _)
      rw [hfull]
      rw [← HX0.out]
      go_wp2
      go_ret
      exact ⟨rfl, hBr⟩
end Sel
end Go.Proofs.YthacboofbbfmlaaGreatDoor
/- The reference's May. Conditions: as the theorem's premises say. -/
namespace Go.Proofs.YthacboofbbfmlaaGreatDoor
open Go.ChangeShapes Go.WideShapes Go.ChangeAt Go.RowKit Go.Shelf
namespace Sel
open Tok
open RowG (Row)
theorem msim_tag {p : Sim} (h1 : p.tag ≠ []) (h2 : nameB p.tag = false) : maySim p = false := by unfold maySim; rw [decide_eq_false h1, h2]; rfl
theorem msim_ids {p : Sim} (h : p.ids.all nameB = false) : maySim p = false := by unfold maySim; rw [h]; simp
theorem msim_cls {p : Sim} (h : p.classes.all nameB = false) : maySim p = false := by unfold maySim; rw [h]; simp
theorem msim_cnt {p : Sim} (h : 8 < p.ids.length + p.classes.length + (b1 p.link + b1 p.visited)) : maySim p = false := by unfold maySim; rw [decide_eq_false (show ¬ p.ids.length + p.classes.length + (b1 p.link + b1 p.visited) ≤ 8 by omega)]; simp
theorem msim_yes {p : Sim} (h1 : p.tag = [] ∨ nameB p.tag = true) (h2 : p.ids.all nameB = true) (h3 : p.classes.all nameB = true) (h : p.ids.length + p.classes.length + (b1 p.link + b1 p.visited) ≤ 8) : maySim p = true := by
  unfold maySim
  rw [h2, h3, decide_eq_true h]
  rcases h1 with h1 | h1
  · rw [decide_eq_true h1]; rfl
  · rw [h1]; simp
theorem mslr_not {x : Slr} {k : Nat} {p : Sim} (hp : x.parts[k]? = some p) (h : maySim p = false) : maySlr x = false := by
  have : x.parts.all maySim = false := by
    rw [List.all_eq_false]
    exact ⟨p, List.mem_of_getElem? hp, by rw [h]; decide⟩
  unfold maySlr
  rw [this]; simp
section
variable {P : Program} {ops : Array Oper} {Q : Exit → Act → World → Prop} {md : Region.Mode} {S : World → Prop}
/-- An operation that may come up now, and yields in every world that meets S, is taken first. -/
theorem held_take {i : Nat} {oi : Oper} {v : Value} {fuel : Nat} {listed : Array Bool} {a : Act} {w : World} (hi : ops[i]? = some oi)
    (hB : (Region.noSelect ops && (Region.free md ops listed i && (Region.ready md ops listed).contains i)) = true)
    (hQ : ∀ c a w, Q (.panic c) (a.put oi.dst v) w → Q (.panic c) a w) (hw : Region.wanted oi (yielded ops a.tmps) = true) (hS : S w) (hy : ∀ w, S w → (execOp a.eval oi).run P w = .ok (.value v) w)
    (rest : wpAnyH P md ops Q S fuel (listed.setIfInBounds i true) (a.put oi.dst v) w) : wpAnyH P md ops Q S (fuel + 1) listed a w := by
  simp only [Bool.and_eq_true] at hB
  exact wpAnyH_take hi hB.1 hB.2.1 hB.2.2 hQ (Or.inl ⟨hw, hy⟩) hS rest
/-- An operation that may come up now, and that isn't wanted, is passed over first. -/
theorem held_skip {i : Nat} {oi : Oper} {fuel : Nat} {listed : Array Bool} {a : Act} {w : World} (hi : ops[i]? = some oi)
    (hB : (Region.noSelect ops && (Region.free md ops listed i && (Region.ready md ops listed).contains i)) = true)
    (hQ : ∀ c a w, Q (.panic c) (a.put oi.dst undef) w → Q (.panic c) a w) (hw : Region.wanted oi (yielded ops a.tmps) = false) (hS : S w)
    (rest : wpAnyH P md ops Q S fuel (listed.setIfInBounds i true) (a.put oi.dst undef) w) : wpAnyH P md ops Q S (fuel + 1) listed a w := by
  simp only [Bool.and_eq_true] at hB
  exact wpAnyH_take hi hB.1 hB.2.1 hB.2.2 hQ (Or.inr ⟨hw, rfl⟩) hS rest
end
set_option maxRecDepth 100000 in
set_option maxHeartbeats 64000000 in
theorem rmay_any (A K : Option Addr) (n c m d : Nat) (x : Slr) (hn : n ≤ 1000000) (_hm : m ≤ 1000000) (hf : Few x.parts) (hs : ShX x.parts) (w : World) (h : SLR w w.heap.size A n x.parts) (h2 : BLR w w.heap.size K m x.close) :
    Calls Tryz.prog 13 #[.agg #[.slice A n c, .slice K m d]] w fun e w' => e = .returned (.bool (maySlr x)) ∧ Below w.heap.size w w' := by
  have HL := Lib.hid h.len
  have HL2 := Lib.hid h2.len
  have HF := Lib.hid hf
  have HS := Lib.hid hs
  have hB := below_al (Below.refl w.heap.size w) (.cells #[.slice A n c, .slice K m d] 30)
  have K0 := Blk.new w 30 #[.slice A n c, .slice K m d]
  obtain ⟨z0, z1⟩ := blk2 K0
  obtain ⟨R, hR⟩ : ∃ R, R = maySlr x := ⟨_, rfl⟩
  rw [← hR]
  have HR := Lib.hid hR
  have n0 : (0 : Int) ≤ (n : Int) := Int.natCast_nonneg _
  clear hf hs hR h2
  by_cases t1 : n < 1
  · obtain rfl : R = false := by rw [HR.out]; unfold maySlr; rw [HL.out, decide_eq_false (by omega)]; rfl
    have t1i : (n : Int) < 1 := by omega
    go_enter Tryz.func13, Tryz.ntmps13
    go_wp2
    go_ret
    exact ⟨rfl, hB⟩
  have t1i : ¬ (n : Int) < 1 := by omega
  by_cases t2 : 8 < n
  · obtain rfl : R = false := by rw [HR.out]; unfold maySlr; rw [HL.out, decide_eq_false (show ¬ n ≤ 8 by omega)]; simp
    have t2i : (8 : Int) < (n : Int) := by omega
    go_enter Tryz.func13, Tryz.ntmps13
    go_wp2
    go_ret
    exact ⟨rfl, hB⟩
  have t2i : ¬ (8 : Int) < (n : Int) := by omega
  obtain ⟨n1, hn1⟩ : ∃ n1, n = n1 + 1 := ⟨n - 1, by omega⟩
  have hn1i : (n : Int) - 1 = (n1 : Int) := by omega
  have HN1 := Lib.hid hn1
  clear hn1
  by_cases t3 : m = n1
  · subst t3
    go_enter Tryz.func13, Tryz.ntmps13
    go_wp2
    clear z0 z1
    generalize w.alloc (.cells #[.slice A n c, .slice K m d] 30) = W at *
    go_loopw [4] (fun iv wr => ∃ k : Nat, k ≤ n ∧ iv = .int .i64 k ∧ Hid ((x.parts.take k).all maySim = true) ∧ Blk wr w.heap.size 30 #[.slice A n c, .slice K m d] ∧ Below w.heap.size w wr) (fun iv _ => n - (intOf iv).toNat)
    case atStart => exact ⟨0, Nat.zero_le _, rfl, rfl, K0, hB⟩
    case round =>
      obtain ⟨k, hk, rfl, HK, KR, hBr⟩ := hrel
      obtain ⟨y0, y1⟩ := blk2 KR
      clear K0 hB
      have k0 : (0 : Int) ≤ (k : Int) := Int.natCast_nonneg _
      by_cases hlt : k < n
      · obtain ⟨p, hp⟩ : ∃ p, x.parts[k]? = some p := ⟨_, List.getElem?_eq_getElem (by rw [HL.out]; exact hlt)⟩
        obtain ⟨ad, iA, ic, cA, cc, rfl, hb, e0, e1, e2, e3, e4, r1, r2⟩ := (h.below hBr (Nat.le_refl _)).at_ hp
        obtain ⟨f1, f2⟩ := HF.out p (List.mem_of_getElem? hp)
        obtain ⟨g1, g2, g3⟩ := HS.out p (List.mem_of_getElem? hp)
        have hki : (k : Int) < (n : Int) := by omega
        have u0 := lit_eq p.tag []
        have HNO : Hid (maySim p = false → R = false) := fun e => by rw [HR.out]; exact mslr_not hp e
        have HYES : Hid (maySim p = true → (x.parts.take (k + 1)).all maySim = true) := fun e => by
          rw [List.take_add_one, hp, List.all_append, HK.out]
          simp [e]
        have cT := fun W' => Rt.name_any p.tag (by omega) W'
        have cI := fun W' (hb : Below wr.heap.size wr W') => rnames_any iA p.ids.length ic p.ids (fun t ht => by have := g2 t ht; omega) f1 W' ((Reads.below r1 (hb.mono hBr.size)).more (Nat.le_trans hBr.size hb.size))
        have cC := fun W' (hb : Below wr.heap.size wr W') => rnames_any cA p.classes.length cc p.classes (fun t ht => by have := g3 t ht; omega) f2 W' ((Reads.below r2 (hb.mono hBr.size)).more (Nat.le_trans hBr.size hb.size))
        have cL := fun W' => rone_any p.link W'
        have cV := fun W' => rone_any p.visited W'
        have hb1 := b1_le p.link
        have hb2 := b1_le p.visited
        have KB := Blk.new wr 52 #[.string (toB p.tag), .slice iA p.ids.length ic, .slice cA p.classes.length cc, .bool p.link, .bool p.visited]
        have hBA := below_al (Below.refl wr.heap.size wr) (.cells #[.string (toB p.tag), .slice iA p.ids.length ic, .slice cA p.classes.length cc, .bool p.link, .bool p.visited] 52)
        have hcN := @msim_cnt p
        have hcY := @msim_yes p
        have hiN := @msim_ids p
        have hlN := @msim_cls p
        have htN := @msim_tag p
        obtain ⟨sL, hsL⟩ : ∃ sL, sL = b1 p.link := ⟨_, rfl⟩
        obtain ⟨sV, hsV⟩ : ∃ sV, sV = b1 p.visited := ⟨_, rfl⟩
        rw [← hsL, ← hsV] at hcN hcY
        rw [← hsL] at cL hb1
        rw [← hsV] at cV hb2
        clear hsL hsV r1 r2 g1 g2 g3 hp
        have Q1 := Lib.hid hcN
        have Q2 := Lib.hid hcY
        have Q3 := Lib.hid hiN
        have Q4 := Lib.hid hlN
        have Q5 := Lib.hid htN
        clear hcN hcY hiN hlN htN
        generalize p.ids.length = a1 at *
        generalize p.classes.length = a2 at *
        have hsum : (a1 : Int) + (a2 : Int) = ((a1 + a2 : Nat) : Int) := by omega
        obtain ⟨bi, hbi⟩ : ∃ bi, bi = p.ids.all nameB := ⟨_, rfl⟩
        obtain ⟨bc, hbc⟩ : ∃ bc, bc = p.classes.all nameB := ⟨_, rfl⟩
        rw [← hbi] at cI
        rw [← hbc] at cC
        have HBI := Lib.hid hbi
        have HBC := Lib.hid hbc
        clear hbi hbc hsum
        have SK : ∀ W', Blk W' wr.heap.size 52 #[.string (toB p.tag), .slice iA a1 ic, .slice cA a2 cc, .bool p.link, .bool p.visited] → Below wr.heap.size wr W' → W'.cell? ⟨wr.heap.size, 0, none⟩ = some (.string (toB p.tag)) ∧ W'.cell? ⟨wr.heap.size, 1, none⟩ = some (.slice iA a1 ic) ∧ W'.cell? ⟨wr.heap.size, 2, none⟩ = some (.slice cA a2 cc) ∧ W'.cell? ⟨wr.heap.size, 3, none⟩ = some (.bool p.link) ∧ W'.cell? ⟨wr.heap.size, 4, none⟩ = some (.bool p.visited) ∧ Blk W' wr.heap.size 52 #[.string (toB p.tag), .slice iA a1 ic, .slice cA a2 cc, .bool p.link, .bool p.visited] ∧ Below wr.heap.size wr W' := by
          intro W' K B
          obtain ⟨x0, x1, x2, x3, x4⟩ := blk5 K
          exact ⟨x0, x1, x2, x3, x4, K, B⟩
        have cI' : ∀ W', (W'.cell? ⟨wr.heap.size, 0, none⟩ = some (.string (toB p.tag)) ∧ W'.cell? ⟨wr.heap.size, 1, none⟩ = some (.slice iA a1 ic) ∧ W'.cell? ⟨wr.heap.size, 2, none⟩ = some (.slice cA a2 cc) ∧ W'.cell? ⟨wr.heap.size, 3, none⟩ = some (.bool p.link) ∧ W'.cell? ⟨wr.heap.size, 4, none⟩ = some (.bool p.visited) ∧ Blk W' wr.heap.size 52 #[.string (toB p.tag), .slice iA a1 ic, .slice cA a2 cc, .bool p.link, .bool p.visited] ∧ Below wr.heap.size wr W') → Calls Tryz.prog 34 #[.slice iA a1 ic] W' fun e w' => e = .returned (.bool bi) ∧ (w'.cell? ⟨wr.heap.size, 0, none⟩ = some (.string (toB p.tag)) ∧ w'.cell? ⟨wr.heap.size, 1, none⟩ = some (.slice iA a1 ic) ∧ w'.cell? ⟨wr.heap.size, 2, none⟩ = some (.slice cA a2 cc) ∧ w'.cell? ⟨wr.heap.size, 3, none⟩ = some (.bool p.link) ∧ w'.cell? ⟨wr.heap.size, 4, none⟩ = some (.bool p.visited) ∧ Blk w' wr.heap.size 52 #[.string (toB p.tag), .slice iA a1 ic, .slice cA a2 cc, .bool p.link, .bool p.visited] ∧ Below wr.heap.size wr w') := fun W' hS => (cI W' hS.2.2.2.2.2.2).mono (by
          rintro e w' ⟨rfl, hb⟩
          exact ⟨rfl, SK w' (hS.2.2.2.2.2.1.next hb) (below_next hS.2.2.2.2.2.2 hb)⟩)
        have cC' : ∀ W', (W'.cell? ⟨wr.heap.size, 0, none⟩ = some (.string (toB p.tag)) ∧ W'.cell? ⟨wr.heap.size, 1, none⟩ = some (.slice iA a1 ic) ∧ W'.cell? ⟨wr.heap.size, 2, none⟩ = some (.slice cA a2 cc) ∧ W'.cell? ⟨wr.heap.size, 3, none⟩ = some (.bool p.link) ∧ W'.cell? ⟨wr.heap.size, 4, none⟩ = some (.bool p.visited) ∧ Blk W' wr.heap.size 52 #[.string (toB p.tag), .slice iA a1 ic, .slice cA a2 cc, .bool p.link, .bool p.visited] ∧ Below wr.heap.size wr W') → Calls Tryz.prog 34 #[.slice cA a2 cc] W' fun e w' => e = .returned (.bool bc) ∧ (w'.cell? ⟨wr.heap.size, 0, none⟩ = some (.string (toB p.tag)) ∧ w'.cell? ⟨wr.heap.size, 1, none⟩ = some (.slice iA a1 ic) ∧ w'.cell? ⟨wr.heap.size, 2, none⟩ = some (.slice cA a2 cc) ∧ w'.cell? ⟨wr.heap.size, 3, none⟩ = some (.bool p.link) ∧ w'.cell? ⟨wr.heap.size, 4, none⟩ = some (.bool p.visited) ∧ Blk w' wr.heap.size 52 #[.string (toB p.tag), .slice iA a1 ic, .slice cA a2 cc, .bool p.link, .bool p.visited] ∧ Below wr.heap.size wr w') := fun W' hS => (cC W' hS.2.2.2.2.2.2).mono (by
          rintro e w' ⟨rfl, hb⟩
          exact ⟨rfl, SK w' (hS.2.2.2.2.2.1.next hb) (below_next hS.2.2.2.2.2.2 hb)⟩)
        have cL' : ∀ W', (W'.cell? ⟨wr.heap.size, 0, none⟩ = some (.string (toB p.tag)) ∧ W'.cell? ⟨wr.heap.size, 1, none⟩ = some (.slice iA a1 ic) ∧ W'.cell? ⟨wr.heap.size, 2, none⟩ = some (.slice cA a2 cc) ∧ W'.cell? ⟨wr.heap.size, 3, none⟩ = some (.bool p.link) ∧ W'.cell? ⟨wr.heap.size, 4, none⟩ = some (.bool p.visited) ∧ Blk W' wr.heap.size 52 #[.string (toB p.tag), .slice iA a1 ic, .slice cA a2 cc, .bool p.link, .bool p.visited] ∧ Below wr.heap.size wr W') → Calls Tryz.prog 35 #[.bool p.link] W' fun e w' => e = .returned (.int .i64 (sL : Nat)) ∧ (w'.cell? ⟨wr.heap.size, 0, none⟩ = some (.string (toB p.tag)) ∧ w'.cell? ⟨wr.heap.size, 1, none⟩ = some (.slice iA a1 ic) ∧ w'.cell? ⟨wr.heap.size, 2, none⟩ = some (.slice cA a2 cc) ∧ w'.cell? ⟨wr.heap.size, 3, none⟩ = some (.bool p.link) ∧ w'.cell? ⟨wr.heap.size, 4, none⟩ = some (.bool p.visited) ∧ Blk w' wr.heap.size 52 #[.string (toB p.tag), .slice iA a1 ic, .slice cA a2 cc, .bool p.link, .bool p.visited] ∧ Below wr.heap.size wr w') := fun W' hS => (cL W').mono (by
          rintro e w' ⟨rfl, hb⟩
          exact ⟨rfl, by subst hb; exact hS⟩)
        have cV' : ∀ W', (W'.cell? ⟨wr.heap.size, 0, none⟩ = some (.string (toB p.tag)) ∧ W'.cell? ⟨wr.heap.size, 1, none⟩ = some (.slice iA a1 ic) ∧ W'.cell? ⟨wr.heap.size, 2, none⟩ = some (.slice cA a2 cc) ∧ W'.cell? ⟨wr.heap.size, 3, none⟩ = some (.bool p.link) ∧ W'.cell? ⟨wr.heap.size, 4, none⟩ = some (.bool p.visited) ∧ Blk W' wr.heap.size 52 #[.string (toB p.tag), .slice iA a1 ic, .slice cA a2 cc, .bool p.link, .bool p.visited] ∧ Below wr.heap.size wr W') → Calls Tryz.prog 35 #[.bool p.visited] W' fun e w' => e = .returned (.int .i64 (sV : Nat)) ∧ (w'.cell? ⟨wr.heap.size, 0, none⟩ = some (.string (toB p.tag)) ∧ w'.cell? ⟨wr.heap.size, 1, none⟩ = some (.slice iA a1 ic) ∧ w'.cell? ⟨wr.heap.size, 2, none⟩ = some (.slice cA a2 cc) ∧ w'.cell? ⟨wr.heap.size, 3, none⟩ = some (.bool p.link) ∧ w'.cell? ⟨wr.heap.size, 4, none⟩ = some (.bool p.visited) ∧ Blk w' wr.heap.size 52 #[.string (toB p.tag), .slice iA a1 ic, .slice cA a2 cc, .bool p.link, .bool p.visited] ∧ Below wr.heap.size wr w') := fun W' hS => (cV W').mono (by
          rintro e w' ⟨rfl, hb⟩
          exact ⟨rfl, by subst hb; exact hS⟩)
        have cT' : ∀ W', (W'.cell? ⟨wr.heap.size, 0, none⟩ = some (.string (toB p.tag)) ∧ W'.cell? ⟨wr.heap.size, 1, none⟩ = some (.slice iA a1 ic) ∧ W'.cell? ⟨wr.heap.size, 2, none⟩ = some (.slice cA a2 cc) ∧ W'.cell? ⟨wr.heap.size, 3, none⟩ = some (.bool p.link) ∧ W'.cell? ⟨wr.heap.size, 4, none⟩ = some (.bool p.visited) ∧ Blk W' wr.heap.size 52 #[.string (toB p.tag), .slice iA a1 ic, .slice cA a2 cc, .bool p.link, .bool p.visited] ∧ Below wr.heap.size wr W') → Calls Tryz.prog 33 #[.string (toB p.tag)] W' fun e w' => e = .returned (.bool (nameB p.tag)) ∧ (w'.cell? ⟨wr.heap.size, 0, none⟩ = some (.string (toB p.tag)) ∧ w'.cell? ⟨wr.heap.size, 1, none⟩ = some (.slice iA a1 ic) ∧ w'.cell? ⟨wr.heap.size, 2, none⟩ = some (.slice cA a2 cc) ∧ w'.cell? ⟨wr.heap.size, 3, none⟩ = some (.bool p.link) ∧ w'.cell? ⟨wr.heap.size, 4, none⟩ = some (.bool p.visited) ∧ Blk w' wr.heap.size 52 #[.string (toB p.tag), .slice iA a1 ic, .slice cA a2 cc, .bool p.link, .bool p.visited] ∧ Below wr.heap.size wr w') := fun W' hS => (cT W').mono (by
          rintro e w' ⟨rfl, hb⟩
          exact ⟨rfl, SK w' (hS.2.2.2.2.2.1.next hb) (below_next hS.2.2.2.2.2.2 hb)⟩)
        clear cI cC cL cV cT
        have hS0 := SK (wr.alloc (.cells #[.string (toB p.tag), .slice iA a1 ic, .slice cA a2 cc, .bool p.link, .bool p.visited] 52)).drew KB.drew hBA.drew
        obtain ⟨a12, ha12⟩ : ∃ a12, a12 = a1 + a2 := ⟨_, rfl⟩
        obtain ⟨a13, ha13⟩ : ∃ a13, a13 = a12 + sL := ⟨_, rfl⟩
        obtain ⟨a14, ha14⟩ : ∃ a14, a14 = a13 + sV := ⟨_, rfl⟩
        have hc8 : a14 = a1 + a2 + (sL + sV) := by omega
        rw [← hc8] at Q1 Q2
        have q12 : IntKind.i64.wrap ((a1 : Int) + (a2 : Int)) = (a12 : Int) := by rw [IntKind.wrap_i64]; omega
        have q13 : IntKind.i64.wrap ((a12 : Int) + (sL : Int)) = (a13 : Int) := by rw [IntKind.wrap_i64]; omega
        have q14 : IntKind.i64.wrap ((a13 : Int) + (sV : Int)) = (a14 : Int) := by rw [IntKind.wrap_i64]; omega
        clear ha12 ha13 ha14 hc8 f1 f2 hb1 hb2 HF HS HL2
        generalize hT : toB p.tag = T at *
        by_cases t0 : p.tag = []
        · rw [decide_eq_true t0] at u0
          clear hT
          cases bi with
          | false =>
            obtain rfl : R = false := HNO.out (Q3.out HBI.out.symm)
            clear HNO HYES HK HR Q1 Q2 Q3 Q4 Q5 HBI HBC
            go_upto_region 8 with (fail)
            refine wp_region_held_drew (S := (fun W' => W'.cell? ⟨wr.heap.size, 0, none⟩ = some (.string T) ∧ W'.cell? ⟨wr.heap.size, 1, none⟩ = some (.slice iA a1 ic) ∧ W'.cell? ⟨wr.heap.size, 2, none⟩ = some (.slice cA a2 cc) ∧ W'.cell? ⟨wr.heap.size, 3, none⟩ = some (.bool p.link) ∧ W'.cell? ⟨wr.heap.size, 4, none⟩ = some (.bool p.visited) ∧ Blk W' wr.heap.size 52 #[.string T, .slice iA a1 ic, .slice cA a2 cc, .bool p.link, .bool p.visited] ∧ Below wr.heap.size wr W')) (by kernel_rfl) ?_ (fun hHeld => ?_)
            · exact hS0
            refine held_take (i := 0) (v := ?_) rfl (by kernel_rfl) (fun _ _ _ h => h) (by kernel_rfl) (by assumption) ?_ ?_
            rotate_left
            · intro w9 hSw; (try dsimp only at hSw); (try go_split_ands); go_simp; (try with_reducible rfl)
            (try simp only [Act.put]); (try simp only [List.setIfInBounds_toArray]); (try simp only [List.set_cons_succ]); (try simp only [List.set_cons_zero])
            refine held_take (i := 1) (v := ?_) rfl (by kernel_rfl) (fun _ _ _ h => h) (by kernel_rfl) (by assumption) ?_ ?_
            rotate_left
            · intro w9 hSw; (try dsimp only at hSw); (try go_split_ands); go_simp; (try with_reducible rfl)
            (try simp only [Act.put]); (try simp only [List.setIfInBounds_toArray]); (try simp only [List.set_cons_succ]); (try simp only [List.set_cons_zero])
            refine held_take (i := 2) (v := ?_) rfl (by kernel_rfl) (fun _ _ _ h => h) (by kernel_rfl) (by assumption) ?_ ?_
            rotate_left
            · intro w9 hSw; (try dsimp only at hSw); (try go_split_ands); go_simp; (try with_reducible rfl)
            (try simp only [Act.put]); (try simp only [List.setIfInBounds_toArray]); (try simp only [List.set_cons_succ]); (try simp only [List.set_cons_zero])
            refine held_take (i := 3) (v := ?_) rfl (by kernel_rfl) (fun _ _ _ h => h) (by kernel_rfl) (by assumption) ?_ ?_
            rotate_left
            · intro w9 hSw; (try dsimp only at hSw); (try go_split_ands); go_simp; (try with_reducible rfl)
            (try simp only [Act.put]); (try simp only [List.setIfInBounds_toArray]); (try simp only [List.set_cons_succ]); (try simp only [List.set_cons_zero])
            refine held_skip (i := 4) rfl (by kernel_rfl) (fun _ _ _ h => h) (by kernel_rfl) (by assumption) ?_
            (try simp only [Act.put]); (try simp only [List.setIfInBounds_toArray]); (try simp only [List.set_cons_succ]); (try simp only [List.set_cons_zero])
            refine held_skip (i := 5) rfl (by kernel_rfl) (fun _ _ _ h => h) (by kernel_rfl) (by assumption) ?_
            (try simp only [Act.put]); (try simp only [List.setIfInBounds_toArray]); (try simp only [List.set_cons_succ]); (try simp only [List.set_cons_zero])
            refine wpAnyH_ready (rs := [6]) (by kernel_rfl) (by simp) ?_
            refine AllReadyH.cons rfl (fun K hK => ?_) AllReadyH.nil
            go_simp
            refine hK.out _ _ (by assumption) (fun hHeld => ?_)
            clear hK K
            (try simp only [Act.put]); (try simp only [List.setIfInBounds_toArray]); (try simp only [List.set_cons_succ]); (try simp only [List.set_cons_zero])
            refine held_skip (i := 7) rfl (by kernel_rfl) (fun _ _ _ h => h) (by kernel_rfl) (by assumption) ?_
            (try simp only [Act.put]); (try simp only [List.setIfInBounds_toArray]); (try simp only [List.set_cons_succ]); (try simp only [List.set_cons_zero])
            refine held_take (i := 8) (v := ?_) rfl (by kernel_rfl) (fun _ _ _ h => h) (by kernel_rfl) (by assumption) ?_ ?_
            rotate_left
            · intro w9 hSw; (try dsimp only at hSw); (try go_split_ands); go_simp; (try with_reducible rfl)
            (try simp only [Act.put]); (try simp only [List.setIfInBounds_toArray]); (try simp only [List.set_cons_succ]); (try simp only [List.set_cons_zero])
            refine held_take (i := 9) (v := ?_) rfl (by kernel_rfl) (fun _ _ _ h => h) (by kernel_rfl) (by assumption) ?_ ?_
            rotate_left
            · intro w9 hSw; (try dsimp only at hSw); (try go_split_ands); go_simp; (try with_reducible rfl)
            (try simp only [Act.put]); (try simp only [List.setIfInBounds_toArray]); (try simp only [List.set_cons_succ]); (try simp only [List.set_cons_zero])
            refine held_take (i := 10) (v := ?_) rfl (by kernel_rfl) (fun _ _ _ h => h) (by kernel_rfl) (by assumption) ?_ ?_
            rotate_left
            · intro w9 hSw; (try dsimp only at hSw); (try go_split_ands); go_simp; (try with_reducible rfl)
            (try simp only [Act.put]); (try simp only [List.setIfInBounds_toArray]); (try simp only [List.set_cons_succ]); (try simp only [List.set_cons_zero])
            refine held_take (i := 11) (v := ?_) rfl (by kernel_rfl) (fun _ _ _ h => h) (by kernel_rfl) (by assumption) ?_ ?_
            rotate_left
            · intro w9 hSw; (try dsimp only at hSw); (try go_split_ands); go_simp; (try with_reducible rfl)
            (try simp only [Act.put]); (try simp only [List.setIfInBounds_toArray]); (try simp only [List.set_cons_succ]); (try simp only [List.set_cons_zero])
            refine wpAnyH_ready (rs := [12]) (by kernel_rfl) (by simp) ?_
            refine AllReadyH.cons rfl (fun K hK => ?_) AllReadyH.nil
            go_simp
            go_at_call 34; (with_reducible refine (cI' _ (by assumption)).mono ?_); rintro e w32 ⟨rfl, hS32⟩
            refine hK.out _ _ hS32 (fun hHeld => ?_)
            clear hK K
            (try simp only [Act.put]); (try simp only [List.setIfInBounds_toArray]); (try simp only [List.set_cons_succ]); (try simp only [List.set_cons_zero])
            refine held_take (i := 13) (v := ?_) rfl (by kernel_rfl) (fun _ _ _ h => h) (by kernel_rfl) (by assumption) ?_ ?_
            rotate_left
            · intro w9 hSw; (try dsimp only at hSw); (try go_split_ands); go_simp; (try with_reducible rfl)
            (try simp only [Act.put]); (try simp only [List.setIfInBounds_toArray]); (try simp only [List.set_cons_succ]); (try simp only [List.set_cons_zero])
            refine held_take (i := 14) (v := ?_) rfl (by kernel_rfl) (fun _ _ _ h => h) (by kernel_rfl) (by assumption) ?_ ?_
            rotate_left
            · intro w9 hSw; (try dsimp only at hSw); (try go_split_ands); go_simp; (try with_reducible rfl)
            (try simp only [Act.put]); (try simp only [List.setIfInBounds_toArray]); (try simp only [List.set_cons_succ]); (try simp only [List.set_cons_zero])
            refine held_take (i := 15) (v := ?_) rfl (by kernel_rfl) (fun _ _ _ h => h) (by kernel_rfl) (by assumption) ?_ ?_
            rotate_left
            · intro w9 hSw; (try dsimp only at hSw); (try go_split_ands); go_simp; (try with_reducible rfl)
            (try simp only [Act.put]); (try simp only [List.setIfInBounds_toArray]); (try simp only [List.set_cons_succ]); (try simp only [List.set_cons_zero])
            refine held_skip (i := 16) rfl (by kernel_rfl) (fun _ _ _ h => h) (by kernel_rfl) (by assumption) ?_
            (try simp only [Act.put]); (try simp only [List.setIfInBounds_toArray]); (try simp only [List.set_cons_succ]); (try simp only [List.set_cons_zero])
            refine held_skip (i := 17) rfl (by kernel_rfl) (fun _ _ _ h => h) (by kernel_rfl) (by assumption) ?_
            (try simp only [Act.put]); (try simp only [List.setIfInBounds_toArray]); (try simp only [List.set_cons_succ]); (try simp only [List.set_cons_zero])
            refine wpAnyH_ready (rs := [18]) (by kernel_rfl) (by simp) ?_
            refine AllReadyH.cons rfl (fun K hK => ?_) AllReadyH.nil
            go_simp
            refine hK.out _ _ (by assumption) (fun hHeld => ?_)
            clear hK K
            (try simp only [Act.put]); (try simp only [List.setIfInBounds_toArray]); (try simp only [List.set_cons_succ]); (try simp only [List.set_cons_zero])
            refine held_skip (i := 19) rfl (by kernel_rfl) (fun _ _ _ h => h) (by kernel_rfl) (by assumption) ?_
            (try simp only [Act.put]); (try simp only [List.setIfInBounds_toArray]); (try simp only [List.set_cons_succ]); (try simp only [List.set_cons_zero])
            refine held_take (i := 20) (v := ?_) rfl (by kernel_rfl) (fun _ _ _ h => h) (by kernel_rfl) (by assumption) ?_ ?_
            rotate_left
            · intro w9 hSw; (try dsimp only at hSw); (try go_split_ands); go_simp; (try with_reducible rfl)
            (try simp only [Act.put]); (try simp only [List.setIfInBounds_toArray]); (try simp only [List.set_cons_succ]); (try simp only [List.set_cons_zero])
            refine held_take (i := 21) (v := ?_) rfl (by kernel_rfl) (fun _ _ _ h => h) (by kernel_rfl) (by assumption) ?_ ?_
            rotate_left
            · intro w9 hSw; (try dsimp only at hSw); (try go_split_ands); go_simp; (try with_reducible rfl)
            (try simp only [Act.put]); (try simp only [List.setIfInBounds_toArray]); (try simp only [List.set_cons_succ]); (try simp only [List.set_cons_zero])
            refine held_skip (i := 22) rfl (by kernel_rfl) (fun _ _ _ h => h) (by kernel_rfl) (by assumption) ?_
            (try simp only [Act.put]); (try simp only [List.setIfInBounds_toArray]); (try simp only [List.set_cons_succ]); (try simp only [List.set_cons_zero])
            refine held_skip (i := 23) rfl (by kernel_rfl) (fun _ _ _ h => h) (by kernel_rfl) (by assumption) ?_
            (try simp only [Act.put]); (try simp only [List.setIfInBounds_toArray]); (try simp only [List.set_cons_succ]); (try simp only [List.set_cons_zero])
            refine held_skip (i := 24) rfl (by kernel_rfl) (fun _ _ _ h => h) (by kernel_rfl) (by assumption) ?_
            (try simp only [Act.put]); (try simp only [List.setIfInBounds_toArray]); (try simp only [List.set_cons_succ]); (try simp only [List.set_cons_zero])
            refine held_skip (i := 25) rfl (by kernel_rfl) (fun _ _ _ h => h) (by kernel_rfl) (by assumption) ?_
            (try simp only [Act.put]); (try simp only [List.setIfInBounds_toArray]); (try simp only [List.set_cons_succ]); (try simp only [List.set_cons_zero])
            refine held_skip (i := 26) rfl (by kernel_rfl) (fun _ _ _ h => h) (by kernel_rfl) (by assumption) ?_
            (try simp only [Act.put]); (try simp only [List.setIfInBounds_toArray]); (try simp only [List.set_cons_succ]); (try simp only [List.set_cons_zero])
            refine held_skip (i := 27) rfl (by kernel_rfl) (fun _ _ _ h => h) (by kernel_rfl) (by assumption) ?_
            (try simp only [Act.put]); (try simp only [List.setIfInBounds_toArray]); (try simp only [List.set_cons_succ]); (try simp only [List.set_cons_zero])
            refine held_skip (i := 28) rfl (by kernel_rfl) (fun _ _ _ h => h) (by kernel_rfl) (by assumption) ?_
            (try simp only [Act.put]); (try simp only [List.setIfInBounds_toArray]); (try simp only [List.set_cons_succ]); (try simp only [List.set_cons_zero])
            refine held_skip (i := 29) rfl (by kernel_rfl) (fun _ _ _ h => h) (by kernel_rfl) (by assumption) ?_
            (try simp only [Act.put]); (try simp only [List.setIfInBounds_toArray]); (try simp only [List.set_cons_succ]); (try simp only [List.set_cons_zero])
            refine held_skip (i := 30) rfl (by kernel_rfl) (fun _ _ _ h => h) (by kernel_rfl) (by assumption) ?_
            (try simp only [Act.put]); (try simp only [List.setIfInBounds_toArray]); (try simp only [List.set_cons_succ]); (try simp only [List.set_cons_zero])
            refine held_skip (i := 33) rfl (by kernel_rfl) (fun _ _ _ h => h) (by kernel_rfl) (by assumption) ?_
            (try simp only [Act.put]); (try simp only [List.setIfInBounds_toArray]); (try simp only [List.set_cons_succ]); (try simp only [List.set_cons_zero])
            refine held_skip (i := 34) rfl (by kernel_rfl) (fun _ _ _ h => h) (by kernel_rfl) (by assumption) ?_
            (try simp only [Act.put]); (try simp only [List.setIfInBounds_toArray]); (try simp only [List.set_cons_succ]); (try simp only [List.set_cons_zero])
            refine wpAnyH_ready (rs := [31]) (by kernel_rfl) (by simp) ?_
            refine AllReadyH.cons rfl (fun K hK => ?_) AllReadyH.nil
            go_simp
            refine hK.out _ _ (by assumption) (fun hHeld => ?_)
            clear hK K
            (try simp only [Act.put]); (try simp only [List.setIfInBounds_toArray]); (try simp only [List.set_cons_succ]); (try simp only [List.set_cons_zero])
            refine held_skip (i := 32) rfl (by kernel_rfl) (fun _ _ _ h => h) (by kernel_rfl) (by assumption) ?_
            (try simp only [Act.put]); (try simp only [List.setIfInBounds_toArray]); (try simp only [List.set_cons_succ]); (try simp only [List.set_cons_zero])
            refine wpAnyH_ready (rs := [35]) (by kernel_rfl) (by simp) ?_
            refine AllReadyH.cons rfl (fun K hK => ?_) AllReadyH.nil
            go_simp
            refine hK.out _ _ (by assumption) (fun hHeld => ?_)
            clear hK K
            (try simp only [Act.put]); (try simp only [List.setIfInBounds_toArray]); (try simp only [List.set_cons_succ]); (try simp only [List.set_cons_zero])
            refine held_skip (i := 36) rfl (by kernel_rfl) (fun _ _ _ h => h) (by kernel_rfl) (by assumption) ?_
            (try simp only [Act.put]); (try simp only [List.setIfInBounds_toArray]); (try simp only [List.set_cons_succ]); (try simp only [List.set_cons_zero])
            refine held_skip (i := 37) rfl (by kernel_rfl) (fun _ _ _ h => h) (by kernel_rfl) (by assumption) ?_
            (try simp only [Act.put]); (try simp only [List.setIfInBounds_toArray]); (try simp only [List.set_cons_succ]); (try simp only [List.set_cons_zero])
            refine held_take (i := 38) (v := ?_) rfl (by kernel_rfl) (fun _ _ _ h => h) (by kernel_rfl) (by assumption) ?_ ?_
            rotate_left
            · intro w9 hSw; (try dsimp only at hSw); (try go_split_ands); go_simp; (try with_reducible rfl)
            (try simp only [Act.put]); (try simp only [List.setIfInBounds_toArray]); (try simp only [List.set_cons_succ]); (try simp only [List.set_cons_zero])
            refine wpAnyH_done (by kernel_rfl) ?_ _
            obtain ⟨-, -, -, -, -, -, hB3⟩ := hHeld
            have hB4 := below_next hBr hB3
            have KR4 := KR.next hB3
            clear hS0 SK
            go_wp2
            go_ret
            exact ⟨rfl, hB4⟩
          | true =>
            cases bc with
            | false =>
              obtain rfl : R = false := HNO.out (Q4.out HBC.out.symm)
              clear HNO HYES HK HR Q1 Q2 Q3 Q4 Q5 HBI HBC
              go_upto_region 8 with (fail)
              refine wp_region_held_drew (S := (fun W' => W'.cell? ⟨wr.heap.size, 0, none⟩ = some (.string T) ∧ W'.cell? ⟨wr.heap.size, 1, none⟩ = some (.slice iA a1 ic) ∧ W'.cell? ⟨wr.heap.size, 2, none⟩ = some (.slice cA a2 cc) ∧ W'.cell? ⟨wr.heap.size, 3, none⟩ = some (.bool p.link) ∧ W'.cell? ⟨wr.heap.size, 4, none⟩ = some (.bool p.visited) ∧ Blk W' wr.heap.size 52 #[.string T, .slice iA a1 ic, .slice cA a2 cc, .bool p.link, .bool p.visited] ∧ Below wr.heap.size wr W')) (by kernel_rfl) ?_ (fun hHeld => ?_)
              · exact hS0
              refine held_take (i := 0) (v := ?_) rfl (by kernel_rfl) (fun _ _ _ h => h) (by kernel_rfl) (by assumption) ?_ ?_
              rotate_left
              · intro w9 hSw; (try dsimp only at hSw); (try go_split_ands); go_simp; (try with_reducible rfl)
              (try simp only [Act.put]); (try simp only [List.setIfInBounds_toArray]); (try simp only [List.set_cons_succ]); (try simp only [List.set_cons_zero])
              refine held_take (i := 1) (v := ?_) rfl (by kernel_rfl) (fun _ _ _ h => h) (by kernel_rfl) (by assumption) ?_ ?_
              rotate_left
              · intro w9 hSw; (try dsimp only at hSw); (try go_split_ands); go_simp; (try with_reducible rfl)
              (try simp only [Act.put]); (try simp only [List.setIfInBounds_toArray]); (try simp only [List.set_cons_succ]); (try simp only [List.set_cons_zero])
              refine held_take (i := 2) (v := ?_) rfl (by kernel_rfl) (fun _ _ _ h => h) (by kernel_rfl) (by assumption) ?_ ?_
              rotate_left
              · intro w9 hSw; (try dsimp only at hSw); (try go_split_ands); go_simp; (try with_reducible rfl)
              (try simp only [Act.put]); (try simp only [List.setIfInBounds_toArray]); (try simp only [List.set_cons_succ]); (try simp only [List.set_cons_zero])
              refine held_take (i := 3) (v := ?_) rfl (by kernel_rfl) (fun _ _ _ h => h) (by kernel_rfl) (by assumption) ?_ ?_
              rotate_left
              · intro w9 hSw; (try dsimp only at hSw); (try go_split_ands); go_simp; (try with_reducible rfl)
              (try simp only [Act.put]); (try simp only [List.setIfInBounds_toArray]); (try simp only [List.set_cons_succ]); (try simp only [List.set_cons_zero])
              refine held_skip (i := 4) rfl (by kernel_rfl) (fun _ _ _ h => h) (by kernel_rfl) (by assumption) ?_
              (try simp only [Act.put]); (try simp only [List.setIfInBounds_toArray]); (try simp only [List.set_cons_succ]); (try simp only [List.set_cons_zero])
              refine held_skip (i := 5) rfl (by kernel_rfl) (fun _ _ _ h => h) (by kernel_rfl) (by assumption) ?_
              (try simp only [Act.put]); (try simp only [List.setIfInBounds_toArray]); (try simp only [List.set_cons_succ]); (try simp only [List.set_cons_zero])
              refine wpAnyH_ready (rs := [6]) (by kernel_rfl) (by simp) ?_
              refine AllReadyH.cons rfl (fun K hK => ?_) AllReadyH.nil
              go_simp
              refine hK.out _ _ (by assumption) (fun hHeld => ?_)
              clear hK K
              (try simp only [Act.put]); (try simp only [List.setIfInBounds_toArray]); (try simp only [List.set_cons_succ]); (try simp only [List.set_cons_zero])
              refine held_skip (i := 7) rfl (by kernel_rfl) (fun _ _ _ h => h) (by kernel_rfl) (by assumption) ?_
              (try simp only [Act.put]); (try simp only [List.setIfInBounds_toArray]); (try simp only [List.set_cons_succ]); (try simp only [List.set_cons_zero])
              refine held_take (i := 8) (v := ?_) rfl (by kernel_rfl) (fun _ _ _ h => h) (by kernel_rfl) (by assumption) ?_ ?_
              rotate_left
              · intro w9 hSw; (try dsimp only at hSw); (try go_split_ands); go_simp; (try with_reducible rfl)
              (try simp only [Act.put]); (try simp only [List.setIfInBounds_toArray]); (try simp only [List.set_cons_succ]); (try simp only [List.set_cons_zero])
              refine held_take (i := 9) (v := ?_) rfl (by kernel_rfl) (fun _ _ _ h => h) (by kernel_rfl) (by assumption) ?_ ?_
              rotate_left
              · intro w9 hSw; (try dsimp only at hSw); (try go_split_ands); go_simp; (try with_reducible rfl)
              (try simp only [Act.put]); (try simp only [List.setIfInBounds_toArray]); (try simp only [List.set_cons_succ]); (try simp only [List.set_cons_zero])
              refine held_take (i := 10) (v := ?_) rfl (by kernel_rfl) (fun _ _ _ h => h) (by kernel_rfl) (by assumption) ?_ ?_
              rotate_left
              · intro w9 hSw; (try dsimp only at hSw); (try go_split_ands); go_simp; (try with_reducible rfl)
              (try simp only [Act.put]); (try simp only [List.setIfInBounds_toArray]); (try simp only [List.set_cons_succ]); (try simp only [List.set_cons_zero])
              refine held_take (i := 11) (v := ?_) rfl (by kernel_rfl) (fun _ _ _ h => h) (by kernel_rfl) (by assumption) ?_ ?_
              rotate_left
              · intro w9 hSw; (try dsimp only at hSw); (try go_split_ands); go_simp; (try with_reducible rfl)
              (try simp only [Act.put]); (try simp only [List.setIfInBounds_toArray]); (try simp only [List.set_cons_succ]); (try simp only [List.set_cons_zero])
              refine wpAnyH_ready (rs := [12]) (by kernel_rfl) (by simp) ?_
              refine AllReadyH.cons rfl (fun K hK => ?_) AllReadyH.nil
              go_simp
              go_at_call 34; (with_reducible refine (cI' _ (by assumption)).mono ?_); rintro e w32 ⟨rfl, hS32⟩
              refine hK.out _ _ hS32 (fun hHeld => ?_)
              clear hK K
              (try simp only [Act.put]); (try simp only [List.setIfInBounds_toArray]); (try simp only [List.set_cons_succ]); (try simp only [List.set_cons_zero])
              refine held_take (i := 13) (v := ?_) rfl (by kernel_rfl) (fun _ _ _ h => h) (by kernel_rfl) (by assumption) ?_ ?_
              rotate_left
              · intro w9 hSw; (try dsimp only at hSw); (try go_split_ands); go_simp; (try with_reducible rfl)
              (try simp only [Act.put]); (try simp only [List.setIfInBounds_toArray]); (try simp only [List.set_cons_succ]); (try simp only [List.set_cons_zero])
              refine held_take (i := 14) (v := ?_) rfl (by kernel_rfl) (fun _ _ _ h => h) (by kernel_rfl) (by assumption) ?_ ?_
              rotate_left
              · intro w9 hSw; (try dsimp only at hSw); (try go_split_ands); go_simp; (try with_reducible rfl)
              (try simp only [Act.put]); (try simp only [List.setIfInBounds_toArray]); (try simp only [List.set_cons_succ]); (try simp only [List.set_cons_zero])
              refine held_take (i := 15) (v := ?_) rfl (by kernel_rfl) (fun _ _ _ h => h) (by kernel_rfl) (by assumption) ?_ ?_
              rotate_left
              · intro w9 hSw; (try dsimp only at hSw); (try go_split_ands); go_simp; (try with_reducible rfl)
              (try simp only [Act.put]); (try simp only [List.setIfInBounds_toArray]); (try simp only [List.set_cons_succ]); (try simp only [List.set_cons_zero])
              refine held_take (i := 16) (v := ?_) rfl (by kernel_rfl) (fun _ _ _ h => h) (by kernel_rfl) (by assumption) ?_ ?_
              rotate_left
              · intro w9 hSw; (try dsimp only at hSw); (try go_split_ands); go_simp; (try with_reducible rfl)
              (try simp only [Act.put]); (try simp only [List.setIfInBounds_toArray]); (try simp only [List.set_cons_succ]); (try simp only [List.set_cons_zero])
              refine held_take (i := 17) (v := ?_) rfl (by kernel_rfl) (fun _ _ _ h => h) (by kernel_rfl) (by assumption) ?_ ?_
              rotate_left
              · intro w9 hSw; (try dsimp only at hSw); (try go_split_ands); go_simp; (try with_reducible rfl)
              (try simp only [Act.put]); (try simp only [List.setIfInBounds_toArray]); (try simp only [List.set_cons_succ]); (try simp only [List.set_cons_zero])
              refine wpAnyH_ready (rs := [18]) (by kernel_rfl) (by simp) ?_
              refine AllReadyH.cons rfl (fun K hK => ?_) AllReadyH.nil
              go_simp
              go_at_call 34; (with_reducible refine (cC' _ (by assumption)).mono ?_); rintro e w38 ⟨rfl, hS38⟩
              refine hK.out _ _ hS38 (fun hHeld => ?_)
              clear hK K
              (try simp only [Act.put]); (try simp only [List.setIfInBounds_toArray]); (try simp only [List.set_cons_succ]); (try simp only [List.set_cons_zero])
              refine held_take (i := 19) (v := ?_) rfl (by kernel_rfl) (fun _ _ _ h => h) (by kernel_rfl) (by assumption) ?_ ?_
              rotate_left
              · intro w9 hSw; (try dsimp only at hSw); (try go_split_ands); go_simp; (try with_reducible rfl)
              (try simp only [Act.put]); (try simp only [List.setIfInBounds_toArray]); (try simp only [List.set_cons_succ]); (try simp only [List.set_cons_zero])
              refine held_take (i := 20) (v := ?_) rfl (by kernel_rfl) (fun _ _ _ h => h) (by kernel_rfl) (by assumption) ?_ ?_
              rotate_left
              · intro w9 hSw; (try dsimp only at hSw); (try go_split_ands); go_simp; (try with_reducible rfl)
              (try simp only [Act.put]); (try simp only [List.setIfInBounds_toArray]); (try simp only [List.set_cons_succ]); (try simp only [List.set_cons_zero])
              refine held_take (i := 21) (v := ?_) rfl (by kernel_rfl) (fun _ _ _ h => h) (by kernel_rfl) (by assumption) ?_ ?_
              rotate_left
              · intro w9 hSw; (try dsimp only at hSw); (try go_split_ands); go_simp; (try with_reducible rfl)
              (try simp only [Act.put]); (try simp only [List.setIfInBounds_toArray]); (try simp only [List.set_cons_succ]); (try simp only [List.set_cons_zero])
              refine held_skip (i := 22) rfl (by kernel_rfl) (fun _ _ _ h => h) (by kernel_rfl) (by assumption) ?_
              (try simp only [Act.put]); (try simp only [List.setIfInBounds_toArray]); (try simp only [List.set_cons_succ]); (try simp only [List.set_cons_zero])
              refine held_skip (i := 23) rfl (by kernel_rfl) (fun _ _ _ h => h) (by kernel_rfl) (by assumption) ?_
              (try simp only [Act.put]); (try simp only [List.setIfInBounds_toArray]); (try simp only [List.set_cons_succ]); (try simp only [List.set_cons_zero])
              refine held_skip (i := 24) rfl (by kernel_rfl) (fun _ _ _ h => h) (by kernel_rfl) (by assumption) ?_
              (try simp only [Act.put]); (try simp only [List.setIfInBounds_toArray]); (try simp only [List.set_cons_succ]); (try simp only [List.set_cons_zero])
              refine held_skip (i := 25) rfl (by kernel_rfl) (fun _ _ _ h => h) (by kernel_rfl) (by assumption) ?_
              (try simp only [Act.put]); (try simp only [List.setIfInBounds_toArray]); (try simp only [List.set_cons_succ]); (try simp only [List.set_cons_zero])
              refine held_skip (i := 26) rfl (by kernel_rfl) (fun _ _ _ h => h) (by kernel_rfl) (by assumption) ?_
              (try simp only [Act.put]); (try simp only [List.setIfInBounds_toArray]); (try simp only [List.set_cons_succ]); (try simp only [List.set_cons_zero])
              refine held_skip (i := 27) rfl (by kernel_rfl) (fun _ _ _ h => h) (by kernel_rfl) (by assumption) ?_
              (try simp only [Act.put]); (try simp only [List.setIfInBounds_toArray]); (try simp only [List.set_cons_succ]); (try simp only [List.set_cons_zero])
              refine held_skip (i := 28) rfl (by kernel_rfl) (fun _ _ _ h => h) (by kernel_rfl) (by assumption) ?_
              (try simp only [Act.put]); (try simp only [List.setIfInBounds_toArray]); (try simp only [List.set_cons_succ]); (try simp only [List.set_cons_zero])
              refine held_skip (i := 29) rfl (by kernel_rfl) (fun _ _ _ h => h) (by kernel_rfl) (by assumption) ?_
              (try simp only [Act.put]); (try simp only [List.setIfInBounds_toArray]); (try simp only [List.set_cons_succ]); (try simp only [List.set_cons_zero])
              refine held_skip (i := 30) rfl (by kernel_rfl) (fun _ _ _ h => h) (by kernel_rfl) (by assumption) ?_
              (try simp only [Act.put]); (try simp only [List.setIfInBounds_toArray]); (try simp only [List.set_cons_succ]); (try simp only [List.set_cons_zero])
              refine held_skip (i := 33) rfl (by kernel_rfl) (fun _ _ _ h => h) (by kernel_rfl) (by assumption) ?_
              (try simp only [Act.put]); (try simp only [List.setIfInBounds_toArray]); (try simp only [List.set_cons_succ]); (try simp only [List.set_cons_zero])
              refine held_skip (i := 34) rfl (by kernel_rfl) (fun _ _ _ h => h) (by kernel_rfl) (by assumption) ?_
              (try simp only [Act.put]); (try simp only [List.setIfInBounds_toArray]); (try simp only [List.set_cons_succ]); (try simp only [List.set_cons_zero])
              refine wpAnyH_ready (rs := [31]) (by kernel_rfl) (by simp) ?_
              refine AllReadyH.cons rfl (fun K hK => ?_) AllReadyH.nil
              go_simp
              refine hK.out _ _ (by assumption) (fun hHeld => ?_)
              clear hK K
              (try simp only [Act.put]); (try simp only [List.setIfInBounds_toArray]); (try simp only [List.set_cons_succ]); (try simp only [List.set_cons_zero])
              refine held_skip (i := 32) rfl (by kernel_rfl) (fun _ _ _ h => h) (by kernel_rfl) (by assumption) ?_
              (try simp only [Act.put]); (try simp only [List.setIfInBounds_toArray]); (try simp only [List.set_cons_succ]); (try simp only [List.set_cons_zero])
              refine wpAnyH_ready (rs := [35]) (by kernel_rfl) (by simp) ?_
              refine AllReadyH.cons rfl (fun K hK => ?_) AllReadyH.nil
              go_simp
              refine hK.out _ _ (by assumption) (fun hHeld => ?_)
              clear hK K
              (try simp only [Act.put]); (try simp only [List.setIfInBounds_toArray]); (try simp only [List.set_cons_succ]); (try simp only [List.set_cons_zero])
              refine held_skip (i := 36) rfl (by kernel_rfl) (fun _ _ _ h => h) (by kernel_rfl) (by assumption) ?_
              (try simp only [Act.put]); (try simp only [List.setIfInBounds_toArray]); (try simp only [List.set_cons_succ]); (try simp only [List.set_cons_zero])
              refine held_skip (i := 37) rfl (by kernel_rfl) (fun _ _ _ h => h) (by kernel_rfl) (by assumption) ?_
              (try simp only [Act.put]); (try simp only [List.setIfInBounds_toArray]); (try simp only [List.set_cons_succ]); (try simp only [List.set_cons_zero])
              refine held_take (i := 38) (v := ?_) rfl (by kernel_rfl) (fun _ _ _ h => h) (by kernel_rfl) (by assumption) ?_ ?_
              rotate_left
              · intro w9 hSw; (try dsimp only at hSw); (try go_split_ands); go_simp; (try with_reducible rfl)
              (try simp only [Act.put]); (try simp only [List.setIfInBounds_toArray]); (try simp only [List.set_cons_succ]); (try simp only [List.set_cons_zero])
              refine wpAnyH_done (by kernel_rfl) ?_ _
              obtain ⟨-, -, -, -, -, -, hB3⟩ := hHeld
              have hB4 := below_next hBr hB3
              have KR4 := KR.next hB3
              clear hS0 SK
              go_wp2
              go_ret
              exact ⟨rfl, hB4⟩
            | true =>
              by_cases h8 : 8 < a14
              · have h8i : (8 : Int) < (a14 : Int) := by omega
                obtain rfl : R = false := HNO.out (Q1.out h8)
                clear HNO HYES HK HR Q1 Q2 Q3 Q4 Q5 HBI HBC
                go_upto_region 8 with (fail)
                refine wp_region_held_drew (S := (fun W' => W'.cell? ⟨wr.heap.size, 0, none⟩ = some (.string T) ∧ W'.cell? ⟨wr.heap.size, 1, none⟩ = some (.slice iA a1 ic) ∧ W'.cell? ⟨wr.heap.size, 2, none⟩ = some (.slice cA a2 cc) ∧ W'.cell? ⟨wr.heap.size, 3, none⟩ = some (.bool p.link) ∧ W'.cell? ⟨wr.heap.size, 4, none⟩ = some (.bool p.visited) ∧ Blk W' wr.heap.size 52 #[.string T, .slice iA a1 ic, .slice cA a2 cc, .bool p.link, .bool p.visited] ∧ Below wr.heap.size wr W')) (by kernel_rfl) ?_ (fun hHeld => ?_)
                · exact hS0
                refine held_take (i := 0) (v := ?_) rfl (by kernel_rfl) (fun _ _ _ h => h) (by kernel_rfl) (by assumption) ?_ ?_
                rotate_left
                · intro w9 hSw; (try dsimp only at hSw); (try go_split_ands); go_simp; (try with_reducible rfl)
                (try simp only [Act.put]); (try simp only [List.setIfInBounds_toArray]); (try simp only [List.set_cons_succ]); (try simp only [List.set_cons_zero])
                refine held_take (i := 1) (v := ?_) rfl (by kernel_rfl) (fun _ _ _ h => h) (by kernel_rfl) (by assumption) ?_ ?_
                rotate_left
                · intro w9 hSw; (try dsimp only at hSw); (try go_split_ands); go_simp; (try with_reducible rfl)
                (try simp only [Act.put]); (try simp only [List.setIfInBounds_toArray]); (try simp only [List.set_cons_succ]); (try simp only [List.set_cons_zero])
                refine held_take (i := 2) (v := ?_) rfl (by kernel_rfl) (fun _ _ _ h => h) (by kernel_rfl) (by assumption) ?_ ?_
                rotate_left
                · intro w9 hSw; (try dsimp only at hSw); (try go_split_ands); go_simp; (try with_reducible rfl)
                (try simp only [Act.put]); (try simp only [List.setIfInBounds_toArray]); (try simp only [List.set_cons_succ]); (try simp only [List.set_cons_zero])
                refine held_take (i := 3) (v := ?_) rfl (by kernel_rfl) (fun _ _ _ h => h) (by kernel_rfl) (by assumption) ?_ ?_
                rotate_left
                · intro w9 hSw; (try dsimp only at hSw); (try go_split_ands); go_simp; (try with_reducible rfl)
                (try simp only [Act.put]); (try simp only [List.setIfInBounds_toArray]); (try simp only [List.set_cons_succ]); (try simp only [List.set_cons_zero])
                refine held_skip (i := 4) rfl (by kernel_rfl) (fun _ _ _ h => h) (by kernel_rfl) (by assumption) ?_
                (try simp only [Act.put]); (try simp only [List.setIfInBounds_toArray]); (try simp only [List.set_cons_succ]); (try simp only [List.set_cons_zero])
                refine held_skip (i := 5) rfl (by kernel_rfl) (fun _ _ _ h => h) (by kernel_rfl) (by assumption) ?_
                (try simp only [Act.put]); (try simp only [List.setIfInBounds_toArray]); (try simp only [List.set_cons_succ]); (try simp only [List.set_cons_zero])
                refine wpAnyH_ready (rs := [6]) (by kernel_rfl) (by simp) ?_
                refine AllReadyH.cons rfl (fun K hK => ?_) AllReadyH.nil
                go_simp
                refine hK.out _ _ (by assumption) (fun hHeld => ?_)
                clear hK K
                (try simp only [Act.put]); (try simp only [List.setIfInBounds_toArray]); (try simp only [List.set_cons_succ]); (try simp only [List.set_cons_zero])
                refine held_skip (i := 7) rfl (by kernel_rfl) (fun _ _ _ h => h) (by kernel_rfl) (by assumption) ?_
                (try simp only [Act.put]); (try simp only [List.setIfInBounds_toArray]); (try simp only [List.set_cons_succ]); (try simp only [List.set_cons_zero])
                refine held_take (i := 8) (v := ?_) rfl (by kernel_rfl) (fun _ _ _ h => h) (by kernel_rfl) (by assumption) ?_ ?_
                rotate_left
                · intro w9 hSw; (try dsimp only at hSw); (try go_split_ands); go_simp; (try with_reducible rfl)
                (try simp only [Act.put]); (try simp only [List.setIfInBounds_toArray]); (try simp only [List.set_cons_succ]); (try simp only [List.set_cons_zero])
                refine held_take (i := 9) (v := ?_) rfl (by kernel_rfl) (fun _ _ _ h => h) (by kernel_rfl) (by assumption) ?_ ?_
                rotate_left
                · intro w9 hSw; (try dsimp only at hSw); (try go_split_ands); go_simp; (try with_reducible rfl)
                (try simp only [Act.put]); (try simp only [List.setIfInBounds_toArray]); (try simp only [List.set_cons_succ]); (try simp only [List.set_cons_zero])
                refine held_take (i := 10) (v := ?_) rfl (by kernel_rfl) (fun _ _ _ h => h) (by kernel_rfl) (by assumption) ?_ ?_
                rotate_left
                · intro w9 hSw; (try dsimp only at hSw); (try go_split_ands); go_simp; (try with_reducible rfl)
                (try simp only [Act.put]); (try simp only [List.setIfInBounds_toArray]); (try simp only [List.set_cons_succ]); (try simp only [List.set_cons_zero])
                refine held_take (i := 11) (v := ?_) rfl (by kernel_rfl) (fun _ _ _ h => h) (by kernel_rfl) (by assumption) ?_ ?_
                rotate_left
                · intro w9 hSw; (try dsimp only at hSw); (try go_split_ands); go_simp; (try with_reducible rfl)
                (try simp only [Act.put]); (try simp only [List.setIfInBounds_toArray]); (try simp only [List.set_cons_succ]); (try simp only [List.set_cons_zero])
                refine wpAnyH_ready (rs := [12]) (by kernel_rfl) (by simp) ?_
                refine AllReadyH.cons rfl (fun K hK => ?_) AllReadyH.nil
                go_simp
                go_at_call 34; (with_reducible refine (cI' _ (by assumption)).mono ?_); rintro e w32 ⟨rfl, hS32⟩
                refine hK.out _ _ hS32 (fun hHeld => ?_)
                clear hK K
                (try simp only [Act.put]); (try simp only [List.setIfInBounds_toArray]); (try simp only [List.set_cons_succ]); (try simp only [List.set_cons_zero])
                refine held_take (i := 13) (v := ?_) rfl (by kernel_rfl) (fun _ _ _ h => h) (by kernel_rfl) (by assumption) ?_ ?_
                rotate_left
                · intro w9 hSw; (try dsimp only at hSw); (try go_split_ands); go_simp; (try with_reducible rfl)
                (try simp only [Act.put]); (try simp only [List.setIfInBounds_toArray]); (try simp only [List.set_cons_succ]); (try simp only [List.set_cons_zero])
                refine held_take (i := 14) (v := ?_) rfl (by kernel_rfl) (fun _ _ _ h => h) (by kernel_rfl) (by assumption) ?_ ?_
                rotate_left
                · intro w9 hSw; (try dsimp only at hSw); (try go_split_ands); go_simp; (try with_reducible rfl)
                (try simp only [Act.put]); (try simp only [List.setIfInBounds_toArray]); (try simp only [List.set_cons_succ]); (try simp only [List.set_cons_zero])
                refine held_take (i := 15) (v := ?_) rfl (by kernel_rfl) (fun _ _ _ h => h) (by kernel_rfl) (by assumption) ?_ ?_
                rotate_left
                · intro w9 hSw; (try dsimp only at hSw); (try go_split_ands); go_simp; (try with_reducible rfl)
                (try simp only [Act.put]); (try simp only [List.setIfInBounds_toArray]); (try simp only [List.set_cons_succ]); (try simp only [List.set_cons_zero])
                refine held_take (i := 16) (v := ?_) rfl (by kernel_rfl) (fun _ _ _ h => h) (by kernel_rfl) (by assumption) ?_ ?_
                rotate_left
                · intro w9 hSw; (try dsimp only at hSw); (try go_split_ands); go_simp; (try with_reducible rfl)
                (try simp only [Act.put]); (try simp only [List.setIfInBounds_toArray]); (try simp only [List.set_cons_succ]); (try simp only [List.set_cons_zero])
                refine held_take (i := 17) (v := ?_) rfl (by kernel_rfl) (fun _ _ _ h => h) (by kernel_rfl) (by assumption) ?_ ?_
                rotate_left
                · intro w9 hSw; (try dsimp only at hSw); (try go_split_ands); go_simp; (try with_reducible rfl)
                (try simp only [Act.put]); (try simp only [List.setIfInBounds_toArray]); (try simp only [List.set_cons_succ]); (try simp only [List.set_cons_zero])
                refine wpAnyH_ready (rs := [18]) (by kernel_rfl) (by simp) ?_
                refine AllReadyH.cons rfl (fun K hK => ?_) AllReadyH.nil
                go_simp
                go_at_call 34; (with_reducible refine (cC' _ (by assumption)).mono ?_); rintro e w38 ⟨rfl, hS38⟩
                refine hK.out _ _ hS38 (fun hHeld => ?_)
                clear hK K
                (try simp only [Act.put]); (try simp only [List.setIfInBounds_toArray]); (try simp only [List.set_cons_succ]); (try simp only [List.set_cons_zero])
                refine held_take (i := 19) (v := ?_) rfl (by kernel_rfl) (fun _ _ _ h => h) (by kernel_rfl) (by assumption) ?_ ?_
                rotate_left
                · intro w9 hSw; (try dsimp only at hSw); (try go_split_ands); go_simp; (try with_reducible rfl)
                (try simp only [Act.put]); (try simp only [List.setIfInBounds_toArray]); (try simp only [List.set_cons_succ]); (try simp only [List.set_cons_zero])
                refine held_take (i := 20) (v := ?_) rfl (by kernel_rfl) (fun _ _ _ h => h) (by kernel_rfl) (by assumption) ?_ ?_
                rotate_left
                · intro w9 hSw; (try dsimp only at hSw); (try go_split_ands); go_simp; (try with_reducible rfl)
                (try simp only [Act.put]); (try simp only [List.setIfInBounds_toArray]); (try simp only [List.set_cons_succ]); (try simp only [List.set_cons_zero])
                refine held_take (i := 21) (v := ?_) rfl (by kernel_rfl) (fun _ _ _ h => h) (by kernel_rfl) (by assumption) ?_ ?_
                rotate_left
                · intro w9 hSw; (try dsimp only at hSw); (try go_split_ands); go_simp; (try with_reducible rfl)
                (try simp only [Act.put]); (try simp only [List.setIfInBounds_toArray]); (try simp only [List.set_cons_succ]); (try simp only [List.set_cons_zero])
                refine held_take (i := 22) (v := ?_) rfl (by kernel_rfl) (fun _ _ _ h => h) (by kernel_rfl) (by assumption) ?_ ?_
                rotate_left
                · intro w9 hSw; (try dsimp only at hSw); (try go_split_ands); go_simp; (try with_reducible rfl)
                (try simp only [Act.put]); (try simp only [List.setIfInBounds_toArray]); (try simp only [List.set_cons_succ]); (try simp only [List.set_cons_zero])
                refine held_take (i := 23) (v := ?_) rfl (by kernel_rfl) (fun _ _ _ h => h) (by kernel_rfl) (by assumption) ?_ ?_
                rotate_left
                · intro w9 hSw; (try dsimp only at hSw); (try go_split_ands); go_simp; (try with_reducible rfl)
                (try simp only [Act.put]); (try simp only [List.setIfInBounds_toArray]); (try simp only [List.set_cons_succ]); (try simp only [List.set_cons_zero])
                refine held_take (i := 24) (v := ?_) rfl (by kernel_rfl) (fun _ _ _ h => h) (by kernel_rfl) (by assumption) ?_ ?_
                rotate_left
                · intro w9 hSw; (try dsimp only at hSw); (try go_split_ands); go_simp; (try with_reducible rfl)
                (try simp only [Act.put]); (try simp only [List.setIfInBounds_toArray]); (try simp only [List.set_cons_succ]); (try simp only [List.set_cons_zero])
                refine held_take (i := 25) (v := ?_) rfl (by kernel_rfl) (fun _ _ _ h => h) (by kernel_rfl) (by assumption) ?_ ?_
                rotate_left
                · intro w9 hSw; (try dsimp only at hSw); (try go_split_ands); go_simp; (try with_reducible rfl)
                (try simp only [Act.put]); (try simp only [List.setIfInBounds_toArray]); (try simp only [List.set_cons_succ]); (try simp only [List.set_cons_zero])
                refine held_take (i := 26) (v := ?_) rfl (by kernel_rfl) (fun _ _ _ h => h) (by kernel_rfl) (by assumption) ?_ ?_
                rotate_left
                · intro w9 hSw; (try dsimp only at hSw); (try go_split_ands); go_simp; (try with_reducible rfl)
                (try simp only [Act.put]); (try simp only [List.setIfInBounds_toArray]); (try simp only [List.set_cons_succ]); (try simp only [List.set_cons_zero])
                refine held_take (i := 27) (v := ?_) rfl (by kernel_rfl) (fun _ _ _ h => h) (by kernel_rfl) (by assumption) ?_ ?_
                rotate_left
                · intro w9 hSw; (try dsimp only at hSw); (try go_split_ands); go_simp; (try with_reducible rfl)
                (try simp only [Act.put]); (try simp only [List.setIfInBounds_toArray]); (try simp only [List.set_cons_succ]); (try simp only [List.set_cons_zero])
                refine held_take (i := 28) (v := ?_) rfl (by kernel_rfl) (fun _ _ _ h => h) (by kernel_rfl) (by assumption) ?_ ?_
                rotate_left
                · intro w9 hSw; (try dsimp only at hSw); (try go_split_ands); go_simp; (try with_reducible rfl)
                (try simp only [Act.put]); (try simp only [List.setIfInBounds_toArray]); (try simp only [List.set_cons_succ]); (try simp only [List.set_cons_zero])
                refine held_take (i := 29) (v := ?_) rfl (by kernel_rfl) (fun _ _ _ h => h) (by kernel_rfl) (by assumption) ?_ ?_
                rotate_left
                · intro w9 hSw; (try dsimp only at hSw); (try go_split_ands); go_simp; (try with_reducible rfl)
                (try simp only [Act.put]); (try simp only [List.setIfInBounds_toArray]); (try simp only [List.set_cons_succ]); (try simp only [List.set_cons_zero])
                refine held_take (i := 30) (v := ?_) rfl (by kernel_rfl) (fun _ _ _ h => h) (by kernel_rfl) (by assumption) ?_ ?_
                rotate_left
                · intro w9 hSw; (try dsimp only at hSw); (try go_split_ands); go_simp; (try with_reducible rfl)
                (try simp only [Act.put]); (try simp only [List.setIfInBounds_toArray]); (try simp only [List.set_cons_succ]); (try simp only [List.set_cons_zero])
                refine held_take (i := 33) (v := ?_) rfl (by kernel_rfl) (fun _ _ _ h => h) (by kernel_rfl) (by assumption) ?_ ?_
                rotate_left
                · intro w9 hSw; (try dsimp only at hSw); (try go_split_ands); go_simp; (try with_reducible rfl)
                (try simp only [Act.put]); (try simp only [List.setIfInBounds_toArray]); (try simp only [List.set_cons_succ]); (try simp only [List.set_cons_zero])
                refine held_take (i := 34) (v := ?_) rfl (by kernel_rfl) (fun _ _ _ h => h) (by kernel_rfl) (by assumption) ?_ ?_
                rotate_left
                · intro w9 hSw; (try dsimp only at hSw); (try go_split_ands); go_simp; (try with_reducible rfl)
                (try simp only [Act.put]); (try simp only [List.setIfInBounds_toArray]); (try simp only [List.set_cons_succ]); (try simp only [List.set_cons_zero])
                refine wpAnyH_ready (rs := [31]) (by kernel_rfl) (by simp) ?_
                refine AllReadyH.cons rfl (fun K hK => ?_) AllReadyH.nil
                go_simp
                go_at_call 35; (with_reducible refine (cL' _ (by assumption)).mono ?_); rintro e w51 ⟨rfl, hS51⟩
                refine hK.out _ _ hS51 (fun hHeld => ?_)
                clear hK K
                (try simp only [Act.put]); (try simp only [List.setIfInBounds_toArray]); (try simp only [List.set_cons_succ]); (try simp only [List.set_cons_zero])
                refine held_take (i := 32) (v := ?_) rfl (by kernel_rfl) (fun _ _ _ h => h) (by kernel_rfl) (by assumption) ?_ ?_
                rotate_left
                · intro w9 hSw; (try dsimp only at hSw); (try go_split_ands); go_simp; (try with_reducible rfl)
                (try simp only [Act.put]); (try simp only [List.setIfInBounds_toArray]); (try simp only [List.set_cons_succ]); (try simp only [List.set_cons_zero])
                refine wpAnyH_ready (rs := [35]) (by kernel_rfl) (by simp) ?_
                refine AllReadyH.cons rfl (fun K hK => ?_) AllReadyH.nil
                go_simp
                go_at_call 35; (with_reducible refine (cV' _ (by assumption)).mono ?_); rintro e w55 ⟨rfl, hS55⟩
                refine hK.out _ _ hS55 (fun hHeld => ?_)
                clear hK K
                (try simp only [Act.put]); (try simp only [List.setIfInBounds_toArray]); (try simp only [List.set_cons_succ]); (try simp only [List.set_cons_zero])
                refine held_take (i := 36) (v := ?_) rfl (by kernel_rfl) (fun _ _ _ h => h) (by kernel_rfl) (by assumption) ?_ ?_
                rotate_left
                · intro w9 hSw; (try dsimp only at hSw); (try go_split_ands); go_simp; (try with_reducible rfl)
                (try simp only [Act.put]); (try simp only [List.setIfInBounds_toArray]); (try simp only [List.set_cons_succ]); (try simp only [List.set_cons_zero])
                refine held_take (i := 37) (v := ?_) rfl (by kernel_rfl) (fun _ _ _ h => h) (by kernel_rfl) (by assumption) ?_ ?_
                rotate_left
                · intro w9 hSw; (try dsimp only at hSw); (try go_split_ands); go_simp; (try with_reducible rfl)
                (try simp only [Act.put]); (try simp only [List.setIfInBounds_toArray]); (try simp only [List.set_cons_succ]); (try simp only [List.set_cons_zero])
                refine held_take (i := 38) (v := ?_) rfl (by kernel_rfl) (fun _ _ _ h => h) (by kernel_rfl) (by assumption) ?_ ?_
                rotate_left
                · intro w9 hSw; (try dsimp only at hSw); (try go_split_ands); go_simp; (try with_reducible rfl)
                (try simp only [Act.put]); (try simp only [List.setIfInBounds_toArray]); (try simp only [List.set_cons_succ]); (try simp only [List.set_cons_zero])
                refine wpAnyH_done (by kernel_rfl) ?_ _
                obtain ⟨-, -, -, -, -, -, hB3⟩ := hHeld
                have hB4 := below_next hBr hB3
                have KR4 := KR.next hB3
                clear hS0 SK
                go_wp2
                go_ret
                exact ⟨rfl, hB4⟩
              · have h8i : ¬ (8 : Int) < (a14 : Int) := by omega
                have HK1 := Lib.hid (HYES.out (Q2.out (.inl t0) HBI.out.symm HBC.out.symm (by omega)))
                clear HNO HYES HK Q1 Q2 Q3 Q4 Q5 HBI HBC
                go_upto_region 8 with (fail)
                refine wp_region_held_drew (S := (fun W' => W'.cell? ⟨wr.heap.size, 0, none⟩ = some (.string T) ∧ W'.cell? ⟨wr.heap.size, 1, none⟩ = some (.slice iA a1 ic) ∧ W'.cell? ⟨wr.heap.size, 2, none⟩ = some (.slice cA a2 cc) ∧ W'.cell? ⟨wr.heap.size, 3, none⟩ = some (.bool p.link) ∧ W'.cell? ⟨wr.heap.size, 4, none⟩ = some (.bool p.visited) ∧ Blk W' wr.heap.size 52 #[.string T, .slice iA a1 ic, .slice cA a2 cc, .bool p.link, .bool p.visited] ∧ Below wr.heap.size wr W')) (by kernel_rfl) ?_ (fun hHeld => ?_)
                · exact hS0
                refine held_take (i := 0) (v := ?_) rfl (by kernel_rfl) (fun _ _ _ h => h) (by kernel_rfl) (by assumption) ?_ ?_
                rotate_left
                · intro w9 hSw; (try dsimp only at hSw); (try go_split_ands); go_simp; (try with_reducible rfl)
                (try simp only [Act.put]); (try simp only [List.setIfInBounds_toArray]); (try simp only [List.set_cons_succ]); (try simp only [List.set_cons_zero])
                refine held_take (i := 1) (v := ?_) rfl (by kernel_rfl) (fun _ _ _ h => h) (by kernel_rfl) (by assumption) ?_ ?_
                rotate_left
                · intro w9 hSw; (try dsimp only at hSw); (try go_split_ands); go_simp; (try with_reducible rfl)
                (try simp only [Act.put]); (try simp only [List.setIfInBounds_toArray]); (try simp only [List.set_cons_succ]); (try simp only [List.set_cons_zero])
                refine held_take (i := 2) (v := ?_) rfl (by kernel_rfl) (fun _ _ _ h => h) (by kernel_rfl) (by assumption) ?_ ?_
                rotate_left
                · intro w9 hSw; (try dsimp only at hSw); (try go_split_ands); go_simp; (try with_reducible rfl)
                (try simp only [Act.put]); (try simp only [List.setIfInBounds_toArray]); (try simp only [List.set_cons_succ]); (try simp only [List.set_cons_zero])
                refine held_take (i := 3) (v := ?_) rfl (by kernel_rfl) (fun _ _ _ h => h) (by kernel_rfl) (by assumption) ?_ ?_
                rotate_left
                · intro w9 hSw; (try dsimp only at hSw); (try go_split_ands); go_simp; (try with_reducible rfl)
                (try simp only [Act.put]); (try simp only [List.setIfInBounds_toArray]); (try simp only [List.set_cons_succ]); (try simp only [List.set_cons_zero])
                refine held_skip (i := 4) rfl (by kernel_rfl) (fun _ _ _ h => h) (by kernel_rfl) (by assumption) ?_
                (try simp only [Act.put]); (try simp only [List.setIfInBounds_toArray]); (try simp only [List.set_cons_succ]); (try simp only [List.set_cons_zero])
                refine held_skip (i := 5) rfl (by kernel_rfl) (fun _ _ _ h => h) (by kernel_rfl) (by assumption) ?_
                (try simp only [Act.put]); (try simp only [List.setIfInBounds_toArray]); (try simp only [List.set_cons_succ]); (try simp only [List.set_cons_zero])
                refine wpAnyH_ready (rs := [6]) (by kernel_rfl) (by simp) ?_
                refine AllReadyH.cons rfl (fun K hK => ?_) AllReadyH.nil
                go_simp
                refine hK.out _ _ (by assumption) (fun hHeld => ?_)
                clear hK K
                (try simp only [Act.put]); (try simp only [List.setIfInBounds_toArray]); (try simp only [List.set_cons_succ]); (try simp only [List.set_cons_zero])
                refine held_skip (i := 7) rfl (by kernel_rfl) (fun _ _ _ h => h) (by kernel_rfl) (by assumption) ?_
                (try simp only [Act.put]); (try simp only [List.setIfInBounds_toArray]); (try simp only [List.set_cons_succ]); (try simp only [List.set_cons_zero])
                refine held_take (i := 8) (v := ?_) rfl (by kernel_rfl) (fun _ _ _ h => h) (by kernel_rfl) (by assumption) ?_ ?_
                rotate_left
                · intro w9 hSw; (try dsimp only at hSw); (try go_split_ands); go_simp; (try with_reducible rfl)
                (try simp only [Act.put]); (try simp only [List.setIfInBounds_toArray]); (try simp only [List.set_cons_succ]); (try simp only [List.set_cons_zero])
                refine held_take (i := 9) (v := ?_) rfl (by kernel_rfl) (fun _ _ _ h => h) (by kernel_rfl) (by assumption) ?_ ?_
                rotate_left
                · intro w9 hSw; (try dsimp only at hSw); (try go_split_ands); go_simp; (try with_reducible rfl)
                (try simp only [Act.put]); (try simp only [List.setIfInBounds_toArray]); (try simp only [List.set_cons_succ]); (try simp only [List.set_cons_zero])
                refine held_take (i := 10) (v := ?_) rfl (by kernel_rfl) (fun _ _ _ h => h) (by kernel_rfl) (by assumption) ?_ ?_
                rotate_left
                · intro w9 hSw; (try dsimp only at hSw); (try go_split_ands); go_simp; (try with_reducible rfl)
                (try simp only [Act.put]); (try simp only [List.setIfInBounds_toArray]); (try simp only [List.set_cons_succ]); (try simp only [List.set_cons_zero])
                refine held_take (i := 11) (v := ?_) rfl (by kernel_rfl) (fun _ _ _ h => h) (by kernel_rfl) (by assumption) ?_ ?_
                rotate_left
                · intro w9 hSw; (try dsimp only at hSw); (try go_split_ands); go_simp; (try with_reducible rfl)
                (try simp only [Act.put]); (try simp only [List.setIfInBounds_toArray]); (try simp only [List.set_cons_succ]); (try simp only [List.set_cons_zero])
                refine wpAnyH_ready (rs := [12]) (by kernel_rfl) (by simp) ?_
                refine AllReadyH.cons rfl (fun K hK => ?_) AllReadyH.nil
                go_simp
                go_at_call 34; (with_reducible refine (cI' _ (by assumption)).mono ?_); rintro e w32 ⟨rfl, hS32⟩
                refine hK.out _ _ hS32 (fun hHeld => ?_)
                clear hK K
                (try simp only [Act.put]); (try simp only [List.setIfInBounds_toArray]); (try simp only [List.set_cons_succ]); (try simp only [List.set_cons_zero])
                refine held_take (i := 13) (v := ?_) rfl (by kernel_rfl) (fun _ _ _ h => h) (by kernel_rfl) (by assumption) ?_ ?_
                rotate_left
                · intro w9 hSw; (try dsimp only at hSw); (try go_split_ands); go_simp; (try with_reducible rfl)
                (try simp only [Act.put]); (try simp only [List.setIfInBounds_toArray]); (try simp only [List.set_cons_succ]); (try simp only [List.set_cons_zero])
                refine held_take (i := 14) (v := ?_) rfl (by kernel_rfl) (fun _ _ _ h => h) (by kernel_rfl) (by assumption) ?_ ?_
                rotate_left
                · intro w9 hSw; (try dsimp only at hSw); (try go_split_ands); go_simp; (try with_reducible rfl)
                (try simp only [Act.put]); (try simp only [List.setIfInBounds_toArray]); (try simp only [List.set_cons_succ]); (try simp only [List.set_cons_zero])
                refine held_take (i := 15) (v := ?_) rfl (by kernel_rfl) (fun _ _ _ h => h) (by kernel_rfl) (by assumption) ?_ ?_
                rotate_left
                · intro w9 hSw; (try dsimp only at hSw); (try go_split_ands); go_simp; (try with_reducible rfl)
                (try simp only [Act.put]); (try simp only [List.setIfInBounds_toArray]); (try simp only [List.set_cons_succ]); (try simp only [List.set_cons_zero])
                refine held_take (i := 16) (v := ?_) rfl (by kernel_rfl) (fun _ _ _ h => h) (by kernel_rfl) (by assumption) ?_ ?_
                rotate_left
                · intro w9 hSw; (try dsimp only at hSw); (try go_split_ands); go_simp; (try with_reducible rfl)
                (try simp only [Act.put]); (try simp only [List.setIfInBounds_toArray]); (try simp only [List.set_cons_succ]); (try simp only [List.set_cons_zero])
                refine held_take (i := 17) (v := ?_) rfl (by kernel_rfl) (fun _ _ _ h => h) (by kernel_rfl) (by assumption) ?_ ?_
                rotate_left
                · intro w9 hSw; (try dsimp only at hSw); (try go_split_ands); go_simp; (try with_reducible rfl)
                (try simp only [Act.put]); (try simp only [List.setIfInBounds_toArray]); (try simp only [List.set_cons_succ]); (try simp only [List.set_cons_zero])
                refine wpAnyH_ready (rs := [18]) (by kernel_rfl) (by simp) ?_
                refine AllReadyH.cons rfl (fun K hK => ?_) AllReadyH.nil
                go_simp
                go_at_call 34; (with_reducible refine (cC' _ (by assumption)).mono ?_); rintro e w38 ⟨rfl, hS38⟩
                refine hK.out _ _ hS38 (fun hHeld => ?_)
                clear hK K
                (try simp only [Act.put]); (try simp only [List.setIfInBounds_toArray]); (try simp only [List.set_cons_succ]); (try simp only [List.set_cons_zero])
                refine held_take (i := 19) (v := ?_) rfl (by kernel_rfl) (fun _ _ _ h => h) (by kernel_rfl) (by assumption) ?_ ?_
                rotate_left
                · intro w9 hSw; (try dsimp only at hSw); (try go_split_ands); go_simp; (try with_reducible rfl)
                (try simp only [Act.put]); (try simp only [List.setIfInBounds_toArray]); (try simp only [List.set_cons_succ]); (try simp only [List.set_cons_zero])
                refine held_take (i := 20) (v := ?_) rfl (by kernel_rfl) (fun _ _ _ h => h) (by kernel_rfl) (by assumption) ?_ ?_
                rotate_left
                · intro w9 hSw; (try dsimp only at hSw); (try go_split_ands); go_simp; (try with_reducible rfl)
                (try simp only [Act.put]); (try simp only [List.setIfInBounds_toArray]); (try simp only [List.set_cons_succ]); (try simp only [List.set_cons_zero])
                refine held_take (i := 21) (v := ?_) rfl (by kernel_rfl) (fun _ _ _ h => h) (by kernel_rfl) (by assumption) ?_ ?_
                rotate_left
                · intro w9 hSw; (try dsimp only at hSw); (try go_split_ands); go_simp; (try with_reducible rfl)
                (try simp only [Act.put]); (try simp only [List.setIfInBounds_toArray]); (try simp only [List.set_cons_succ]); (try simp only [List.set_cons_zero])
                refine held_take (i := 22) (v := ?_) rfl (by kernel_rfl) (fun _ _ _ h => h) (by kernel_rfl) (by assumption) ?_ ?_
                rotate_left
                · intro w9 hSw; (try dsimp only at hSw); (try go_split_ands); go_simp; (try with_reducible rfl)
                (try simp only [Act.put]); (try simp only [List.setIfInBounds_toArray]); (try simp only [List.set_cons_succ]); (try simp only [List.set_cons_zero])
                refine held_take (i := 23) (v := ?_) rfl (by kernel_rfl) (fun _ _ _ h => h) (by kernel_rfl) (by assumption) ?_ ?_
                rotate_left
                · intro w9 hSw; (try dsimp only at hSw); (try go_split_ands); go_simp; (try with_reducible rfl)
                (try simp only [Act.put]); (try simp only [List.setIfInBounds_toArray]); (try simp only [List.set_cons_succ]); (try simp only [List.set_cons_zero])
                refine held_take (i := 24) (v := ?_) rfl (by kernel_rfl) (fun _ _ _ h => h) (by kernel_rfl) (by assumption) ?_ ?_
                rotate_left
                · intro w9 hSw; (try dsimp only at hSw); (try go_split_ands); go_simp; (try with_reducible rfl)
                (try simp only [Act.put]); (try simp only [List.setIfInBounds_toArray]); (try simp only [List.set_cons_succ]); (try simp only [List.set_cons_zero])
                refine held_take (i := 25) (v := ?_) rfl (by kernel_rfl) (fun _ _ _ h => h) (by kernel_rfl) (by assumption) ?_ ?_
                rotate_left
                · intro w9 hSw; (try dsimp only at hSw); (try go_split_ands); go_simp; (try with_reducible rfl)
                (try simp only [Act.put]); (try simp only [List.setIfInBounds_toArray]); (try simp only [List.set_cons_succ]); (try simp only [List.set_cons_zero])
                refine held_take (i := 26) (v := ?_) rfl (by kernel_rfl) (fun _ _ _ h => h) (by kernel_rfl) (by assumption) ?_ ?_
                rotate_left
                · intro w9 hSw; (try dsimp only at hSw); (try go_split_ands); go_simp; (try with_reducible rfl)
                (try simp only [Act.put]); (try simp only [List.setIfInBounds_toArray]); (try simp only [List.set_cons_succ]); (try simp only [List.set_cons_zero])
                refine held_take (i := 27) (v := ?_) rfl (by kernel_rfl) (fun _ _ _ h => h) (by kernel_rfl) (by assumption) ?_ ?_
                rotate_left
                · intro w9 hSw; (try dsimp only at hSw); (try go_split_ands); go_simp; (try with_reducible rfl)
                (try simp only [Act.put]); (try simp only [List.setIfInBounds_toArray]); (try simp only [List.set_cons_succ]); (try simp only [List.set_cons_zero])
                refine held_take (i := 28) (v := ?_) rfl (by kernel_rfl) (fun _ _ _ h => h) (by kernel_rfl) (by assumption) ?_ ?_
                rotate_left
                · intro w9 hSw; (try dsimp only at hSw); (try go_split_ands); go_simp; (try with_reducible rfl)
                (try simp only [Act.put]); (try simp only [List.setIfInBounds_toArray]); (try simp only [List.set_cons_succ]); (try simp only [List.set_cons_zero])
                refine held_take (i := 29) (v := ?_) rfl (by kernel_rfl) (fun _ _ _ h => h) (by kernel_rfl) (by assumption) ?_ ?_
                rotate_left
                · intro w9 hSw; (try dsimp only at hSw); (try go_split_ands); go_simp; (try with_reducible rfl)
                (try simp only [Act.put]); (try simp only [List.setIfInBounds_toArray]); (try simp only [List.set_cons_succ]); (try simp only [List.set_cons_zero])
                refine held_take (i := 30) (v := ?_) rfl (by kernel_rfl) (fun _ _ _ h => h) (by kernel_rfl) (by assumption) ?_ ?_
                rotate_left
                · intro w9 hSw; (try dsimp only at hSw); (try go_split_ands); go_simp; (try with_reducible rfl)
                (try simp only [Act.put]); (try simp only [List.setIfInBounds_toArray]); (try simp only [List.set_cons_succ]); (try simp only [List.set_cons_zero])
                refine held_take (i := 33) (v := ?_) rfl (by kernel_rfl) (fun _ _ _ h => h) (by kernel_rfl) (by assumption) ?_ ?_
                rotate_left
                · intro w9 hSw; (try dsimp only at hSw); (try go_split_ands); go_simp; (try with_reducible rfl)
                (try simp only [Act.put]); (try simp only [List.setIfInBounds_toArray]); (try simp only [List.set_cons_succ]); (try simp only [List.set_cons_zero])
                refine held_take (i := 34) (v := ?_) rfl (by kernel_rfl) (fun _ _ _ h => h) (by kernel_rfl) (by assumption) ?_ ?_
                rotate_left
                · intro w9 hSw; (try dsimp only at hSw); (try go_split_ands); go_simp; (try with_reducible rfl)
                (try simp only [Act.put]); (try simp only [List.setIfInBounds_toArray]); (try simp only [List.set_cons_succ]); (try simp only [List.set_cons_zero])
                refine wpAnyH_ready (rs := [31]) (by kernel_rfl) (by simp) ?_
                refine AllReadyH.cons rfl (fun K hK => ?_) AllReadyH.nil
                go_simp
                go_at_call 35; (with_reducible refine (cL' _ (by assumption)).mono ?_); rintro e w51 ⟨rfl, hS51⟩
                refine hK.out _ _ hS51 (fun hHeld => ?_)
                clear hK K
                (try simp only [Act.put]); (try simp only [List.setIfInBounds_toArray]); (try simp only [List.set_cons_succ]); (try simp only [List.set_cons_zero])
                refine held_take (i := 32) (v := ?_) rfl (by kernel_rfl) (fun _ _ _ h => h) (by kernel_rfl) (by assumption) ?_ ?_
                rotate_left
                · intro w9 hSw; (try dsimp only at hSw); (try go_split_ands); go_simp; (try with_reducible rfl)
                (try simp only [Act.put]); (try simp only [List.setIfInBounds_toArray]); (try simp only [List.set_cons_succ]); (try simp only [List.set_cons_zero])
                refine wpAnyH_ready (rs := [35]) (by kernel_rfl) (by simp) ?_
                refine AllReadyH.cons rfl (fun K hK => ?_) AllReadyH.nil
                go_simp
                go_at_call 35; (with_reducible refine (cV' _ (by assumption)).mono ?_); rintro e w55 ⟨rfl, hS55⟩
                refine hK.out _ _ hS55 (fun hHeld => ?_)
                clear hK K
                (try simp only [Act.put]); (try simp only [List.setIfInBounds_toArray]); (try simp only [List.set_cons_succ]); (try simp only [List.set_cons_zero])
                refine held_take (i := 36) (v := ?_) rfl (by kernel_rfl) (fun _ _ _ h => h) (by kernel_rfl) (by assumption) ?_ ?_
                rotate_left
                · intro w9 hSw; (try dsimp only at hSw); (try go_split_ands); go_simp; (try with_reducible rfl)
                (try simp only [Act.put]); (try simp only [List.setIfInBounds_toArray]); (try simp only [List.set_cons_succ]); (try simp only [List.set_cons_zero])
                refine held_take (i := 37) (v := ?_) rfl (by kernel_rfl) (fun _ _ _ h => h) (by kernel_rfl) (by assumption) ?_ ?_
                rotate_left
                · intro w9 hSw; (try dsimp only at hSw); (try go_split_ands); go_simp; (try with_reducible rfl)
                (try simp only [Act.put]); (try simp only [List.setIfInBounds_toArray]); (try simp only [List.set_cons_succ]); (try simp only [List.set_cons_zero])
                refine held_take (i := 38) (v := ?_) rfl (by kernel_rfl) (fun _ _ _ h => h) (by kernel_rfl) (by assumption) ?_ ?_
                rotate_left
                · intro w9 hSw; (try dsimp only at hSw); (try go_split_ands); go_simp; (try with_reducible rfl)
                (try simp only [Act.put]); (try simp only [List.setIfInBounds_toArray]); (try simp only [List.set_cons_succ]); (try simp only [List.set_cons_zero])
                refine wpAnyH_done (by kernel_rfl) ?_ _
                obtain ⟨-, -, -, -, -, -, hB3⟩ := hHeld
                have hB4 := below_next hBr hB3
                have KR4 := KR.next hB3
                clear hS0 SK
                clear q12 q13 q14
                go_wp2
                go_roundw
                case rel => exact ⟨k + 1, by omega, by go_num, HK1, KR4, hB4⟩
                case measure => simp [intOf]; omega
        rw [decide_eq_false t0] at u0
        cases hnm : nameB p.tag with
        | false =>
          rw [hnm] at cT'
          obtain rfl : R = false := HNO.out (Q5.out t0 hnm)
          clear HNO HYES HK HR Q1 Q2 Q3 Q4 Q5 HBI HBC hT hnm t0
          go_upto_region 8 with (fail)
          refine wp_region_held_drew (S := (fun W' => W'.cell? ⟨wr.heap.size, 0, none⟩ = some (.string T) ∧ W'.cell? ⟨wr.heap.size, 1, none⟩ = some (.slice iA a1 ic) ∧ W'.cell? ⟨wr.heap.size, 2, none⟩ = some (.slice cA a2 cc) ∧ W'.cell? ⟨wr.heap.size, 3, none⟩ = some (.bool p.link) ∧ W'.cell? ⟨wr.heap.size, 4, none⟩ = some (.bool p.visited) ∧ Blk W' wr.heap.size 52 #[.string T, .slice iA a1 ic, .slice cA a2 cc, .bool p.link, .bool p.visited] ∧ Below wr.heap.size wr W')) (by kernel_rfl) ?_ (fun hHeld => ?_)
          · exact hS0
          refine held_take (i := 0) (v := ?_) rfl (by kernel_rfl) (fun _ _ _ h => h) (by kernel_rfl) (by assumption) ?_ ?_
          rotate_left
          · intro w9 hSw; (try dsimp only at hSw); (try go_split_ands); go_simp; (try with_reducible rfl)
          (try simp only [Act.put]); (try simp only [List.setIfInBounds_toArray]); (try simp only [List.set_cons_succ]); (try simp only [List.set_cons_zero])
          refine held_take (i := 1) (v := ?_) rfl (by kernel_rfl) (fun _ _ _ h => h) (by kernel_rfl) (by assumption) ?_ ?_
          rotate_left
          · intro w9 hSw; (try dsimp only at hSw); (try go_split_ands); go_simp; (try with_reducible rfl)
          (try simp only [Act.put]); (try simp only [List.setIfInBounds_toArray]); (try simp only [List.set_cons_succ]); (try simp only [List.set_cons_zero])
          refine held_take (i := 2) (v := ?_) rfl (by kernel_rfl) (fun _ _ _ h => h) (by kernel_rfl) (by assumption) ?_ ?_
          rotate_left
          · intro w9 hSw; (try dsimp only at hSw); (try go_split_ands); go_simp; (try with_reducible rfl)
          (try simp only [Act.put]); (try simp only [List.setIfInBounds_toArray]); (try simp only [List.set_cons_succ]); (try simp only [List.set_cons_zero])
          refine held_take (i := 3) (v := ?_) rfl (by kernel_rfl) (fun _ _ _ h => h) (by kernel_rfl) (by assumption) ?_ ?_
          rotate_left
          · intro w9 hSw; (try dsimp only at hSw); (try go_split_ands); go_simp; (try with_reducible rfl)
          (try simp only [Act.put]); (try simp only [List.setIfInBounds_toArray]); (try simp only [List.set_cons_succ]); (try simp only [List.set_cons_zero])
          refine held_take (i := 4) (v := ?_) rfl (by kernel_rfl) (fun _ _ _ h => h) (by kernel_rfl) (by assumption) ?_ ?_
          rotate_left
          · intro w9 hSw; (try dsimp only at hSw); (try go_split_ands); go_simp; (try with_reducible rfl)
          (try simp only [Act.put]); (try simp only [List.setIfInBounds_toArray]); (try simp only [List.set_cons_succ]); (try simp only [List.set_cons_zero])
          refine held_take (i := 5) (v := ?_) rfl (by kernel_rfl) (fun _ _ _ h => h) (by kernel_rfl) (by assumption) ?_ ?_
          rotate_left
          · intro w9 hSw; (try dsimp only at hSw); (try go_split_ands); go_simp; (try with_reducible rfl)
          (try simp only [Act.put]); (try simp only [List.setIfInBounds_toArray]); (try simp only [List.set_cons_succ]); (try simp only [List.set_cons_zero])
          refine wpAnyH_ready (rs := [6]) (by kernel_rfl) (by simp) ?_
          refine AllReadyH.cons rfl (fun K hK => ?_) AllReadyH.nil
          go_simp
          go_at_call 33; (with_reducible refine (cT' _ (by assumption)).mono ?_); rintro e w26 ⟨rfl, hS26⟩
          refine hK.out _ _ hS26 (fun hHeld => ?_)
          clear hK K
          (try simp only [Act.put]); (try simp only [List.setIfInBounds_toArray]); (try simp only [List.set_cons_succ]); (try simp only [List.set_cons_zero])
          refine held_take (i := 7) (v := ?_) rfl (by kernel_rfl) (fun _ _ _ h => h) (by kernel_rfl) (by assumption) ?_ ?_
          rotate_left
          · intro w9 hSw; (try dsimp only at hSw); (try go_split_ands); go_simp; (try with_reducible rfl)
          (try simp only [Act.put]); (try simp only [List.setIfInBounds_toArray]); (try simp only [List.set_cons_succ]); (try simp only [List.set_cons_zero])
          refine held_take (i := 8) (v := ?_) rfl (by kernel_rfl) (fun _ _ _ h => h) (by kernel_rfl) (by assumption) ?_ ?_
          rotate_left
          · intro w9 hSw; (try dsimp only at hSw); (try go_split_ands); go_simp; (try with_reducible rfl)
          (try simp only [Act.put]); (try simp only [List.setIfInBounds_toArray]); (try simp only [List.set_cons_succ]); (try simp only [List.set_cons_zero])
          refine held_take (i := 9) (v := ?_) rfl (by kernel_rfl) (fun _ _ _ h => h) (by kernel_rfl) (by assumption) ?_ ?_
          rotate_left
          · intro w9 hSw; (try dsimp only at hSw); (try go_split_ands); go_simp; (try with_reducible rfl)
          (try simp only [Act.put]); (try simp only [List.setIfInBounds_toArray]); (try simp only [List.set_cons_succ]); (try simp only [List.set_cons_zero])
          refine held_skip (i := 10) rfl (by kernel_rfl) (fun _ _ _ h => h) (by kernel_rfl) (by assumption) ?_
          (try simp only [Act.put]); (try simp only [List.setIfInBounds_toArray]); (try simp only [List.set_cons_succ]); (try simp only [List.set_cons_zero])
          refine held_skip (i := 11) rfl (by kernel_rfl) (fun _ _ _ h => h) (by kernel_rfl) (by assumption) ?_
          (try simp only [Act.put]); (try simp only [List.setIfInBounds_toArray]); (try simp only [List.set_cons_succ]); (try simp only [List.set_cons_zero])
          refine wpAnyH_ready (rs := [12]) (by kernel_rfl) (by simp) ?_
          refine AllReadyH.cons rfl (fun K hK => ?_) AllReadyH.nil
          go_simp
          refine hK.out _ _ (by assumption) (fun hHeld => ?_)
          clear hK K
          (try simp only [Act.put]); (try simp only [List.setIfInBounds_toArray]); (try simp only [List.set_cons_succ]); (try simp only [List.set_cons_zero])
          refine held_skip (i := 13) rfl (by kernel_rfl) (fun _ _ _ h => h) (by kernel_rfl) (by assumption) ?_
          (try simp only [Act.put]); (try simp only [List.setIfInBounds_toArray]); (try simp only [List.set_cons_succ]); (try simp only [List.set_cons_zero])
          refine held_take (i := 14) (v := ?_) rfl (by kernel_rfl) (fun _ _ _ h => h) (by kernel_rfl) (by assumption) ?_ ?_
          rotate_left
          · intro w9 hSw; (try dsimp only at hSw); (try go_split_ands); go_simp; (try with_reducible rfl)
          (try simp only [Act.put]); (try simp only [List.setIfInBounds_toArray]); (try simp only [List.set_cons_succ]); (try simp only [List.set_cons_zero])
          refine held_take (i := 15) (v := ?_) rfl (by kernel_rfl) (fun _ _ _ h => h) (by kernel_rfl) (by assumption) ?_ ?_
          rotate_left
          · intro w9 hSw; (try dsimp only at hSw); (try go_split_ands); go_simp; (try with_reducible rfl)
          (try simp only [Act.put]); (try simp only [List.setIfInBounds_toArray]); (try simp only [List.set_cons_succ]); (try simp only [List.set_cons_zero])
          refine held_skip (i := 16) rfl (by kernel_rfl) (fun _ _ _ h => h) (by kernel_rfl) (by assumption) ?_
          (try simp only [Act.put]); (try simp only [List.setIfInBounds_toArray]); (try simp only [List.set_cons_succ]); (try simp only [List.set_cons_zero])
          refine held_skip (i := 17) rfl (by kernel_rfl) (fun _ _ _ h => h) (by kernel_rfl) (by assumption) ?_
          (try simp only [Act.put]); (try simp only [List.setIfInBounds_toArray]); (try simp only [List.set_cons_succ]); (try simp only [List.set_cons_zero])
          refine wpAnyH_ready (rs := [18]) (by kernel_rfl) (by simp) ?_
          refine AllReadyH.cons rfl (fun K hK => ?_) AllReadyH.nil
          go_simp
          refine hK.out _ _ (by assumption) (fun hHeld => ?_)
          clear hK K
          (try simp only [Act.put]); (try simp only [List.setIfInBounds_toArray]); (try simp only [List.set_cons_succ]); (try simp only [List.set_cons_zero])
          refine held_skip (i := 19) rfl (by kernel_rfl) (fun _ _ _ h => h) (by kernel_rfl) (by assumption) ?_
          (try simp only [Act.put]); (try simp only [List.setIfInBounds_toArray]); (try simp only [List.set_cons_succ]); (try simp only [List.set_cons_zero])
          refine held_take (i := 20) (v := ?_) rfl (by kernel_rfl) (fun _ _ _ h => h) (by kernel_rfl) (by assumption) ?_ ?_
          rotate_left
          · intro w9 hSw; (try dsimp only at hSw); (try go_split_ands); go_simp; (try with_reducible rfl)
          (try simp only [Act.put]); (try simp only [List.setIfInBounds_toArray]); (try simp only [List.set_cons_succ]); (try simp only [List.set_cons_zero])
          refine held_take (i := 21) (v := ?_) rfl (by kernel_rfl) (fun _ _ _ h => h) (by kernel_rfl) (by assumption) ?_ ?_
          rotate_left
          · intro w9 hSw; (try dsimp only at hSw); (try go_split_ands); go_simp; (try with_reducible rfl)
          (try simp only [Act.put]); (try simp only [List.setIfInBounds_toArray]); (try simp only [List.set_cons_succ]); (try simp only [List.set_cons_zero])
          refine held_skip (i := 22) rfl (by kernel_rfl) (fun _ _ _ h => h) (by kernel_rfl) (by assumption) ?_
          (try simp only [Act.put]); (try simp only [List.setIfInBounds_toArray]); (try simp only [List.set_cons_succ]); (try simp only [List.set_cons_zero])
          refine held_skip (i := 23) rfl (by kernel_rfl) (fun _ _ _ h => h) (by kernel_rfl) (by assumption) ?_
          (try simp only [Act.put]); (try simp only [List.setIfInBounds_toArray]); (try simp only [List.set_cons_succ]); (try simp only [List.set_cons_zero])
          refine held_skip (i := 24) rfl (by kernel_rfl) (fun _ _ _ h => h) (by kernel_rfl) (by assumption) ?_
          (try simp only [Act.put]); (try simp only [List.setIfInBounds_toArray]); (try simp only [List.set_cons_succ]); (try simp only [List.set_cons_zero])
          refine held_skip (i := 25) rfl (by kernel_rfl) (fun _ _ _ h => h) (by kernel_rfl) (by assumption) ?_
          (try simp only [Act.put]); (try simp only [List.setIfInBounds_toArray]); (try simp only [List.set_cons_succ]); (try simp only [List.set_cons_zero])
          refine held_skip (i := 26) rfl (by kernel_rfl) (fun _ _ _ h => h) (by kernel_rfl) (by assumption) ?_
          (try simp only [Act.put]); (try simp only [List.setIfInBounds_toArray]); (try simp only [List.set_cons_succ]); (try simp only [List.set_cons_zero])
          refine held_skip (i := 27) rfl (by kernel_rfl) (fun _ _ _ h => h) (by kernel_rfl) (by assumption) ?_
          (try simp only [Act.put]); (try simp only [List.setIfInBounds_toArray]); (try simp only [List.set_cons_succ]); (try simp only [List.set_cons_zero])
          refine held_skip (i := 28) rfl (by kernel_rfl) (fun _ _ _ h => h) (by kernel_rfl) (by assumption) ?_
          (try simp only [Act.put]); (try simp only [List.setIfInBounds_toArray]); (try simp only [List.set_cons_succ]); (try simp only [List.set_cons_zero])
          refine held_skip (i := 29) rfl (by kernel_rfl) (fun _ _ _ h => h) (by kernel_rfl) (by assumption) ?_
          (try simp only [Act.put]); (try simp only [List.setIfInBounds_toArray]); (try simp only [List.set_cons_succ]); (try simp only [List.set_cons_zero])
          refine held_skip (i := 30) rfl (by kernel_rfl) (fun _ _ _ h => h) (by kernel_rfl) (by assumption) ?_
          (try simp only [Act.put]); (try simp only [List.setIfInBounds_toArray]); (try simp only [List.set_cons_succ]); (try simp only [List.set_cons_zero])
          refine held_skip (i := 33) rfl (by kernel_rfl) (fun _ _ _ h => h) (by kernel_rfl) (by assumption) ?_
          (try simp only [Act.put]); (try simp only [List.setIfInBounds_toArray]); (try simp only [List.set_cons_succ]); (try simp only [List.set_cons_zero])
          refine held_skip (i := 34) rfl (by kernel_rfl) (fun _ _ _ h => h) (by kernel_rfl) (by assumption) ?_
          (try simp only [Act.put]); (try simp only [List.setIfInBounds_toArray]); (try simp only [List.set_cons_succ]); (try simp only [List.set_cons_zero])
          refine wpAnyH_ready (rs := [31]) (by kernel_rfl) (by simp) ?_
          refine AllReadyH.cons rfl (fun K hK => ?_) AllReadyH.nil
          go_simp
          refine hK.out _ _ (by assumption) (fun hHeld => ?_)
          clear hK K
          (try simp only [Act.put]); (try simp only [List.setIfInBounds_toArray]); (try simp only [List.set_cons_succ]); (try simp only [List.set_cons_zero])
          refine held_skip (i := 32) rfl (by kernel_rfl) (fun _ _ _ h => h) (by kernel_rfl) (by assumption) ?_
          (try simp only [Act.put]); (try simp only [List.setIfInBounds_toArray]); (try simp only [List.set_cons_succ]); (try simp only [List.set_cons_zero])
          refine wpAnyH_ready (rs := [35]) (by kernel_rfl) (by simp) ?_
          refine AllReadyH.cons rfl (fun K hK => ?_) AllReadyH.nil
          go_simp
          refine hK.out _ _ (by assumption) (fun hHeld => ?_)
          clear hK K
          (try simp only [Act.put]); (try simp only [List.setIfInBounds_toArray]); (try simp only [List.set_cons_succ]); (try simp only [List.set_cons_zero])
          refine held_skip (i := 36) rfl (by kernel_rfl) (fun _ _ _ h => h) (by kernel_rfl) (by assumption) ?_
          (try simp only [Act.put]); (try simp only [List.setIfInBounds_toArray]); (try simp only [List.set_cons_succ]); (try simp only [List.set_cons_zero])
          refine held_skip (i := 37) rfl (by kernel_rfl) (fun _ _ _ h => h) (by kernel_rfl) (by assumption) ?_
          (try simp only [Act.put]); (try simp only [List.setIfInBounds_toArray]); (try simp only [List.set_cons_succ]); (try simp only [List.set_cons_zero])
          refine held_take (i := 38) (v := ?_) rfl (by kernel_rfl) (fun _ _ _ h => h) (by kernel_rfl) (by assumption) ?_ ?_
          rotate_left
          · intro w9 hSw; (try dsimp only at hSw); (try go_split_ands); go_simp; (try with_reducible rfl)
          (try simp only [Act.put]); (try simp only [List.setIfInBounds_toArray]); (try simp only [List.set_cons_succ]); (try simp only [List.set_cons_zero])
          refine wpAnyH_done (by kernel_rfl) ?_ _
          obtain ⟨-, -, -, -, -, -, hB3⟩ := hHeld
          have hB4 := below_next hBr hB3
          have KR4 := KR.next hB3
          clear hS0 SK
          go_wp2
          go_ret
          exact ⟨rfl, hB4⟩
        | true =>
          rw [hnm] at cT'
          have HNM := Lib.hid hnm
          clear hT hnm
          cases bi with
          | false =>
            obtain rfl : R = false := HNO.out (Q3.out HBI.out.symm)
            clear HNO HYES HK HR Q1 Q2 Q3 Q4 Q5 HBI HBC
            go_upto_region 8 with (fail)
            refine wp_region_held_drew (S := (fun W' => W'.cell? ⟨wr.heap.size, 0, none⟩ = some (.string T) ∧ W'.cell? ⟨wr.heap.size, 1, none⟩ = some (.slice iA a1 ic) ∧ W'.cell? ⟨wr.heap.size, 2, none⟩ = some (.slice cA a2 cc) ∧ W'.cell? ⟨wr.heap.size, 3, none⟩ = some (.bool p.link) ∧ W'.cell? ⟨wr.heap.size, 4, none⟩ = some (.bool p.visited) ∧ Blk W' wr.heap.size 52 #[.string T, .slice iA a1 ic, .slice cA a2 cc, .bool p.link, .bool p.visited] ∧ Below wr.heap.size wr W')) (by kernel_rfl) ?_ (fun hHeld => ?_)
            · exact hS0
            refine held_take (i := 0) (v := ?_) rfl (by kernel_rfl) (fun _ _ _ h => h) (by kernel_rfl) (by assumption) ?_ ?_
            rotate_left
            · intro w9 hSw; (try dsimp only at hSw); (try go_split_ands); go_simp; (try with_reducible rfl)
            (try simp only [Act.put]); (try simp only [List.setIfInBounds_toArray]); (try simp only [List.set_cons_succ]); (try simp only [List.set_cons_zero])
            refine held_take (i := 1) (v := ?_) rfl (by kernel_rfl) (fun _ _ _ h => h) (by kernel_rfl) (by assumption) ?_ ?_
            rotate_left
            · intro w9 hSw; (try dsimp only at hSw); (try go_split_ands); go_simp; (try with_reducible rfl)
            (try simp only [Act.put]); (try simp only [List.setIfInBounds_toArray]); (try simp only [List.set_cons_succ]); (try simp only [List.set_cons_zero])
            refine held_take (i := 2) (v := ?_) rfl (by kernel_rfl) (fun _ _ _ h => h) (by kernel_rfl) (by assumption) ?_ ?_
            rotate_left
            · intro w9 hSw; (try dsimp only at hSw); (try go_split_ands); go_simp; (try with_reducible rfl)
            (try simp only [Act.put]); (try simp only [List.setIfInBounds_toArray]); (try simp only [List.set_cons_succ]); (try simp only [List.set_cons_zero])
            refine held_take (i := 3) (v := ?_) rfl (by kernel_rfl) (fun _ _ _ h => h) (by kernel_rfl) (by assumption) ?_ ?_
            rotate_left
            · intro w9 hSw; (try dsimp only at hSw); (try go_split_ands); go_simp; (try with_reducible rfl)
            (try simp only [Act.put]); (try simp only [List.setIfInBounds_toArray]); (try simp only [List.set_cons_succ]); (try simp only [List.set_cons_zero])
            refine held_take (i := 4) (v := ?_) rfl (by kernel_rfl) (fun _ _ _ h => h) (by kernel_rfl) (by assumption) ?_ ?_
            rotate_left
            · intro w9 hSw; (try dsimp only at hSw); (try go_split_ands); go_simp; (try with_reducible rfl)
            (try simp only [Act.put]); (try simp only [List.setIfInBounds_toArray]); (try simp only [List.set_cons_succ]); (try simp only [List.set_cons_zero])
            refine held_take (i := 5) (v := ?_) rfl (by kernel_rfl) (fun _ _ _ h => h) (by kernel_rfl) (by assumption) ?_ ?_
            rotate_left
            · intro w9 hSw; (try dsimp only at hSw); (try go_split_ands); go_simp; (try with_reducible rfl)
            (try simp only [Act.put]); (try simp only [List.setIfInBounds_toArray]); (try simp only [List.set_cons_succ]); (try simp only [List.set_cons_zero])
            refine wpAnyH_ready (rs := [6]) (by kernel_rfl) (by simp) ?_
            refine AllReadyH.cons rfl (fun K hK => ?_) AllReadyH.nil
            go_simp
            go_at_call 33; (with_reducible refine (cT' _ (by assumption)).mono ?_); rintro e w26 ⟨rfl, hS26⟩
            refine hK.out _ _ hS26 (fun hHeld => ?_)
            clear hK K
            (try simp only [Act.put]); (try simp only [List.setIfInBounds_toArray]); (try simp only [List.set_cons_succ]); (try simp only [List.set_cons_zero])
            refine held_take (i := 7) (v := ?_) rfl (by kernel_rfl) (fun _ _ _ h => h) (by kernel_rfl) (by assumption) ?_ ?_
            rotate_left
            · intro w9 hSw; (try dsimp only at hSw); (try go_split_ands); go_simp; (try with_reducible rfl)
            (try simp only [Act.put]); (try simp only [List.setIfInBounds_toArray]); (try simp only [List.set_cons_succ]); (try simp only [List.set_cons_zero])
            refine held_take (i := 8) (v := ?_) rfl (by kernel_rfl) (fun _ _ _ h => h) (by kernel_rfl) (by assumption) ?_ ?_
            rotate_left
            · intro w9 hSw; (try dsimp only at hSw); (try go_split_ands); go_simp; (try with_reducible rfl)
            (try simp only [Act.put]); (try simp only [List.setIfInBounds_toArray]); (try simp only [List.set_cons_succ]); (try simp only [List.set_cons_zero])
            refine held_take (i := 9) (v := ?_) rfl (by kernel_rfl) (fun _ _ _ h => h) (by kernel_rfl) (by assumption) ?_ ?_
            rotate_left
            · intro w9 hSw; (try dsimp only at hSw); (try go_split_ands); go_simp; (try with_reducible rfl)
            (try simp only [Act.put]); (try simp only [List.setIfInBounds_toArray]); (try simp only [List.set_cons_succ]); (try simp only [List.set_cons_zero])
            refine held_take (i := 10) (v := ?_) rfl (by kernel_rfl) (fun _ _ _ h => h) (by kernel_rfl) (by assumption) ?_ ?_
            rotate_left
            · intro w9 hSw; (try dsimp only at hSw); (try go_split_ands); go_simp; (try with_reducible rfl)
            (try simp only [Act.put]); (try simp only [List.setIfInBounds_toArray]); (try simp only [List.set_cons_succ]); (try simp only [List.set_cons_zero])
            refine held_take (i := 11) (v := ?_) rfl (by kernel_rfl) (fun _ _ _ h => h) (by kernel_rfl) (by assumption) ?_ ?_
            rotate_left
            · intro w9 hSw; (try dsimp only at hSw); (try go_split_ands); go_simp; (try with_reducible rfl)
            (try simp only [Act.put]); (try simp only [List.setIfInBounds_toArray]); (try simp only [List.set_cons_succ]); (try simp only [List.set_cons_zero])
            refine wpAnyH_ready (rs := [12]) (by kernel_rfl) (by simp) ?_
            refine AllReadyH.cons rfl (fun K hK => ?_) AllReadyH.nil
            go_simp
            go_at_call 34; (with_reducible refine (cI' _ (by assumption)).mono ?_); rintro e w32 ⟨rfl, hS32⟩
            refine hK.out _ _ hS32 (fun hHeld => ?_)
            clear hK K
            (try simp only [Act.put]); (try simp only [List.setIfInBounds_toArray]); (try simp only [List.set_cons_succ]); (try simp only [List.set_cons_zero])
            refine held_take (i := 13) (v := ?_) rfl (by kernel_rfl) (fun _ _ _ h => h) (by kernel_rfl) (by assumption) ?_ ?_
            rotate_left
            · intro w9 hSw; (try dsimp only at hSw); (try go_split_ands); go_simp; (try with_reducible rfl)
            (try simp only [Act.put]); (try simp only [List.setIfInBounds_toArray]); (try simp only [List.set_cons_succ]); (try simp only [List.set_cons_zero])
            refine held_take (i := 14) (v := ?_) rfl (by kernel_rfl) (fun _ _ _ h => h) (by kernel_rfl) (by assumption) ?_ ?_
            rotate_left
            · intro w9 hSw; (try dsimp only at hSw); (try go_split_ands); go_simp; (try with_reducible rfl)
            (try simp only [Act.put]); (try simp only [List.setIfInBounds_toArray]); (try simp only [List.set_cons_succ]); (try simp only [List.set_cons_zero])
            refine held_take (i := 15) (v := ?_) rfl (by kernel_rfl) (fun _ _ _ h => h) (by kernel_rfl) (by assumption) ?_ ?_
            rotate_left
            · intro w9 hSw; (try dsimp only at hSw); (try go_split_ands); go_simp; (try with_reducible rfl)
            (try simp only [Act.put]); (try simp only [List.setIfInBounds_toArray]); (try simp only [List.set_cons_succ]); (try simp only [List.set_cons_zero])
            refine held_skip (i := 16) rfl (by kernel_rfl) (fun _ _ _ h => h) (by kernel_rfl) (by assumption) ?_
            (try simp only [Act.put]); (try simp only [List.setIfInBounds_toArray]); (try simp only [List.set_cons_succ]); (try simp only [List.set_cons_zero])
            refine held_skip (i := 17) rfl (by kernel_rfl) (fun _ _ _ h => h) (by kernel_rfl) (by assumption) ?_
            (try simp only [Act.put]); (try simp only [List.setIfInBounds_toArray]); (try simp only [List.set_cons_succ]); (try simp only [List.set_cons_zero])
            refine wpAnyH_ready (rs := [18]) (by kernel_rfl) (by simp) ?_
            refine AllReadyH.cons rfl (fun K hK => ?_) AllReadyH.nil
            go_simp
            refine hK.out _ _ (by assumption) (fun hHeld => ?_)
            clear hK K
            (try simp only [Act.put]); (try simp only [List.setIfInBounds_toArray]); (try simp only [List.set_cons_succ]); (try simp only [List.set_cons_zero])
            refine held_skip (i := 19) rfl (by kernel_rfl) (fun _ _ _ h => h) (by kernel_rfl) (by assumption) ?_
            (try simp only [Act.put]); (try simp only [List.setIfInBounds_toArray]); (try simp only [List.set_cons_succ]); (try simp only [List.set_cons_zero])
            refine held_take (i := 20) (v := ?_) rfl (by kernel_rfl) (fun _ _ _ h => h) (by kernel_rfl) (by assumption) ?_ ?_
            rotate_left
            · intro w9 hSw; (try dsimp only at hSw); (try go_split_ands); go_simp; (try with_reducible rfl)
            (try simp only [Act.put]); (try simp only [List.setIfInBounds_toArray]); (try simp only [List.set_cons_succ]); (try simp only [List.set_cons_zero])
            refine held_take (i := 21) (v := ?_) rfl (by kernel_rfl) (fun _ _ _ h => h) (by kernel_rfl) (by assumption) ?_ ?_
            rotate_left
            · intro w9 hSw; (try dsimp only at hSw); (try go_split_ands); go_simp; (try with_reducible rfl)
            (try simp only [Act.put]); (try simp only [List.setIfInBounds_toArray]); (try simp only [List.set_cons_succ]); (try simp only [List.set_cons_zero])
            refine held_skip (i := 22) rfl (by kernel_rfl) (fun _ _ _ h => h) (by kernel_rfl) (by assumption) ?_
            (try simp only [Act.put]); (try simp only [List.setIfInBounds_toArray]); (try simp only [List.set_cons_succ]); (try simp only [List.set_cons_zero])
            refine held_skip (i := 23) rfl (by kernel_rfl) (fun _ _ _ h => h) (by kernel_rfl) (by assumption) ?_
            (try simp only [Act.put]); (try simp only [List.setIfInBounds_toArray]); (try simp only [List.set_cons_succ]); (try simp only [List.set_cons_zero])
            refine held_skip (i := 24) rfl (by kernel_rfl) (fun _ _ _ h => h) (by kernel_rfl) (by assumption) ?_
            (try simp only [Act.put]); (try simp only [List.setIfInBounds_toArray]); (try simp only [List.set_cons_succ]); (try simp only [List.set_cons_zero])
            refine held_skip (i := 25) rfl (by kernel_rfl) (fun _ _ _ h => h) (by kernel_rfl) (by assumption) ?_
            (try simp only [Act.put]); (try simp only [List.setIfInBounds_toArray]); (try simp only [List.set_cons_succ]); (try simp only [List.set_cons_zero])
            refine held_skip (i := 26) rfl (by kernel_rfl) (fun _ _ _ h => h) (by kernel_rfl) (by assumption) ?_
            (try simp only [Act.put]); (try simp only [List.setIfInBounds_toArray]); (try simp only [List.set_cons_succ]); (try simp only [List.set_cons_zero])
            refine held_skip (i := 27) rfl (by kernel_rfl) (fun _ _ _ h => h) (by kernel_rfl) (by assumption) ?_
            (try simp only [Act.put]); (try simp only [List.setIfInBounds_toArray]); (try simp only [List.set_cons_succ]); (try simp only [List.set_cons_zero])
            refine held_skip (i := 28) rfl (by kernel_rfl) (fun _ _ _ h => h) (by kernel_rfl) (by assumption) ?_
            (try simp only [Act.put]); (try simp only [List.setIfInBounds_toArray]); (try simp only [List.set_cons_succ]); (try simp only [List.set_cons_zero])
            refine held_skip (i := 29) rfl (by kernel_rfl) (fun _ _ _ h => h) (by kernel_rfl) (by assumption) ?_
            (try simp only [Act.put]); (try simp only [List.setIfInBounds_toArray]); (try simp only [List.set_cons_succ]); (try simp only [List.set_cons_zero])
            refine held_skip (i := 30) rfl (by kernel_rfl) (fun _ _ _ h => h) (by kernel_rfl) (by assumption) ?_
            (try simp only [Act.put]); (try simp only [List.setIfInBounds_toArray]); (try simp only [List.set_cons_succ]); (try simp only [List.set_cons_zero])
            refine held_skip (i := 33) rfl (by kernel_rfl) (fun _ _ _ h => h) (by kernel_rfl) (by assumption) ?_
            (try simp only [Act.put]); (try simp only [List.setIfInBounds_toArray]); (try simp only [List.set_cons_succ]); (try simp only [List.set_cons_zero])
            refine held_skip (i := 34) rfl (by kernel_rfl) (fun _ _ _ h => h) (by kernel_rfl) (by assumption) ?_
            (try simp only [Act.put]); (try simp only [List.setIfInBounds_toArray]); (try simp only [List.set_cons_succ]); (try simp only [List.set_cons_zero])
            refine wpAnyH_ready (rs := [31]) (by kernel_rfl) (by simp) ?_
            refine AllReadyH.cons rfl (fun K hK => ?_) AllReadyH.nil
            go_simp
            refine hK.out _ _ (by assumption) (fun hHeld => ?_)
            clear hK K
            (try simp only [Act.put]); (try simp only [List.setIfInBounds_toArray]); (try simp only [List.set_cons_succ]); (try simp only [List.set_cons_zero])
            refine held_skip (i := 32) rfl (by kernel_rfl) (fun _ _ _ h => h) (by kernel_rfl) (by assumption) ?_
            (try simp only [Act.put]); (try simp only [List.setIfInBounds_toArray]); (try simp only [List.set_cons_succ]); (try simp only [List.set_cons_zero])
            refine wpAnyH_ready (rs := [35]) (by kernel_rfl) (by simp) ?_
            refine AllReadyH.cons rfl (fun K hK => ?_) AllReadyH.nil
            go_simp
            refine hK.out _ _ (by assumption) (fun hHeld => ?_)
            clear hK K
            (try simp only [Act.put]); (try simp only [List.setIfInBounds_toArray]); (try simp only [List.set_cons_succ]); (try simp only [List.set_cons_zero])
            refine held_skip (i := 36) rfl (by kernel_rfl) (fun _ _ _ h => h) (by kernel_rfl) (by assumption) ?_
            (try simp only [Act.put]); (try simp only [List.setIfInBounds_toArray]); (try simp only [List.set_cons_succ]); (try simp only [List.set_cons_zero])
            refine held_skip (i := 37) rfl (by kernel_rfl) (fun _ _ _ h => h) (by kernel_rfl) (by assumption) ?_
            (try simp only [Act.put]); (try simp only [List.setIfInBounds_toArray]); (try simp only [List.set_cons_succ]); (try simp only [List.set_cons_zero])
            refine held_take (i := 38) (v := ?_) rfl (by kernel_rfl) (fun _ _ _ h => h) (by kernel_rfl) (by assumption) ?_ ?_
            rotate_left
            · intro w9 hSw; (try dsimp only at hSw); (try go_split_ands); go_simp; (try with_reducible rfl)
            (try simp only [Act.put]); (try simp only [List.setIfInBounds_toArray]); (try simp only [List.set_cons_succ]); (try simp only [List.set_cons_zero])
            refine wpAnyH_done (by kernel_rfl) ?_ _
            obtain ⟨-, -, -, -, -, -, hB3⟩ := hHeld
            have hB4 := below_next hBr hB3
            have KR4 := KR.next hB3
            clear hS0 SK
            go_wp2
            go_ret
            exact ⟨rfl, hB4⟩
          | true =>
            cases bc with
            | false =>
              obtain rfl : R = false := HNO.out (Q4.out HBC.out.symm)
              clear HNO HYES HK HR Q1 Q2 Q3 Q4 Q5 HBI HBC
              go_upto_region 8 with (fail)
              refine wp_region_held_drew (S := (fun W' => W'.cell? ⟨wr.heap.size, 0, none⟩ = some (.string T) ∧ W'.cell? ⟨wr.heap.size, 1, none⟩ = some (.slice iA a1 ic) ∧ W'.cell? ⟨wr.heap.size, 2, none⟩ = some (.slice cA a2 cc) ∧ W'.cell? ⟨wr.heap.size, 3, none⟩ = some (.bool p.link) ∧ W'.cell? ⟨wr.heap.size, 4, none⟩ = some (.bool p.visited) ∧ Blk W' wr.heap.size 52 #[.string T, .slice iA a1 ic, .slice cA a2 cc, .bool p.link, .bool p.visited] ∧ Below wr.heap.size wr W')) (by kernel_rfl) ?_ (fun hHeld => ?_)
              · exact hS0
              refine held_take (i := 0) (v := ?_) rfl (by kernel_rfl) (fun _ _ _ h => h) (by kernel_rfl) (by assumption) ?_ ?_
              rotate_left
              · intro w9 hSw; (try dsimp only at hSw); (try go_split_ands); go_simp; (try with_reducible rfl)
              (try simp only [Act.put]); (try simp only [List.setIfInBounds_toArray]); (try simp only [List.set_cons_succ]); (try simp only [List.set_cons_zero])
              refine held_take (i := 1) (v := ?_) rfl (by kernel_rfl) (fun _ _ _ h => h) (by kernel_rfl) (by assumption) ?_ ?_
              rotate_left
              · intro w9 hSw; (try dsimp only at hSw); (try go_split_ands); go_simp; (try with_reducible rfl)
              (try simp only [Act.put]); (try simp only [List.setIfInBounds_toArray]); (try simp only [List.set_cons_succ]); (try simp only [List.set_cons_zero])
              refine held_take (i := 2) (v := ?_) rfl (by kernel_rfl) (fun _ _ _ h => h) (by kernel_rfl) (by assumption) ?_ ?_
              rotate_left
              · intro w9 hSw; (try dsimp only at hSw); (try go_split_ands); go_simp; (try with_reducible rfl)
              (try simp only [Act.put]); (try simp only [List.setIfInBounds_toArray]); (try simp only [List.set_cons_succ]); (try simp only [List.set_cons_zero])
              refine held_take (i := 3) (v := ?_) rfl (by kernel_rfl) (fun _ _ _ h => h) (by kernel_rfl) (by assumption) ?_ ?_
              rotate_left
              · intro w9 hSw; (try dsimp only at hSw); (try go_split_ands); go_simp; (try with_reducible rfl)
              (try simp only [Act.put]); (try simp only [List.setIfInBounds_toArray]); (try simp only [List.set_cons_succ]); (try simp only [List.set_cons_zero])
              refine held_take (i := 4) (v := ?_) rfl (by kernel_rfl) (fun _ _ _ h => h) (by kernel_rfl) (by assumption) ?_ ?_
              rotate_left
              · intro w9 hSw; (try dsimp only at hSw); (try go_split_ands); go_simp; (try with_reducible rfl)
              (try simp only [Act.put]); (try simp only [List.setIfInBounds_toArray]); (try simp only [List.set_cons_succ]); (try simp only [List.set_cons_zero])
              refine held_take (i := 5) (v := ?_) rfl (by kernel_rfl) (fun _ _ _ h => h) (by kernel_rfl) (by assumption) ?_ ?_
              rotate_left
              · intro w9 hSw; (try dsimp only at hSw); (try go_split_ands); go_simp; (try with_reducible rfl)
              (try simp only [Act.put]); (try simp only [List.setIfInBounds_toArray]); (try simp only [List.set_cons_succ]); (try simp only [List.set_cons_zero])
              refine wpAnyH_ready (rs := [6]) (by kernel_rfl) (by simp) ?_
              refine AllReadyH.cons rfl (fun K hK => ?_) AllReadyH.nil
              go_simp
              go_at_call 33; (with_reducible refine (cT' _ (by assumption)).mono ?_); rintro e w26 ⟨rfl, hS26⟩
              refine hK.out _ _ hS26 (fun hHeld => ?_)
              clear hK K
              (try simp only [Act.put]); (try simp only [List.setIfInBounds_toArray]); (try simp only [List.set_cons_succ]); (try simp only [List.set_cons_zero])
              refine held_take (i := 7) (v := ?_) rfl (by kernel_rfl) (fun _ _ _ h => h) (by kernel_rfl) (by assumption) ?_ ?_
              rotate_left
              · intro w9 hSw; (try dsimp only at hSw); (try go_split_ands); go_simp; (try with_reducible rfl)
              (try simp only [Act.put]); (try simp only [List.setIfInBounds_toArray]); (try simp only [List.set_cons_succ]); (try simp only [List.set_cons_zero])
              refine held_take (i := 8) (v := ?_) rfl (by kernel_rfl) (fun _ _ _ h => h) (by kernel_rfl) (by assumption) ?_ ?_
              rotate_left
              · intro w9 hSw; (try dsimp only at hSw); (try go_split_ands); go_simp; (try with_reducible rfl)
              (try simp only [Act.put]); (try simp only [List.setIfInBounds_toArray]); (try simp only [List.set_cons_succ]); (try simp only [List.set_cons_zero])
              refine held_take (i := 9) (v := ?_) rfl (by kernel_rfl) (fun _ _ _ h => h) (by kernel_rfl) (by assumption) ?_ ?_
              rotate_left
              · intro w9 hSw; (try dsimp only at hSw); (try go_split_ands); go_simp; (try with_reducible rfl)
              (try simp only [Act.put]); (try simp only [List.setIfInBounds_toArray]); (try simp only [List.set_cons_succ]); (try simp only [List.set_cons_zero])
              refine held_take (i := 10) (v := ?_) rfl (by kernel_rfl) (fun _ _ _ h => h) (by kernel_rfl) (by assumption) ?_ ?_
              rotate_left
              · intro w9 hSw; (try dsimp only at hSw); (try go_split_ands); go_simp; (try with_reducible rfl)
              (try simp only [Act.put]); (try simp only [List.setIfInBounds_toArray]); (try simp only [List.set_cons_succ]); (try simp only [List.set_cons_zero])
              refine held_take (i := 11) (v := ?_) rfl (by kernel_rfl) (fun _ _ _ h => h) (by kernel_rfl) (by assumption) ?_ ?_
              rotate_left
              · intro w9 hSw; (try dsimp only at hSw); (try go_split_ands); go_simp; (try with_reducible rfl)
              (try simp only [Act.put]); (try simp only [List.setIfInBounds_toArray]); (try simp only [List.set_cons_succ]); (try simp only [List.set_cons_zero])
              refine wpAnyH_ready (rs := [12]) (by kernel_rfl) (by simp) ?_
              refine AllReadyH.cons rfl (fun K hK => ?_) AllReadyH.nil
              go_simp
              go_at_call 34; (with_reducible refine (cI' _ (by assumption)).mono ?_); rintro e w32 ⟨rfl, hS32⟩
              refine hK.out _ _ hS32 (fun hHeld => ?_)
              clear hK K
              (try simp only [Act.put]); (try simp only [List.setIfInBounds_toArray]); (try simp only [List.set_cons_succ]); (try simp only [List.set_cons_zero])
              refine held_take (i := 13) (v := ?_) rfl (by kernel_rfl) (fun _ _ _ h => h) (by kernel_rfl) (by assumption) ?_ ?_
              rotate_left
              · intro w9 hSw; (try dsimp only at hSw); (try go_split_ands); go_simp; (try with_reducible rfl)
              (try simp only [Act.put]); (try simp only [List.setIfInBounds_toArray]); (try simp only [List.set_cons_succ]); (try simp only [List.set_cons_zero])
              refine held_take (i := 14) (v := ?_) rfl (by kernel_rfl) (fun _ _ _ h => h) (by kernel_rfl) (by assumption) ?_ ?_
              rotate_left
              · intro w9 hSw; (try dsimp only at hSw); (try go_split_ands); go_simp; (try with_reducible rfl)
              (try simp only [Act.put]); (try simp only [List.setIfInBounds_toArray]); (try simp only [List.set_cons_succ]); (try simp only [List.set_cons_zero])
              refine held_take (i := 15) (v := ?_) rfl (by kernel_rfl) (fun _ _ _ h => h) (by kernel_rfl) (by assumption) ?_ ?_
              rotate_left
              · intro w9 hSw; (try dsimp only at hSw); (try go_split_ands); go_simp; (try with_reducible rfl)
              (try simp only [Act.put]); (try simp only [List.setIfInBounds_toArray]); (try simp only [List.set_cons_succ]); (try simp only [List.set_cons_zero])
              refine held_take (i := 16) (v := ?_) rfl (by kernel_rfl) (fun _ _ _ h => h) (by kernel_rfl) (by assumption) ?_ ?_
              rotate_left
              · intro w9 hSw; (try dsimp only at hSw); (try go_split_ands); go_simp; (try with_reducible rfl)
              (try simp only [Act.put]); (try simp only [List.setIfInBounds_toArray]); (try simp only [List.set_cons_succ]); (try simp only [List.set_cons_zero])
              refine held_take (i := 17) (v := ?_) rfl (by kernel_rfl) (fun _ _ _ h => h) (by kernel_rfl) (by assumption) ?_ ?_
              rotate_left
              · intro w9 hSw; (try dsimp only at hSw); (try go_split_ands); go_simp; (try with_reducible rfl)
              (try simp only [Act.put]); (try simp only [List.setIfInBounds_toArray]); (try simp only [List.set_cons_succ]); (try simp only [List.set_cons_zero])
              refine wpAnyH_ready (rs := [18]) (by kernel_rfl) (by simp) ?_
              refine AllReadyH.cons rfl (fun K hK => ?_) AllReadyH.nil
              go_simp
              go_at_call 34; (with_reducible refine (cC' _ (by assumption)).mono ?_); rintro e w38 ⟨rfl, hS38⟩
              refine hK.out _ _ hS38 (fun hHeld => ?_)
              clear hK K
              (try simp only [Act.put]); (try simp only [List.setIfInBounds_toArray]); (try simp only [List.set_cons_succ]); (try simp only [List.set_cons_zero])
              refine held_take (i := 19) (v := ?_) rfl (by kernel_rfl) (fun _ _ _ h => h) (by kernel_rfl) (by assumption) ?_ ?_
              rotate_left
              · intro w9 hSw; (try dsimp only at hSw); (try go_split_ands); go_simp; (try with_reducible rfl)
              (try simp only [Act.put]); (try simp only [List.setIfInBounds_toArray]); (try simp only [List.set_cons_succ]); (try simp only [List.set_cons_zero])
              refine held_take (i := 20) (v := ?_) rfl (by kernel_rfl) (fun _ _ _ h => h) (by kernel_rfl) (by assumption) ?_ ?_
              rotate_left
              · intro w9 hSw; (try dsimp only at hSw); (try go_split_ands); go_simp; (try with_reducible rfl)
              (try simp only [Act.put]); (try simp only [List.setIfInBounds_toArray]); (try simp only [List.set_cons_succ]); (try simp only [List.set_cons_zero])
              refine held_take (i := 21) (v := ?_) rfl (by kernel_rfl) (fun _ _ _ h => h) (by kernel_rfl) (by assumption) ?_ ?_
              rotate_left
              · intro w9 hSw; (try dsimp only at hSw); (try go_split_ands); go_simp; (try with_reducible rfl)
              (try simp only [Act.put]); (try simp only [List.setIfInBounds_toArray]); (try simp only [List.set_cons_succ]); (try simp only [List.set_cons_zero])
              refine held_skip (i := 22) rfl (by kernel_rfl) (fun _ _ _ h => h) (by kernel_rfl) (by assumption) ?_
              (try simp only [Act.put]); (try simp only [List.setIfInBounds_toArray]); (try simp only [List.set_cons_succ]); (try simp only [List.set_cons_zero])
              refine held_skip (i := 23) rfl (by kernel_rfl) (fun _ _ _ h => h) (by kernel_rfl) (by assumption) ?_
              (try simp only [Act.put]); (try simp only [List.setIfInBounds_toArray]); (try simp only [List.set_cons_succ]); (try simp only [List.set_cons_zero])
              refine held_skip (i := 24) rfl (by kernel_rfl) (fun _ _ _ h => h) (by kernel_rfl) (by assumption) ?_
              (try simp only [Act.put]); (try simp only [List.setIfInBounds_toArray]); (try simp only [List.set_cons_succ]); (try simp only [List.set_cons_zero])
              refine held_skip (i := 25) rfl (by kernel_rfl) (fun _ _ _ h => h) (by kernel_rfl) (by assumption) ?_
              (try simp only [Act.put]); (try simp only [List.setIfInBounds_toArray]); (try simp only [List.set_cons_succ]); (try simp only [List.set_cons_zero])
              refine held_skip (i := 26) rfl (by kernel_rfl) (fun _ _ _ h => h) (by kernel_rfl) (by assumption) ?_
              (try simp only [Act.put]); (try simp only [List.setIfInBounds_toArray]); (try simp only [List.set_cons_succ]); (try simp only [List.set_cons_zero])
              refine held_skip (i := 27) rfl (by kernel_rfl) (fun _ _ _ h => h) (by kernel_rfl) (by assumption) ?_
              (try simp only [Act.put]); (try simp only [List.setIfInBounds_toArray]); (try simp only [List.set_cons_succ]); (try simp only [List.set_cons_zero])
              refine held_skip (i := 28) rfl (by kernel_rfl) (fun _ _ _ h => h) (by kernel_rfl) (by assumption) ?_
              (try simp only [Act.put]); (try simp only [List.setIfInBounds_toArray]); (try simp only [List.set_cons_succ]); (try simp only [List.set_cons_zero])
              refine held_skip (i := 29) rfl (by kernel_rfl) (fun _ _ _ h => h) (by kernel_rfl) (by assumption) ?_
              (try simp only [Act.put]); (try simp only [List.setIfInBounds_toArray]); (try simp only [List.set_cons_succ]); (try simp only [List.set_cons_zero])
              refine held_skip (i := 30) rfl (by kernel_rfl) (fun _ _ _ h => h) (by kernel_rfl) (by assumption) ?_
              (try simp only [Act.put]); (try simp only [List.setIfInBounds_toArray]); (try simp only [List.set_cons_succ]); (try simp only [List.set_cons_zero])
              refine held_skip (i := 33) rfl (by kernel_rfl) (fun _ _ _ h => h) (by kernel_rfl) (by assumption) ?_
              (try simp only [Act.put]); (try simp only [List.setIfInBounds_toArray]); (try simp only [List.set_cons_succ]); (try simp only [List.set_cons_zero])
              refine held_skip (i := 34) rfl (by kernel_rfl) (fun _ _ _ h => h) (by kernel_rfl) (by assumption) ?_
              (try simp only [Act.put]); (try simp only [List.setIfInBounds_toArray]); (try simp only [List.set_cons_succ]); (try simp only [List.set_cons_zero])
              refine wpAnyH_ready (rs := [31]) (by kernel_rfl) (by simp) ?_
              refine AllReadyH.cons rfl (fun K hK => ?_) AllReadyH.nil
              go_simp
              refine hK.out _ _ (by assumption) (fun hHeld => ?_)
              clear hK K
              (try simp only [Act.put]); (try simp only [List.setIfInBounds_toArray]); (try simp only [List.set_cons_succ]); (try simp only [List.set_cons_zero])
              refine held_skip (i := 32) rfl (by kernel_rfl) (fun _ _ _ h => h) (by kernel_rfl) (by assumption) ?_
              (try simp only [Act.put]); (try simp only [List.setIfInBounds_toArray]); (try simp only [List.set_cons_succ]); (try simp only [List.set_cons_zero])
              refine wpAnyH_ready (rs := [35]) (by kernel_rfl) (by simp) ?_
              refine AllReadyH.cons rfl (fun K hK => ?_) AllReadyH.nil
              go_simp
              refine hK.out _ _ (by assumption) (fun hHeld => ?_)
              clear hK K
              (try simp only [Act.put]); (try simp only [List.setIfInBounds_toArray]); (try simp only [List.set_cons_succ]); (try simp only [List.set_cons_zero])
              refine held_skip (i := 36) rfl (by kernel_rfl) (fun _ _ _ h => h) (by kernel_rfl) (by assumption) ?_
              (try simp only [Act.put]); (try simp only [List.setIfInBounds_toArray]); (try simp only [List.set_cons_succ]); (try simp only [List.set_cons_zero])
              refine held_skip (i := 37) rfl (by kernel_rfl) (fun _ _ _ h => h) (by kernel_rfl) (by assumption) ?_
              (try simp only [Act.put]); (try simp only [List.setIfInBounds_toArray]); (try simp only [List.set_cons_succ]); (try simp only [List.set_cons_zero])
              refine held_take (i := 38) (v := ?_) rfl (by kernel_rfl) (fun _ _ _ h => h) (by kernel_rfl) (by assumption) ?_ ?_
              rotate_left
              · intro w9 hSw; (try dsimp only at hSw); (try go_split_ands); go_simp; (try with_reducible rfl)
              (try simp only [Act.put]); (try simp only [List.setIfInBounds_toArray]); (try simp only [List.set_cons_succ]); (try simp only [List.set_cons_zero])
              refine wpAnyH_done (by kernel_rfl) ?_ _
              obtain ⟨-, -, -, -, -, -, hB3⟩ := hHeld
              have hB4 := below_next hBr hB3
              have KR4 := KR.next hB3
              clear hS0 SK
              go_wp2
              go_ret
              exact ⟨rfl, hB4⟩
            | true =>
              by_cases h8 : 8 < a14
              · have h8i : (8 : Int) < (a14 : Int) := by omega
                obtain rfl : R = false := HNO.out (Q1.out h8)
                clear HNO HYES HK HR Q1 Q2 Q3 Q4 Q5 HBI HBC
                go_upto_region 8 with (fail)
                refine wp_region_held_drew (S := (fun W' => W'.cell? ⟨wr.heap.size, 0, none⟩ = some (.string T) ∧ W'.cell? ⟨wr.heap.size, 1, none⟩ = some (.slice iA a1 ic) ∧ W'.cell? ⟨wr.heap.size, 2, none⟩ = some (.slice cA a2 cc) ∧ W'.cell? ⟨wr.heap.size, 3, none⟩ = some (.bool p.link) ∧ W'.cell? ⟨wr.heap.size, 4, none⟩ = some (.bool p.visited) ∧ Blk W' wr.heap.size 52 #[.string T, .slice iA a1 ic, .slice cA a2 cc, .bool p.link, .bool p.visited] ∧ Below wr.heap.size wr W')) (by kernel_rfl) ?_ (fun hHeld => ?_)
                · exact hS0
                refine held_take (i := 0) (v := ?_) rfl (by kernel_rfl) (fun _ _ _ h => h) (by kernel_rfl) (by assumption) ?_ ?_
                rotate_left
                · intro w9 hSw; (try dsimp only at hSw); (try go_split_ands); go_simp; (try with_reducible rfl)
                (try simp only [Act.put]); (try simp only [List.setIfInBounds_toArray]); (try simp only [List.set_cons_succ]); (try simp only [List.set_cons_zero])
                refine held_take (i := 1) (v := ?_) rfl (by kernel_rfl) (fun _ _ _ h => h) (by kernel_rfl) (by assumption) ?_ ?_
                rotate_left
                · intro w9 hSw; (try dsimp only at hSw); (try go_split_ands); go_simp; (try with_reducible rfl)
                (try simp only [Act.put]); (try simp only [List.setIfInBounds_toArray]); (try simp only [List.set_cons_succ]); (try simp only [List.set_cons_zero])
                refine held_take (i := 2) (v := ?_) rfl (by kernel_rfl) (fun _ _ _ h => h) (by kernel_rfl) (by assumption) ?_ ?_
                rotate_left
                · intro w9 hSw; (try dsimp only at hSw); (try go_split_ands); go_simp; (try with_reducible rfl)
                (try simp only [Act.put]); (try simp only [List.setIfInBounds_toArray]); (try simp only [List.set_cons_succ]); (try simp only [List.set_cons_zero])
                refine held_take (i := 3) (v := ?_) rfl (by kernel_rfl) (fun _ _ _ h => h) (by kernel_rfl) (by assumption) ?_ ?_
                rotate_left
                · intro w9 hSw; (try dsimp only at hSw); (try go_split_ands); go_simp; (try with_reducible rfl)
                (try simp only [Act.put]); (try simp only [List.setIfInBounds_toArray]); (try simp only [List.set_cons_succ]); (try simp only [List.set_cons_zero])
                refine held_take (i := 4) (v := ?_) rfl (by kernel_rfl) (fun _ _ _ h => h) (by kernel_rfl) (by assumption) ?_ ?_
                rotate_left
                · intro w9 hSw; (try dsimp only at hSw); (try go_split_ands); go_simp; (try with_reducible rfl)
                (try simp only [Act.put]); (try simp only [List.setIfInBounds_toArray]); (try simp only [List.set_cons_succ]); (try simp only [List.set_cons_zero])
                refine held_take (i := 5) (v := ?_) rfl (by kernel_rfl) (fun _ _ _ h => h) (by kernel_rfl) (by assumption) ?_ ?_
                rotate_left
                · intro w9 hSw; (try dsimp only at hSw); (try go_split_ands); go_simp; (try with_reducible rfl)
                (try simp only [Act.put]); (try simp only [List.setIfInBounds_toArray]); (try simp only [List.set_cons_succ]); (try simp only [List.set_cons_zero])
                refine wpAnyH_ready (rs := [6]) (by kernel_rfl) (by simp) ?_
                refine AllReadyH.cons rfl (fun K hK => ?_) AllReadyH.nil
                go_simp
                go_at_call 33; (with_reducible refine (cT' _ (by assumption)).mono ?_); rintro e w26 ⟨rfl, hS26⟩
                refine hK.out _ _ hS26 (fun hHeld => ?_)
                clear hK K
                (try simp only [Act.put]); (try simp only [List.setIfInBounds_toArray]); (try simp only [List.set_cons_succ]); (try simp only [List.set_cons_zero])
                refine held_take (i := 7) (v := ?_) rfl (by kernel_rfl) (fun _ _ _ h => h) (by kernel_rfl) (by assumption) ?_ ?_
                rotate_left
                · intro w9 hSw; (try dsimp only at hSw); (try go_split_ands); go_simp; (try with_reducible rfl)
                (try simp only [Act.put]); (try simp only [List.setIfInBounds_toArray]); (try simp only [List.set_cons_succ]); (try simp only [List.set_cons_zero])
                refine held_take (i := 8) (v := ?_) rfl (by kernel_rfl) (fun _ _ _ h => h) (by kernel_rfl) (by assumption) ?_ ?_
                rotate_left
                · intro w9 hSw; (try dsimp only at hSw); (try go_split_ands); go_simp; (try with_reducible rfl)
                (try simp only [Act.put]); (try simp only [List.setIfInBounds_toArray]); (try simp only [List.set_cons_succ]); (try simp only [List.set_cons_zero])
                refine held_take (i := 9) (v := ?_) rfl (by kernel_rfl) (fun _ _ _ h => h) (by kernel_rfl) (by assumption) ?_ ?_
                rotate_left
                · intro w9 hSw; (try dsimp only at hSw); (try go_split_ands); go_simp; (try with_reducible rfl)
                (try simp only [Act.put]); (try simp only [List.setIfInBounds_toArray]); (try simp only [List.set_cons_succ]); (try simp only [List.set_cons_zero])
                refine held_take (i := 10) (v := ?_) rfl (by kernel_rfl) (fun _ _ _ h => h) (by kernel_rfl) (by assumption) ?_ ?_
                rotate_left
                · intro w9 hSw; (try dsimp only at hSw); (try go_split_ands); go_simp; (try with_reducible rfl)
                (try simp only [Act.put]); (try simp only [List.setIfInBounds_toArray]); (try simp only [List.set_cons_succ]); (try simp only [List.set_cons_zero])
                refine held_take (i := 11) (v := ?_) rfl (by kernel_rfl) (fun _ _ _ h => h) (by kernel_rfl) (by assumption) ?_ ?_
                rotate_left
                · intro w9 hSw; (try dsimp only at hSw); (try go_split_ands); go_simp; (try with_reducible rfl)
                (try simp only [Act.put]); (try simp only [List.setIfInBounds_toArray]); (try simp only [List.set_cons_succ]); (try simp only [List.set_cons_zero])
                refine wpAnyH_ready (rs := [12]) (by kernel_rfl) (by simp) ?_
                refine AllReadyH.cons rfl (fun K hK => ?_) AllReadyH.nil
                go_simp
                go_at_call 34; (with_reducible refine (cI' _ (by assumption)).mono ?_); rintro e w32 ⟨rfl, hS32⟩
                refine hK.out _ _ hS32 (fun hHeld => ?_)
                clear hK K
                (try simp only [Act.put]); (try simp only [List.setIfInBounds_toArray]); (try simp only [List.set_cons_succ]); (try simp only [List.set_cons_zero])
                refine held_take (i := 13) (v := ?_) rfl (by kernel_rfl) (fun _ _ _ h => h) (by kernel_rfl) (by assumption) ?_ ?_
                rotate_left
                · intro w9 hSw; (try dsimp only at hSw); (try go_split_ands); go_simp; (try with_reducible rfl)
                (try simp only [Act.put]); (try simp only [List.setIfInBounds_toArray]); (try simp only [List.set_cons_succ]); (try simp only [List.set_cons_zero])
                refine held_take (i := 14) (v := ?_) rfl (by kernel_rfl) (fun _ _ _ h => h) (by kernel_rfl) (by assumption) ?_ ?_
                rotate_left
                · intro w9 hSw; (try dsimp only at hSw); (try go_split_ands); go_simp; (try with_reducible rfl)
                (try simp only [Act.put]); (try simp only [List.setIfInBounds_toArray]); (try simp only [List.set_cons_succ]); (try simp only [List.set_cons_zero])
                refine held_take (i := 15) (v := ?_) rfl (by kernel_rfl) (fun _ _ _ h => h) (by kernel_rfl) (by assumption) ?_ ?_
                rotate_left
                · intro w9 hSw; (try dsimp only at hSw); (try go_split_ands); go_simp; (try with_reducible rfl)
                (try simp only [Act.put]); (try simp only [List.setIfInBounds_toArray]); (try simp only [List.set_cons_succ]); (try simp only [List.set_cons_zero])
                refine held_take (i := 16) (v := ?_) rfl (by kernel_rfl) (fun _ _ _ h => h) (by kernel_rfl) (by assumption) ?_ ?_
                rotate_left
                · intro w9 hSw; (try dsimp only at hSw); (try go_split_ands); go_simp; (try with_reducible rfl)
                (try simp only [Act.put]); (try simp only [List.setIfInBounds_toArray]); (try simp only [List.set_cons_succ]); (try simp only [List.set_cons_zero])
                refine held_take (i := 17) (v := ?_) rfl (by kernel_rfl) (fun _ _ _ h => h) (by kernel_rfl) (by assumption) ?_ ?_
                rotate_left
                · intro w9 hSw; (try dsimp only at hSw); (try go_split_ands); go_simp; (try with_reducible rfl)
                (try simp only [Act.put]); (try simp only [List.setIfInBounds_toArray]); (try simp only [List.set_cons_succ]); (try simp only [List.set_cons_zero])
                refine wpAnyH_ready (rs := [18]) (by kernel_rfl) (by simp) ?_
                refine AllReadyH.cons rfl (fun K hK => ?_) AllReadyH.nil
                go_simp
                go_at_call 34; (with_reducible refine (cC' _ (by assumption)).mono ?_); rintro e w38 ⟨rfl, hS38⟩
                refine hK.out _ _ hS38 (fun hHeld => ?_)
                clear hK K
                (try simp only [Act.put]); (try simp only [List.setIfInBounds_toArray]); (try simp only [List.set_cons_succ]); (try simp only [List.set_cons_zero])
                refine held_take (i := 19) (v := ?_) rfl (by kernel_rfl) (fun _ _ _ h => h) (by kernel_rfl) (by assumption) ?_ ?_
                rotate_left
                · intro w9 hSw; (try dsimp only at hSw); (try go_split_ands); go_simp; (try with_reducible rfl)
                (try simp only [Act.put]); (try simp only [List.setIfInBounds_toArray]); (try simp only [List.set_cons_succ]); (try simp only [List.set_cons_zero])
                refine held_take (i := 20) (v := ?_) rfl (by kernel_rfl) (fun _ _ _ h => h) (by kernel_rfl) (by assumption) ?_ ?_
                rotate_left
                · intro w9 hSw; (try dsimp only at hSw); (try go_split_ands); go_simp; (try with_reducible rfl)
                (try simp only [Act.put]); (try simp only [List.setIfInBounds_toArray]); (try simp only [List.set_cons_succ]); (try simp only [List.set_cons_zero])
                refine held_take (i := 21) (v := ?_) rfl (by kernel_rfl) (fun _ _ _ h => h) (by kernel_rfl) (by assumption) ?_ ?_
                rotate_left
                · intro w9 hSw; (try dsimp only at hSw); (try go_split_ands); go_simp; (try with_reducible rfl)
                (try simp only [Act.put]); (try simp only [List.setIfInBounds_toArray]); (try simp only [List.set_cons_succ]); (try simp only [List.set_cons_zero])
                refine held_take (i := 22) (v := ?_) rfl (by kernel_rfl) (fun _ _ _ h => h) (by kernel_rfl) (by assumption) ?_ ?_
                rotate_left
                · intro w9 hSw; (try dsimp only at hSw); (try go_split_ands); go_simp; (try with_reducible rfl)
                (try simp only [Act.put]); (try simp only [List.setIfInBounds_toArray]); (try simp only [List.set_cons_succ]); (try simp only [List.set_cons_zero])
                refine held_take (i := 23) (v := ?_) rfl (by kernel_rfl) (fun _ _ _ h => h) (by kernel_rfl) (by assumption) ?_ ?_
                rotate_left
                · intro w9 hSw; (try dsimp only at hSw); (try go_split_ands); go_simp; (try with_reducible rfl)
                (try simp only [Act.put]); (try simp only [List.setIfInBounds_toArray]); (try simp only [List.set_cons_succ]); (try simp only [List.set_cons_zero])
                refine held_take (i := 24) (v := ?_) rfl (by kernel_rfl) (fun _ _ _ h => h) (by kernel_rfl) (by assumption) ?_ ?_
                rotate_left
                · intro w9 hSw; (try dsimp only at hSw); (try go_split_ands); go_simp; (try with_reducible rfl)
                (try simp only [Act.put]); (try simp only [List.setIfInBounds_toArray]); (try simp only [List.set_cons_succ]); (try simp only [List.set_cons_zero])
                refine held_take (i := 25) (v := ?_) rfl (by kernel_rfl) (fun _ _ _ h => h) (by kernel_rfl) (by assumption) ?_ ?_
                rotate_left
                · intro w9 hSw; (try dsimp only at hSw); (try go_split_ands); go_simp; (try with_reducible rfl)
                (try simp only [Act.put]); (try simp only [List.setIfInBounds_toArray]); (try simp only [List.set_cons_succ]); (try simp only [List.set_cons_zero])
                refine held_take (i := 26) (v := ?_) rfl (by kernel_rfl) (fun _ _ _ h => h) (by kernel_rfl) (by assumption) ?_ ?_
                rotate_left
                · intro w9 hSw; (try dsimp only at hSw); (try go_split_ands); go_simp; (try with_reducible rfl)
                (try simp only [Act.put]); (try simp only [List.setIfInBounds_toArray]); (try simp only [List.set_cons_succ]); (try simp only [List.set_cons_zero])
                refine held_take (i := 27) (v := ?_) rfl (by kernel_rfl) (fun _ _ _ h => h) (by kernel_rfl) (by assumption) ?_ ?_
                rotate_left
                · intro w9 hSw; (try dsimp only at hSw); (try go_split_ands); go_simp; (try with_reducible rfl)
                (try simp only [Act.put]); (try simp only [List.setIfInBounds_toArray]); (try simp only [List.set_cons_succ]); (try simp only [List.set_cons_zero])
                refine held_take (i := 28) (v := ?_) rfl (by kernel_rfl) (fun _ _ _ h => h) (by kernel_rfl) (by assumption) ?_ ?_
                rotate_left
                · intro w9 hSw; (try dsimp only at hSw); (try go_split_ands); go_simp; (try with_reducible rfl)
                (try simp only [Act.put]); (try simp only [List.setIfInBounds_toArray]); (try simp only [List.set_cons_succ]); (try simp only [List.set_cons_zero])
                refine held_take (i := 29) (v := ?_) rfl (by kernel_rfl) (fun _ _ _ h => h) (by kernel_rfl) (by assumption) ?_ ?_
                rotate_left
                · intro w9 hSw; (try dsimp only at hSw); (try go_split_ands); go_simp; (try with_reducible rfl)
                (try simp only [Act.put]); (try simp only [List.setIfInBounds_toArray]); (try simp only [List.set_cons_succ]); (try simp only [List.set_cons_zero])
                refine held_take (i := 30) (v := ?_) rfl (by kernel_rfl) (fun _ _ _ h => h) (by kernel_rfl) (by assumption) ?_ ?_
                rotate_left
                · intro w9 hSw; (try dsimp only at hSw); (try go_split_ands); go_simp; (try with_reducible rfl)
                (try simp only [Act.put]); (try simp only [List.setIfInBounds_toArray]); (try simp only [List.set_cons_succ]); (try simp only [List.set_cons_zero])
                refine held_take (i := 33) (v := ?_) rfl (by kernel_rfl) (fun _ _ _ h => h) (by kernel_rfl) (by assumption) ?_ ?_
                rotate_left
                · intro w9 hSw; (try dsimp only at hSw); (try go_split_ands); go_simp; (try with_reducible rfl)
                (try simp only [Act.put]); (try simp only [List.setIfInBounds_toArray]); (try simp only [List.set_cons_succ]); (try simp only [List.set_cons_zero])
                refine held_take (i := 34) (v := ?_) rfl (by kernel_rfl) (fun _ _ _ h => h) (by kernel_rfl) (by assumption) ?_ ?_
                rotate_left
                · intro w9 hSw; (try dsimp only at hSw); (try go_split_ands); go_simp; (try with_reducible rfl)
                (try simp only [Act.put]); (try simp only [List.setIfInBounds_toArray]); (try simp only [List.set_cons_succ]); (try simp only [List.set_cons_zero])
                refine wpAnyH_ready (rs := [31]) (by kernel_rfl) (by simp) ?_
                refine AllReadyH.cons rfl (fun K hK => ?_) AllReadyH.nil
                go_simp
                go_at_call 35; (with_reducible refine (cL' _ (by assumption)).mono ?_); rintro e w51 ⟨rfl, hS51⟩
                refine hK.out _ _ hS51 (fun hHeld => ?_)
                clear hK K
                (try simp only [Act.put]); (try simp only [List.setIfInBounds_toArray]); (try simp only [List.set_cons_succ]); (try simp only [List.set_cons_zero])
                refine held_take (i := 32) (v := ?_) rfl (by kernel_rfl) (fun _ _ _ h => h) (by kernel_rfl) (by assumption) ?_ ?_
                rotate_left
                · intro w9 hSw; (try dsimp only at hSw); (try go_split_ands); go_simp; (try with_reducible rfl)
                (try simp only [Act.put]); (try simp only [List.setIfInBounds_toArray]); (try simp only [List.set_cons_succ]); (try simp only [List.set_cons_zero])
                refine wpAnyH_ready (rs := [35]) (by kernel_rfl) (by simp) ?_
                refine AllReadyH.cons rfl (fun K hK => ?_) AllReadyH.nil
                go_simp
                go_at_call 35; (with_reducible refine (cV' _ (by assumption)).mono ?_); rintro e w55 ⟨rfl, hS55⟩
                refine hK.out _ _ hS55 (fun hHeld => ?_)
                clear hK K
                (try simp only [Act.put]); (try simp only [List.setIfInBounds_toArray]); (try simp only [List.set_cons_succ]); (try simp only [List.set_cons_zero])
                refine held_take (i := 36) (v := ?_) rfl (by kernel_rfl) (fun _ _ _ h => h) (by kernel_rfl) (by assumption) ?_ ?_
                rotate_left
                · intro w9 hSw; (try dsimp only at hSw); (try go_split_ands); go_simp; (try with_reducible rfl)
                (try simp only [Act.put]); (try simp only [List.setIfInBounds_toArray]); (try simp only [List.set_cons_succ]); (try simp only [List.set_cons_zero])
                refine held_take (i := 37) (v := ?_) rfl (by kernel_rfl) (fun _ _ _ h => h) (by kernel_rfl) (by assumption) ?_ ?_
                rotate_left
                · intro w9 hSw; (try dsimp only at hSw); (try go_split_ands); go_simp; (try with_reducible rfl)
                (try simp only [Act.put]); (try simp only [List.setIfInBounds_toArray]); (try simp only [List.set_cons_succ]); (try simp only [List.set_cons_zero])
                refine held_take (i := 38) (v := ?_) rfl (by kernel_rfl) (fun _ _ _ h => h) (by kernel_rfl) (by assumption) ?_ ?_
                rotate_left
                · intro w9 hSw; (try dsimp only at hSw); (try go_split_ands); go_simp; (try with_reducible rfl)
                (try simp only [Act.put]); (try simp only [List.setIfInBounds_toArray]); (try simp only [List.set_cons_succ]); (try simp only [List.set_cons_zero])
                refine wpAnyH_done (by kernel_rfl) ?_ _
                obtain ⟨-, -, -, -, -, -, hB3⟩ := hHeld
                have hB4 := below_next hBr hB3
                have KR4 := KR.next hB3
                clear hS0 SK
                go_wp2
                go_ret
                exact ⟨rfl, hB4⟩
              · have h8i : ¬ (8 : Int) < (a14 : Int) := by omega
                have HK1 := Lib.hid (HYES.out (Q2.out (.inr HNM.out) HBI.out.symm HBC.out.symm (by omega)))
                clear HNO HYES HK Q1 Q2 Q3 Q4 Q5 HBI HBC
                go_upto_region 8 with (fail)
                refine wp_region_held_drew (S := (fun W' => W'.cell? ⟨wr.heap.size, 0, none⟩ = some (.string T) ∧ W'.cell? ⟨wr.heap.size, 1, none⟩ = some (.slice iA a1 ic) ∧ W'.cell? ⟨wr.heap.size, 2, none⟩ = some (.slice cA a2 cc) ∧ W'.cell? ⟨wr.heap.size, 3, none⟩ = some (.bool p.link) ∧ W'.cell? ⟨wr.heap.size, 4, none⟩ = some (.bool p.visited) ∧ Blk W' wr.heap.size 52 #[.string T, .slice iA a1 ic, .slice cA a2 cc, .bool p.link, .bool p.visited] ∧ Below wr.heap.size wr W')) (by kernel_rfl) ?_ (fun hHeld => ?_)
                · exact hS0
                refine held_take (i := 0) (v := ?_) rfl (by kernel_rfl) (fun _ _ _ h => h) (by kernel_rfl) (by assumption) ?_ ?_
                rotate_left
                · intro w9 hSw; (try dsimp only at hSw); (try go_split_ands); go_simp; (try with_reducible rfl)
                (try simp only [Act.put]); (try simp only [List.setIfInBounds_toArray]); (try simp only [List.set_cons_succ]); (try simp only [List.set_cons_zero])
                refine held_take (i := 1) (v := ?_) rfl (by kernel_rfl) (fun _ _ _ h => h) (by kernel_rfl) (by assumption) ?_ ?_
                rotate_left
                · intro w9 hSw; (try dsimp only at hSw); (try go_split_ands); go_simp; (try with_reducible rfl)
                (try simp only [Act.put]); (try simp only [List.setIfInBounds_toArray]); (try simp only [List.set_cons_succ]); (try simp only [List.set_cons_zero])
                refine held_take (i := 2) (v := ?_) rfl (by kernel_rfl) (fun _ _ _ h => h) (by kernel_rfl) (by assumption) ?_ ?_
                rotate_left
                · intro w9 hSw; (try dsimp only at hSw); (try go_split_ands); go_simp; (try with_reducible rfl)
                (try simp only [Act.put]); (try simp only [List.setIfInBounds_toArray]); (try simp only [List.set_cons_succ]); (try simp only [List.set_cons_zero])
                refine held_take (i := 3) (v := ?_) rfl (by kernel_rfl) (fun _ _ _ h => h) (by kernel_rfl) (by assumption) ?_ ?_
                rotate_left
                · intro w9 hSw; (try dsimp only at hSw); (try go_split_ands); go_simp; (try with_reducible rfl)
                (try simp only [Act.put]); (try simp only [List.setIfInBounds_toArray]); (try simp only [List.set_cons_succ]); (try simp only [List.set_cons_zero])
                refine held_take (i := 4) (v := ?_) rfl (by kernel_rfl) (fun _ _ _ h => h) (by kernel_rfl) (by assumption) ?_ ?_
                rotate_left
                · intro w9 hSw; (try dsimp only at hSw); (try go_split_ands); go_simp; (try with_reducible rfl)
                (try simp only [Act.put]); (try simp only [List.setIfInBounds_toArray]); (try simp only [List.set_cons_succ]); (try simp only [List.set_cons_zero])
                refine held_take (i := 5) (v := ?_) rfl (by kernel_rfl) (fun _ _ _ h => h) (by kernel_rfl) (by assumption) ?_ ?_
                rotate_left
                · intro w9 hSw; (try dsimp only at hSw); (try go_split_ands); go_simp; (try with_reducible rfl)
                (try simp only [Act.put]); (try simp only [List.setIfInBounds_toArray]); (try simp only [List.set_cons_succ]); (try simp only [List.set_cons_zero])
                refine wpAnyH_ready (rs := [6]) (by kernel_rfl) (by simp) ?_
                refine AllReadyH.cons rfl (fun K hK => ?_) AllReadyH.nil
                go_simp
                go_at_call 33; (with_reducible refine (cT' _ (by assumption)).mono ?_); rintro e w26 ⟨rfl, hS26⟩
                refine hK.out _ _ hS26 (fun hHeld => ?_)
                clear hK K
                (try simp only [Act.put]); (try simp only [List.setIfInBounds_toArray]); (try simp only [List.set_cons_succ]); (try simp only [List.set_cons_zero])
                refine held_take (i := 7) (v := ?_) rfl (by kernel_rfl) (fun _ _ _ h => h) (by kernel_rfl) (by assumption) ?_ ?_
                rotate_left
                · intro w9 hSw; (try dsimp only at hSw); (try go_split_ands); go_simp; (try with_reducible rfl)
                (try simp only [Act.put]); (try simp only [List.setIfInBounds_toArray]); (try simp only [List.set_cons_succ]); (try simp only [List.set_cons_zero])
                refine held_take (i := 8) (v := ?_) rfl (by kernel_rfl) (fun _ _ _ h => h) (by kernel_rfl) (by assumption) ?_ ?_
                rotate_left
                · intro w9 hSw; (try dsimp only at hSw); (try go_split_ands); go_simp; (try with_reducible rfl)
                (try simp only [Act.put]); (try simp only [List.setIfInBounds_toArray]); (try simp only [List.set_cons_succ]); (try simp only [List.set_cons_zero])
                refine held_take (i := 9) (v := ?_) rfl (by kernel_rfl) (fun _ _ _ h => h) (by kernel_rfl) (by assumption) ?_ ?_
                rotate_left
                · intro w9 hSw; (try dsimp only at hSw); (try go_split_ands); go_simp; (try with_reducible rfl)
                (try simp only [Act.put]); (try simp only [List.setIfInBounds_toArray]); (try simp only [List.set_cons_succ]); (try simp only [List.set_cons_zero])
                refine held_take (i := 10) (v := ?_) rfl (by kernel_rfl) (fun _ _ _ h => h) (by kernel_rfl) (by assumption) ?_ ?_
                rotate_left
                · intro w9 hSw; (try dsimp only at hSw); (try go_split_ands); go_simp; (try with_reducible rfl)
                (try simp only [Act.put]); (try simp only [List.setIfInBounds_toArray]); (try simp only [List.set_cons_succ]); (try simp only [List.set_cons_zero])
                refine held_take (i := 11) (v := ?_) rfl (by kernel_rfl) (fun _ _ _ h => h) (by kernel_rfl) (by assumption) ?_ ?_
                rotate_left
                · intro w9 hSw; (try dsimp only at hSw); (try go_split_ands); go_simp; (try with_reducible rfl)
                (try simp only [Act.put]); (try simp only [List.setIfInBounds_toArray]); (try simp only [List.set_cons_succ]); (try simp only [List.set_cons_zero])
                refine wpAnyH_ready (rs := [12]) (by kernel_rfl) (by simp) ?_
                refine AllReadyH.cons rfl (fun K hK => ?_) AllReadyH.nil
                go_simp
                go_at_call 34; (with_reducible refine (cI' _ (by assumption)).mono ?_); rintro e w32 ⟨rfl, hS32⟩
                refine hK.out _ _ hS32 (fun hHeld => ?_)
                clear hK K
                (try simp only [Act.put]); (try simp only [List.setIfInBounds_toArray]); (try simp only [List.set_cons_succ]); (try simp only [List.set_cons_zero])
                refine held_take (i := 13) (v := ?_) rfl (by kernel_rfl) (fun _ _ _ h => h) (by kernel_rfl) (by assumption) ?_ ?_
                rotate_left
                · intro w9 hSw; (try dsimp only at hSw); (try go_split_ands); go_simp; (try with_reducible rfl)
                (try simp only [Act.put]); (try simp only [List.setIfInBounds_toArray]); (try simp only [List.set_cons_succ]); (try simp only [List.set_cons_zero])
                refine held_take (i := 14) (v := ?_) rfl (by kernel_rfl) (fun _ _ _ h => h) (by kernel_rfl) (by assumption) ?_ ?_
                rotate_left
                · intro w9 hSw; (try dsimp only at hSw); (try go_split_ands); go_simp; (try with_reducible rfl)
                (try simp only [Act.put]); (try simp only [List.setIfInBounds_toArray]); (try simp only [List.set_cons_succ]); (try simp only [List.set_cons_zero])
                refine held_take (i := 15) (v := ?_) rfl (by kernel_rfl) (fun _ _ _ h => h) (by kernel_rfl) (by assumption) ?_ ?_
                rotate_left
                · intro w9 hSw; (try dsimp only at hSw); (try go_split_ands); go_simp; (try with_reducible rfl)
                (try simp only [Act.put]); (try simp only [List.setIfInBounds_toArray]); (try simp only [List.set_cons_succ]); (try simp only [List.set_cons_zero])
                refine held_take (i := 16) (v := ?_) rfl (by kernel_rfl) (fun _ _ _ h => h) (by kernel_rfl) (by assumption) ?_ ?_
                rotate_left
                · intro w9 hSw; (try dsimp only at hSw); (try go_split_ands); go_simp; (try with_reducible rfl)
                (try simp only [Act.put]); (try simp only [List.setIfInBounds_toArray]); (try simp only [List.set_cons_succ]); (try simp only [List.set_cons_zero])
                refine held_take (i := 17) (v := ?_) rfl (by kernel_rfl) (fun _ _ _ h => h) (by kernel_rfl) (by assumption) ?_ ?_
                rotate_left
                · intro w9 hSw; (try dsimp only at hSw); (try go_split_ands); go_simp; (try with_reducible rfl)
                (try simp only [Act.put]); (try simp only [List.setIfInBounds_toArray]); (try simp only [List.set_cons_succ]); (try simp only [List.set_cons_zero])
                refine wpAnyH_ready (rs := [18]) (by kernel_rfl) (by simp) ?_
                refine AllReadyH.cons rfl (fun K hK => ?_) AllReadyH.nil
                go_simp
                go_at_call 34; (with_reducible refine (cC' _ (by assumption)).mono ?_); rintro e w38 ⟨rfl, hS38⟩
                refine hK.out _ _ hS38 (fun hHeld => ?_)
                clear hK K
                (try simp only [Act.put]); (try simp only [List.setIfInBounds_toArray]); (try simp only [List.set_cons_succ]); (try simp only [List.set_cons_zero])
                refine held_take (i := 19) (v := ?_) rfl (by kernel_rfl) (fun _ _ _ h => h) (by kernel_rfl) (by assumption) ?_ ?_
                rotate_left
                · intro w9 hSw; (try dsimp only at hSw); (try go_split_ands); go_simp; (try with_reducible rfl)
                (try simp only [Act.put]); (try simp only [List.setIfInBounds_toArray]); (try simp only [List.set_cons_succ]); (try simp only [List.set_cons_zero])
                refine held_take (i := 20) (v := ?_) rfl (by kernel_rfl) (fun _ _ _ h => h) (by kernel_rfl) (by assumption) ?_ ?_
                rotate_left
                · intro w9 hSw; (try dsimp only at hSw); (try go_split_ands); go_simp; (try with_reducible rfl)
                (try simp only [Act.put]); (try simp only [List.setIfInBounds_toArray]); (try simp only [List.set_cons_succ]); (try simp only [List.set_cons_zero])
                refine held_take (i := 21) (v := ?_) rfl (by kernel_rfl) (fun _ _ _ h => h) (by kernel_rfl) (by assumption) ?_ ?_
                rotate_left
                · intro w9 hSw; (try dsimp only at hSw); (try go_split_ands); go_simp; (try with_reducible rfl)
                (try simp only [Act.put]); (try simp only [List.setIfInBounds_toArray]); (try simp only [List.set_cons_succ]); (try simp only [List.set_cons_zero])
                refine held_take (i := 22) (v := ?_) rfl (by kernel_rfl) (fun _ _ _ h => h) (by kernel_rfl) (by assumption) ?_ ?_
                rotate_left
                · intro w9 hSw; (try dsimp only at hSw); (try go_split_ands); go_simp; (try with_reducible rfl)
                (try simp only [Act.put]); (try simp only [List.setIfInBounds_toArray]); (try simp only [List.set_cons_succ]); (try simp only [List.set_cons_zero])
                refine held_take (i := 23) (v := ?_) rfl (by kernel_rfl) (fun _ _ _ h => h) (by kernel_rfl) (by assumption) ?_ ?_
                rotate_left
                · intro w9 hSw; (try dsimp only at hSw); (try go_split_ands); go_simp; (try with_reducible rfl)
                (try simp only [Act.put]); (try simp only [List.setIfInBounds_toArray]); (try simp only [List.set_cons_succ]); (try simp only [List.set_cons_zero])
                refine held_take (i := 24) (v := ?_) rfl (by kernel_rfl) (fun _ _ _ h => h) (by kernel_rfl) (by assumption) ?_ ?_
                rotate_left
                · intro w9 hSw; (try dsimp only at hSw); (try go_split_ands); go_simp; (try with_reducible rfl)
                (try simp only [Act.put]); (try simp only [List.setIfInBounds_toArray]); (try simp only [List.set_cons_succ]); (try simp only [List.set_cons_zero])
                refine held_take (i := 25) (v := ?_) rfl (by kernel_rfl) (fun _ _ _ h => h) (by kernel_rfl) (by assumption) ?_ ?_
                rotate_left
                · intro w9 hSw; (try dsimp only at hSw); (try go_split_ands); go_simp; (try with_reducible rfl)
                (try simp only [Act.put]); (try simp only [List.setIfInBounds_toArray]); (try simp only [List.set_cons_succ]); (try simp only [List.set_cons_zero])
                refine held_take (i := 26) (v := ?_) rfl (by kernel_rfl) (fun _ _ _ h => h) (by kernel_rfl) (by assumption) ?_ ?_
                rotate_left
                · intro w9 hSw; (try dsimp only at hSw); (try go_split_ands); go_simp; (try with_reducible rfl)
                (try simp only [Act.put]); (try simp only [List.setIfInBounds_toArray]); (try simp only [List.set_cons_succ]); (try simp only [List.set_cons_zero])
                refine held_take (i := 27) (v := ?_) rfl (by kernel_rfl) (fun _ _ _ h => h) (by kernel_rfl) (by assumption) ?_ ?_
                rotate_left
                · intro w9 hSw; (try dsimp only at hSw); (try go_split_ands); go_simp; (try with_reducible rfl)
                (try simp only [Act.put]); (try simp only [List.setIfInBounds_toArray]); (try simp only [List.set_cons_succ]); (try simp only [List.set_cons_zero])
                refine held_take (i := 28) (v := ?_) rfl (by kernel_rfl) (fun _ _ _ h => h) (by kernel_rfl) (by assumption) ?_ ?_
                rotate_left
                · intro w9 hSw; (try dsimp only at hSw); (try go_split_ands); go_simp; (try with_reducible rfl)
                (try simp only [Act.put]); (try simp only [List.setIfInBounds_toArray]); (try simp only [List.set_cons_succ]); (try simp only [List.set_cons_zero])
                refine held_take (i := 29) (v := ?_) rfl (by kernel_rfl) (fun _ _ _ h => h) (by kernel_rfl) (by assumption) ?_ ?_
                rotate_left
                · intro w9 hSw; (try dsimp only at hSw); (try go_split_ands); go_simp; (try with_reducible rfl)
                (try simp only [Act.put]); (try simp only [List.setIfInBounds_toArray]); (try simp only [List.set_cons_succ]); (try simp only [List.set_cons_zero])
                refine held_take (i := 30) (v := ?_) rfl (by kernel_rfl) (fun _ _ _ h => h) (by kernel_rfl) (by assumption) ?_ ?_
                rotate_left
                · intro w9 hSw; (try dsimp only at hSw); (try go_split_ands); go_simp; (try with_reducible rfl)
                (try simp only [Act.put]); (try simp only [List.setIfInBounds_toArray]); (try simp only [List.set_cons_succ]); (try simp only [List.set_cons_zero])
                refine held_take (i := 33) (v := ?_) rfl (by kernel_rfl) (fun _ _ _ h => h) (by kernel_rfl) (by assumption) ?_ ?_
                rotate_left
                · intro w9 hSw; (try dsimp only at hSw); (try go_split_ands); go_simp; (try with_reducible rfl)
                (try simp only [Act.put]); (try simp only [List.setIfInBounds_toArray]); (try simp only [List.set_cons_succ]); (try simp only [List.set_cons_zero])
                refine held_take (i := 34) (v := ?_) rfl (by kernel_rfl) (fun _ _ _ h => h) (by kernel_rfl) (by assumption) ?_ ?_
                rotate_left
                · intro w9 hSw; (try dsimp only at hSw); (try go_split_ands); go_simp; (try with_reducible rfl)
                (try simp only [Act.put]); (try simp only [List.setIfInBounds_toArray]); (try simp only [List.set_cons_succ]); (try simp only [List.set_cons_zero])
                refine wpAnyH_ready (rs := [31]) (by kernel_rfl) (by simp) ?_
                refine AllReadyH.cons rfl (fun K hK => ?_) AllReadyH.nil
                go_simp
                go_at_call 35; (with_reducible refine (cL' _ (by assumption)).mono ?_); rintro e w51 ⟨rfl, hS51⟩
                refine hK.out _ _ hS51 (fun hHeld => ?_)
                clear hK K
                (try simp only [Act.put]); (try simp only [List.setIfInBounds_toArray]); (try simp only [List.set_cons_succ]); (try simp only [List.set_cons_zero])
                refine held_take (i := 32) (v := ?_) rfl (by kernel_rfl) (fun _ _ _ h => h) (by kernel_rfl) (by assumption) ?_ ?_
                rotate_left
                · intro w9 hSw; (try dsimp only at hSw); (try go_split_ands); go_simp; (try with_reducible rfl)
                (try simp only [Act.put]); (try simp only [List.setIfInBounds_toArray]); (try simp only [List.set_cons_succ]); (try simp only [List.set_cons_zero])
                refine wpAnyH_ready (rs := [35]) (by kernel_rfl) (by simp) ?_
                refine AllReadyH.cons rfl (fun K hK => ?_) AllReadyH.nil
                go_simp
                go_at_call 35; (with_reducible refine (cV' _ (by assumption)).mono ?_); rintro e w55 ⟨rfl, hS55⟩
                refine hK.out _ _ hS55 (fun hHeld => ?_)
                clear hK K
                (try simp only [Act.put]); (try simp only [List.setIfInBounds_toArray]); (try simp only [List.set_cons_succ]); (try simp only [List.set_cons_zero])
                refine held_take (i := 36) (v := ?_) rfl (by kernel_rfl) (fun _ _ _ h => h) (by kernel_rfl) (by assumption) ?_ ?_
                rotate_left
                · intro w9 hSw; (try dsimp only at hSw); (try go_split_ands); go_simp; (try with_reducible rfl)
                (try simp only [Act.put]); (try simp only [List.setIfInBounds_toArray]); (try simp only [List.set_cons_succ]); (try simp only [List.set_cons_zero])
                refine held_take (i := 37) (v := ?_) rfl (by kernel_rfl) (fun _ _ _ h => h) (by kernel_rfl) (by assumption) ?_ ?_
                rotate_left
                · intro w9 hSw; (try dsimp only at hSw); (try go_split_ands); go_simp; (try with_reducible rfl)
                (try simp only [Act.put]); (try simp only [List.setIfInBounds_toArray]); (try simp only [List.set_cons_succ]); (try simp only [List.set_cons_zero])
                refine held_take (i := 38) (v := ?_) rfl (by kernel_rfl) (fun _ _ _ h => h) (by kernel_rfl) (by assumption) ?_ ?_
                rotate_left
                · intro w9 hSw; (try dsimp only at hSw); (try go_split_ands); go_simp; (try with_reducible rfl)
                (try simp only [Act.put]); (try simp only [List.setIfInBounds_toArray]); (try simp only [List.set_cons_succ]); (try simp only [List.set_cons_zero])
                refine wpAnyH_done (by kernel_rfl) ?_ _
                obtain ⟨-, -, -, -, -, -, hB3⟩ := hHeld
                have hB4 := below_next hBr hB3
                have KR4 := KR.next hB3
                clear hS0 SK
                clear q12 q13 q14
                go_wp2
                go_roundw
                case rel => exact ⟨k + 1, by omega, by go_num, HK1, KR4, hB4⟩
                case measure => simp [intOf]; omega
      · obtain rfl : k = n := by omega
        have hR2 : R = true := by
          have h1 := HK.out
          rw [List.take_of_length_le (by rw [HL.out]; exact Nat.le_refl _)] at h1
          rw [HR.out]
          unfold maySlr
          rw [h1, HL.out, HL2.out, decide_eq_true (show 1 ≤ k by omega), decide_eq_true (show k ≤ 8 by omega), decide_eq_true (show m + 1 = k from HN1.out.symm)]
          rfl
        subst hR2
        clear HR
        go_wp2
        go_ret
        exact ⟨rfl, hBr⟩
  · obtain rfl : R = false := by
      rw [HR.out]; unfold maySlr; rw [HL.out, HL2.out, decide_eq_false (show ¬ m + 1 = n by have := HN1.out; omega)]; simp
    have t3i : ((m : Int) == (n1 : Int)) = false := by rw [beq_eq_false_iff_ne]; omega
    have t3j : ¬ (m : Int) = (n1 : Int) := by omega
    go_enter Tryz.func13, Tryz.ntmps13
    go_wp2
    go_ret
    exact ⟨rfl, hB⟩
end Sel
end Go.Proofs.YthacboofbbfmlaaGreatDoor
namespace Go.Proofs.YthacboofbbfmlaaGreatDoor
open Go.ChangeShapes Go.WideShapes Go.ChangeAt Go.RowKit Go.Shelf
namespace Sel
open Tok
open RowG (Row)
theorem cat_run (a b : List UInt8) (h : a.length + b.length ≤ 1000000) (w : World) : (binOp .add 9 (.string (toB a)) (.string (toB b))).run Tryz.prog w = .ok (.string (toB (a ++ b))) w := by
  have ha : ((toB a).size : Int) ≤ 8388608 := by rw [toB_size]; omega
  have hb : ((toB b).size : Int) ≤ 8388608 := by rw [toB_size]; omega
  have := run_string_add (P := Tryz.prog) w (toB a) (toB b) ha hb
  rw [toB_cat] at this
  go_simp
theorem beq_nil0 (l : List UInt8) : (l == []) = l.isEmpty := by cases l <;> rfl
def rawI (p : Sim) (k : Nat) : List UInt8 := p.tag ++ ((p.ids.take k).map (35 :: ·)).flatten
def rawC (p : Sim) (k : Nat) : List UInt8 := rawI p p.ids.length ++ ((p.classes.take k).map (46 :: ·)).flatten
theorem rawI_snoc {p : Sim} {k : Nat} {t : List UInt8} (h : p.ids[k]? = some t) : rawI p (k + 1) = (rawI p k ++ [35]) ++ t := by
  unfold rawI
  rw [List.take_add_one, h]
  simp
theorem rawC_snoc {p : Sim} {k : Nat} {t : List UInt8} (h : p.classes[k]? = some t) : rawC p (k + 1) = (rawC p k ++ [46]) ++ t := by
  unfold rawC
  rw [List.take_add_one, h]
  simp
theorem rawI_zero (p : Sim) : rawI p 0 = p.tag := by unfold rawI; simp
theorem rawC_zero (p : Sim) : rawC p 0 = rawI p p.ids.length := by unfold rawC; simp
theorem raw_all (p : Sim) : raw p = (rawC p p.classes.length ++ (if p.link then linkT else [])) ++ (if p.visited then visT else []) := by
  unfold raw rawC rawI ownL
  rw [List.take_length, List.take_length]
  cases p.link <;> cases p.visited <;> simp
theorem rawC_le (p : Sim) : ∀ k, (rawC p k).length ≤ (rawC p p.classes.length).length := by
  intro k
  unfold rawC
  rw [List.length_append, List.length_append, List.take_length]
  have : (((p.classes.take k).map ((46 : UInt8) :: ·)).flatten).length ≤ ((p.classes.map ((46 : UInt8) :: ·)).flatten).length := by
    conv => rhs; rw [← List.take_append_drop k p.classes]
    rw [List.map_append, List.flatten_append, List.length_append]
    omega
  omega
theorem rawI_le (p : Sim) : ∀ k, (rawI p k).length ≤ (rawI p p.ids.length).length := by
  intro k
  unfold rawI
  rw [List.length_append, List.length_append, List.take_length]
  have : (((p.ids.take k).map ((35 : UInt8) :: ·)).flatten).length ≤ ((p.ids.map ((35 : UInt8) :: ·)).flatten).length := by
    conv => rhs; rw [← List.take_append_drop k p.ids]
    rw [List.map_append, List.flatten_append, List.length_append]
    omega
  omega
theorem rawC_raw (p : Sim) : (rawC p p.classes.length).length ≤ (raw p).length := by
  rw [raw_all, List.length_append, List.length_append]
  omega
theorem rawI_raw (p : Sim) : (rawI p p.ids.length).length ≤ (raw p).length := by
  have := rawC_le p 0
  rw [rawC_zero] at this
  exact Nat.le_trans this (rawC_raw p)
-- WALK
set_option maxRecDepth 100000 in
set_option maxHeartbeats 64000000 in
theorem rprint_any (A K : Option Addr) (n c m d : Nat) (x : Slr) (hn : n ≤ 1000000) (hmm : m ≤ 1000000) (hf : Few x.parts) (hs : ShX x.parts) (w : World) (h1 : SLR w w.heap.size A n x.parts) (h2 : BLR w w.heap.size K m x.close) :
    Calls Tryz.prog 15 #[.agg #[.slice A n c, .slice K m d]] w fun e w' => e = .returned (.string (toB (printP x))) ∧ Below w.heap.size w w' := by
  have hB := below_al (Below.refl w.heap.size w) (.cells #[.slice A n c, .slice K m d] 30)
  have K0 := Blk.new w 30 #[.slice A n c, .slice K m d]
  obtain ⟨z0, z1⟩ := blk2 K0
  have cm := rmay_any A K n c m d x hn hmm hf hs _ (h1.below hB hB.size) (h2.below hB hB.size)
  have hl := h1.len
  have hm := h2.len
  obtain ⟨R, hR⟩ : ∃ R, R = printP x := ⟨_, rfl⟩
  rw [← hR]
  have HR := Lib.hid hR
  clear hR
  cases hmay : maySlr x with
  | false =>
    have hR0 : R = [] := by rw [HR.out]; unfold printP; rw [hmay]; rfl
    subst hR0
    rw [hmay] at cm
    clear HR hl hm hmay
    go_enter Tryz.func15, Tryz.ntmps15
    go_wp2_with (go_at_call 13; (with_reducible refine cm.mono ?_); rintro e w1 ⟨rfl, hb1⟩)
    go_ret
    exact ⟨rfl, below_next hB hb1⟩
  | true =>
    have hRt : R = textL x.parts x.close := by rw [HR.out]; unfold printP; rw [if_pos hmay]
    obtain ⟨y1, y2, y3, y4⟩ := maySlr_of hmay
    rw [hmay] at cm
    have HRT := Lib.hid hRt
    have HTL := Lib.hid (text_len y4 y3)
    have HYA := Lib.hid y4
    obtain ⟨ps, bs⟩ := x
    dsimp only at *
    have HL := Lib.hid hl
    have HM := Lib.hid hm
    rw [hl] at y1 y2 y3
    rw [hm] at y3
    clear hl hm hmay hRt HR y4 hf hs
    have n0 : (0 : Int) ≤ (n : Int) := Int.natCast_nonneg _
    go_enter Tryz.func15, Tryz.ntmps15
    go_wp2_with (go_at_call 13; (with_reducible refine cm.mono ?_); rintro e w1 ⟨rfl, hb1⟩
                 have K1 := K0.next hb1
                 have hB1 := below_next hB hb1)
    clear cm z0 z1 K0 hB hb1
    go_loopw [3, 4] (fun sv iv wr => ∃ (k : Nat) (acc : List UInt8), k ≤ n ∧ iv = .int .i64 k ∧ sv = .string (toB acc) ∧ Hid (acc = textL (ps.take k) bs) ∧ Blk wr w.heap.size 30 #[.slice A n c, .slice K m d] ∧ Below w.heap.size w wr) (fun _ iv _ => n - (intOf iv).toNat)
    case atStart => exact ⟨0, [], Nat.zero_le _, rfl, rfl, by show _ = _; simp [textL], K1, hB1⟩
    case round =>
      obtain ⟨k, acc, hk, rfl, rfl, HA, KR, hBr⟩ := hrel
      clear K1 hB1
      obtain ⟨q0, q1⟩ := blk2 KR
      have k0 : (0 : Int) ≤ (k : Int) := Int.natCast_nonneg _
      by_cases hlt : k < n
      · obtain ⟨p, hp⟩ : ∃ p, ps[k]? = some p := ⟨_, List.getElem?_eq_getElem (by rw [HL.out]; exact hlt)⟩
        obtain ⟨ad, iA, ic, cA, cc, rfl, hb, e0, e1, e2, e3, e4, r1, r2⟩ := (h1.below hBr (Nat.le_refl _)).at_ hp
        have hki : (k : Int) < (n : Int) := by omega
        have hpm : maySim p = true := List.all_eq_true.1 HYA.out p (List.mem_of_getElem? hp)
        have hrl := raw_len hpm
        have hRI := rawI_le p
        have hRC := rawC_le p
        have hIr := rawI_raw p
        have hCr := rawC_raw p
        have hal : acc.length ≤ 310 * k := by rw [HA.out]; exact HTL.out k (by rw [HL.out]; omega)
        have hal2 : acc.length ≤ 4000 := by omega
        have hpl : p.ids.length ≤ 1000 ∧ p.classes.length ≤ 1000 := by
          unfold maySim at hpm
          simp only [Bool.and_eq_true, decide_eq_true_eq] at hpm
          omega
        obtain ⟨hpi, hpc⟩ := hpl
        have KB := Blk.new wr 52 #[.string (toB p.tag), .slice iA p.ids.length ic, .slice cA p.classes.length cc, .bool p.link, .bool p.visited]
        have KA := KR.alloc (.cells #[.string (toB p.tag), .slice iA p.ids.length ic, .slice cA p.classes.length cc, .bool p.link, .bool p.visited] 52)
        have hBA := below_al hBr (.cells #[.string (toB p.tag), .slice iA p.ids.length ic, .slice cA p.classes.length cc, .bool p.link, .bool p.visited] 52)
        have hA1 := (below_al (Below.refl wr.heap.size wr) (.cells #[.string (toB p.tag), .slice iA p.ids.length ic, .slice cA p.classes.length cc, .bool p.link, .bool p.visited] 52)).mono hBr.size
        have r1' := Reads.below r1 hA1
        have r2' := Reads.below r2 hA1
        have HT0 : Hid (toB p.tag = toB (rawI p 0)) := by show _ = _; rw [rawI_zero]
        obtain ⟨b0, bb1, b2, b3, b4⟩ := blk5 KB
        obtain ⟨v0, v1⟩ := blk2 KA
        have HH := Lib.hid (h2.below hBA (Nat.le_refl _))
        go_upto_region 10 with (fail)
        generalize wr.alloc (.cells #[.string (toB p.tag), .slice iA p.ids.length ic, .slice cA p.classes.length cc, .bool p.link, .bool p.visited] 52) = W1 at *
        clear KB KR hBr hA1 r1 r2 e0 e1 e2 e3 e4 q0 q1 hb
        rw [HT0.out]
        go_loopw [6, 7] (fun tv jv w2 => ∃ j : Nat, j ≤ p.ids.length ∧ jv = .int .i64 j ∧ tv = .string (toB (rawI p j)) ∧ W1 = w2) (fun _ jv _ => p.ids.length - (intOf jv).toNat)
        case atStart => exact ⟨0, Nat.zero_le _, rfl, rfl, rfl⟩
        case round =>
          obtain ⟨j, hj, rfl, rfl, rfl⟩ := hrel
          have j0 : (0 : Int) ≤ (j : Int) := Int.natCast_nonneg _
          by_cases hjl : j < p.ids.length
          · obtain ⟨t, ht⟩ : ∃ t, p.ids[j]? = some t := ⟨_, List.getElem?_eq_getElem hjl⟩
            obtain ⟨ai, rfl, hai, g0⟩ := tx_of r1' ht
            have hji : (j : Int) < (p.ids.length : Int) := by omega
            have hsn := rawI_snoc ht
            have hl1 := hRI j
            have hl2 := hRI (j + 1)
            rw [hsn, List.length_append, List.length_append] at hl2
            have HE : Hid (toB (rawI p j) ++ (⟨#[35]⟩ : ByteArray) ++ toB t = toB (rawI p (j + 1))) := by
              show _ = _
              rw [hsn, ← toB_cat, ← toB_cat]; rfl
            have z0 : (toB (rawI p j)).size = (rawI p j).length := toB_size _
            have z2 : (toB t).size = t.length := toB_size _
            have hz1 : ¬ 9223372036854775807 < (toB (rawI p j)).size + 1 := by omega
            have hz2 : ¬ 9223372036854775807 < (toB (rawI p j)).size + 1 + (toB t).size := by simp only [List.length_cons, List.length_nil] at hl2; omega
            clear ht hsn hl1 hl2 z0 z2
            generalize hM : p.ids.length = M at *
            generalize toB (rawI p j) = S0 at *
            generalize toB t = S2 at *
            clear hM
            go_wp2
            go_roundw
            case rel => exact ⟨j + 1, by omega, by go_num, by rw [HE.out], trivial⟩
            case measure => simp [intOf]; omega
          · obtain rfl : j = p.ids.length := by omega
            rw [← rawC_zero p]
            go_upto_region 14 with (fail)
            go_loopw [6, 8] (fun tv jv w2 => ∃ j : Nat, j ≤ p.classes.length ∧ jv = .int .i64 j ∧ tv = .string (toB (rawC p j)) ∧ W1 = w2) (fun _ jv _ => p.classes.length - (intOf jv).toNat)
            case atStart => exact ⟨0, Nat.zero_le _, rfl, rfl, rfl⟩
            case round =>
              obtain ⟨j, hj, rfl, rfl, rfl⟩ := hrel
              have j0 : (0 : Int) ≤ (j : Int) := Int.natCast_nonneg _
              by_cases hjl : j < p.classes.length
              · obtain ⟨t, ht⟩ : ∃ t, p.classes[j]? = some t := ⟨_, List.getElem?_eq_getElem hjl⟩
                obtain ⟨ai, rfl, hai, g0⟩ := tx_of r2' ht
                have hji : (j : Int) < (p.classes.length : Int) := by omega
                have hsn := rawC_snoc ht
                have hl1 := hRC j
                have hl2 := hRC (j + 1)
                rw [hsn, List.length_append, List.length_append] at hl2
                have HE : Hid (toB (rawC p j) ++ (⟨#[46]⟩ : ByteArray) ++ toB t = toB (rawC p (j + 1))) := by
                  show _ = _
                  rw [hsn, ← toB_cat, ← toB_cat]; rfl
                have z0 : (toB (rawC p j)).size = (rawC p j).length := toB_size _
                have z2 : (toB t).size = t.length := toB_size _
                have hz1 : ¬ 9223372036854775807 < (toB (rawC p j)).size + 1 := by omega
                have hz2 : ¬ 9223372036854775807 < (toB (rawC p j)).size + 1 + (toB t).size := by simp only [List.length_cons, List.length_nil] at hl2; omega
                clear ht hsn hl1 hl2 z0 z2
                generalize hM : p.classes.length = M at *
                generalize toB (rawC p j) = S0 at *
                generalize toB t = S2 at *
                clear hM
                go_wp2
                go_roundw
                case rel => exact ⟨j + 1, by omega, by go_num, by rw [HE.out], trivial⟩
                case measure => simp [intOf]; omega
              · obtain rfl : j = p.classes.length := by omega
                have hra := raw_all p
                clear r1' r2' hRI hRC hIr
                have LA : (⟨#[32]⟩ : ByteArray) = toB [32] := rfl
                have LB : (⟨#[62, 32]⟩ : ByteArray) = toB [62, 32] := rfl
                have LC : (⟨#[42]⟩ : ByteArray) = toB [42] := rfl
                have LD : (⟨#[58, 108, 105, 110, 107]⟩ : ByteArray) = toB [58, 108, 105, 110, 107] := rfl
                have LE : (⟨#[58, 118, 105, 115, 105, 116, 101, 100]⟩ : ByteArray) = toB [58, 118, 105, 115, 105, 116, 101, 100] := rfl
                have HL5 := Lib.hid (And.intro LA (And.intro LB (And.intro LC (And.intro LD LE))))
                clear LA LB LC LD LE
                have hS0 : (toB (rawC p p.classes.length)).size ≤ 300 := by rw [toB_size]; omega
                have hSA : (toB acc).size ≤ 4000 := by rw [toB_size]; omega
                cases hlk : p.link with
                | true =>
                  rw [hlk] at b3 hra
                  cases hvk : p.visited with
                  | true =>
                    rw [hvk] at b4 hra
                    have hre : raw p = (rawC p p.classes.length ++ [58, 108, 105, 110, 107] ++ [58, 118, 105, 115, 105, 116, 101, 100]) := by rw [hra]; simp [linkT, visT]
                    have hps : printS p = (rawC p p.classes.length ++ [58, 108, 105, 110, 107] ++ [58, 118, 105, 115, 105, 116, 101, 100]) := by unfold printS; rw [if_neg (by rw [hre]; simp), hre]
                    have hne : ((toB (rawC p p.classes.length) ++ ⟨#[58, 108, 105, 110, 107]⟩ ++ ⟨#[58, 118, 105, 115, 105, 116, 101, 100]⟩).toList == []) = false := by
                      have e : toB (rawC p p.classes.length) ++ ⟨#[58, 108, 105, 110, 107]⟩ ++ ⟨#[58, 118, 105, 115, 105, 116, 101, 100]⟩ = toB (raw p) := by obtain ⟨LA, LB, LC, LD, LE⟩ := HL5.out; rw [hre]; simp only [LD, LE, toB_cat]
                      rw [e, toB_toL, hre]
                      simp
                    have hne2 := (beq_nil0 _).symm.trans hne
                    clear hre hlk hvk
                    by_cases hz : k = 0
                    · have hX : textL (ps.take (k + 1)) bs = acc ++ (rawC p p.classes.length ++ [58, 108, 105, 110, 107] ++ [58, 118, 105, 115, 105, 116, 101, 100]) := by
                        rw [hz] at hp ⊢
                        rw [text_one hp, HA.out, hz, hps]
                        rfl
                      have HE : Hid (toB acc ++ (toB (rawC p p.classes.length) ++ ⟨#[58, 108, 105, 110, 107]⟩ ++ ⟨#[58, 118, 105, 115, 105, 116, 101, 100]⟩) = toB (textL (ps.take (k + 1)) bs)) := by
                        show _ = _
                        obtain ⟨LA, LB, LC, LD, LE⟩ := HL5.out
                        rw [hX]
                        simp only [LD, LE, toB_cat]
                      have hz1 : ¬ 0 < k := by omega
                      have hz2 : ¬ (0 : Int) < (k : Int) := by omega
                      clear hp HA hz hX hps hra hrl hpm
                      generalize toB acc = SA at *
                      generalize toB (rawC p p.classes.length) = S0 at *
                      have o0 : ¬ 9223372036854775807 < S0.size + 13 := by omega
                      have o1 : ¬ 9223372036854775807 < S0.size + 5 := by omega
                      have o2 : ¬ 9223372036854775807 < S0.size + 5 + 8 := by omega
                      have o3 : ¬ 9223372036854775807 < SA.size + (S0.size + 13) := by omega
                      have o4 : ¬ 9223372036854775807 < SA.size + (S0.size + 5 + 8) := by omega
                      have o5 : ¬ 9223372036854775807 < SA.size + S0.size + 13 := by omega
                      have o6 : ¬ 9223372036854775807 < SA.size + S0.size + 5 + 8 := by omega
                      go_wp2
                      go_roundw
                      case rel => exact ⟨k + 1, textL (ps.take (k + 1)) bs, by omega, by go_num, by rw [HE.out], rfl, KA, hBA⟩
                      case measure => simp [intOf]; omega
                    obtain ⟨j, hj⟩ : ∃ j, k = j + 1 := ⟨k - 1, by omega⟩
                    obtain ⟨b, hbk⟩ : ∃ b, bs[j]? = some b := ⟨_, List.getElem?_eq_getElem (by rw [HM.out]; omega)⟩
                    obtain ⟨ad2, rfl, hb2, g0⟩ := bo_of HH.out hbk
                    have w9 : (k : Int) - 1 = (j : Int) := by omega
                    have hz1 : (0 : Int) < (k : Int) := by omega
                    have hz2 : 0 < k := by omega
                    have hjm : (j : Int) < (m : Int) := by omega
                    have hj0 : (0 : Int) ≤ (j : Int) := Int.natCast_nonneg _
                    have hX : textL (ps.take (k + 1)) bs = (acc ++ sep b) ++ (rawC p p.classes.length ++ [58, 108, 105, 110, 107] ++ [58, 118, 105, 115, 105, 116, 101, 100]) := by
                      rw [hj] at hp ⊢
                      rw [text_snoc hp hbk, HA.out, hj, hps]
                    cases b with
                    | true =>
                      have HE : Hid (toB acc ++ ⟨#[32]⟩ ++ ⟨#[62, 32]⟩ ++ (toB (rawC p p.classes.length) ++ ⟨#[58, 108, 105, 110, 107]⟩ ++ ⟨#[58, 118, 105, 115, 105, 116, 101, 100]⟩) = toB (textL (ps.take (k + 1)) bs)) := by
                        show _ = _
                        obtain ⟨LA, LB, LC, LD, LE⟩ := HL5.out
                        rw [hX]
                        simp only [LA, LB, LD, LE, toB_cat]
                        simp [sep]
                      clear hp HA hz hX hps hra hrl hpm hbk hj
                      generalize toB acc = SA at *
                      generalize toB (rawC p p.classes.length) = S0 at *
                      have o0 : ¬ 9223372036854775807 < S0.size + 13 := by omega
                      have o1 : ¬ 9223372036854775807 < S0.size + 5 := by omega
                      have o2 : ¬ 9223372036854775807 < S0.size + 5 + 8 := by omega
                      have o3 : ¬ 9223372036854775807 < SA.size + 1 := by omega
                      have o4 : ¬ 9223372036854775807 < SA.size + 1 + 2 := by omega
                      have o5 : ¬ 9223372036854775807 < SA.size + 1 + 2 + (S0.size + 13) := by omega
                      have o6 : ¬ 9223372036854775807 < SA.size + 1 + 2 + (S0.size + 5 + 8) := by omega
                      have o7 : ¬ 9223372036854775807 < SA.size + 1 + 2 + S0.size + 13 := by omega
                      have o8 : ¬ 9223372036854775807 < SA.size + 1 + 2 + S0.size + 5 + 8 := by omega
                      have o9 : ¬ 9223372036854775807 < SA.size + 3 := by omega
                      have o10 : ¬ 9223372036854775807 < SA.size + 3 + (S0.size + 13) := by omega
                      have o11 : ¬ 9223372036854775807 < SA.size + 3 + (S0.size + 5 + 8) := by omega
                      have o12 : ¬ 9223372036854775807 < SA.size + 3 + S0.size + 13 := by omega
                      have o13 : ¬ 9223372036854775807 < SA.size + 3 + S0.size + 5 + 8 := by omega
                      go_wp2
                      go_roundw
                      case rel => exact ⟨k + 1, textL (ps.take (k + 1)) bs, by omega, by go_num, by rw [HE.out], rfl, KA, hBA⟩
                      case measure => simp [intOf]; omega
                    | false =>
                      have HE : Hid (toB acc ++ ⟨#[32]⟩ ++ (toB (rawC p p.classes.length) ++ ⟨#[58, 108, 105, 110, 107]⟩ ++ ⟨#[58, 118, 105, 115, 105, 116, 101, 100]⟩) = toB (textL (ps.take (k + 1)) bs)) := by
                        show _ = _
                        obtain ⟨LA, LB, LC, LD, LE⟩ := HL5.out
                        rw [hX]
                        simp only [LA, LD, LE, toB_cat]
                        simp [sep]
                      clear hp HA hz hX hps hra hrl hpm hbk hj
                      generalize toB acc = SA at *
                      generalize toB (rawC p p.classes.length) = S0 at *
                      have o0 : ¬ 9223372036854775807 < S0.size + 13 := by omega
                      have o1 : ¬ 9223372036854775807 < S0.size + 5 := by omega
                      have o2 : ¬ 9223372036854775807 < S0.size + 5 + 8 := by omega
                      have o3 : ¬ 9223372036854775807 < SA.size + 1 := by omega
                      have o4 : ¬ 9223372036854775807 < SA.size + 1 + (S0.size + 13) := by omega
                      have o5 : ¬ 9223372036854775807 < SA.size + 1 + (S0.size + 5 + 8) := by omega
                      have o6 : ¬ 9223372036854775807 < SA.size + 1 + S0.size + 13 := by omega
                      have o7 : ¬ 9223372036854775807 < SA.size + 1 + S0.size + 5 + 8 := by omega
                      go_wp2
                      go_roundw
                      case rel => exact ⟨k + 1, textL (ps.take (k + 1)) bs, by omega, by go_num, by rw [HE.out], rfl, KA, hBA⟩
                      case measure => simp [intOf]; omega
                  | false =>
                    rw [hvk] at b4 hra
                    have hre : raw p = (rawC p p.classes.length ++ [58, 108, 105, 110, 107]) := by rw [hra]; simp [linkT]
                    have hps : printS p = (rawC p p.classes.length ++ [58, 108, 105, 110, 107]) := by unfold printS; rw [if_neg (by rw [hre]; simp), hre]
                    have hne : ((toB (rawC p p.classes.length) ++ ⟨#[58, 108, 105, 110, 107]⟩).toList == []) = false := by
                      have e : toB (rawC p p.classes.length) ++ ⟨#[58, 108, 105, 110, 107]⟩ = toB (raw p) := by obtain ⟨LA, LB, LC, LD, LE⟩ := HL5.out; rw [hre]; simp only [LD, toB_cat]
                      rw [e, toB_toL, hre]
                      simp
                    have hne2 := (beq_nil0 _).symm.trans hne
                    clear hre hlk hvk
                    by_cases hz : k = 0
                    · have hX : textL (ps.take (k + 1)) bs = acc ++ (rawC p p.classes.length ++ [58, 108, 105, 110, 107]) := by
                        rw [hz] at hp ⊢
                        rw [text_one hp, HA.out, hz, hps]
                        rfl
                      have HE : Hid (toB acc ++ (toB (rawC p p.classes.length) ++ ⟨#[58, 108, 105, 110, 107]⟩) = toB (textL (ps.take (k + 1)) bs)) := by
                        show _ = _
                        obtain ⟨LA, LB, LC, LD, LE⟩ := HL5.out
                        rw [hX]
                        simp only [LD, toB_cat]
                      have hz1 : ¬ 0 < k := by omega
                      have hz2 : ¬ (0 : Int) < (k : Int) := by omega
                      clear hp HA hz hX hps hra hrl hpm
                      generalize toB acc = SA at *
                      generalize toB (rawC p p.classes.length) = S0 at *
                      have o0 : ¬ 9223372036854775807 < S0.size + 5 := by omega
                      have o1 : ¬ 9223372036854775807 < SA.size + (S0.size + 5) := by omega
                      have o2 : ¬ 9223372036854775807 < SA.size + S0.size + 5 := by omega
                      go_wp2
                      go_roundw
                      case rel => exact ⟨k + 1, textL (ps.take (k + 1)) bs, by omega, by go_num, by rw [HE.out], rfl, KA, hBA⟩
                      case measure => simp [intOf]; omega
                    obtain ⟨j, hj⟩ : ∃ j, k = j + 1 := ⟨k - 1, by omega⟩
                    obtain ⟨b, hbk⟩ : ∃ b, bs[j]? = some b := ⟨_, List.getElem?_eq_getElem (by rw [HM.out]; omega)⟩
                    obtain ⟨ad2, rfl, hb2, g0⟩ := bo_of HH.out hbk
                    have w9 : (k : Int) - 1 = (j : Int) := by omega
                    have hz1 : (0 : Int) < (k : Int) := by omega
                    have hz2 : 0 < k := by omega
                    have hjm : (j : Int) < (m : Int) := by omega
                    have hj0 : (0 : Int) ≤ (j : Int) := Int.natCast_nonneg _
                    have hX : textL (ps.take (k + 1)) bs = (acc ++ sep b) ++ (rawC p p.classes.length ++ [58, 108, 105, 110, 107]) := by
                      rw [hj] at hp ⊢
                      rw [text_snoc hp hbk, HA.out, hj, hps]
                    cases b with
                    | true =>
                      have HE : Hid (toB acc ++ ⟨#[32]⟩ ++ ⟨#[62, 32]⟩ ++ (toB (rawC p p.classes.length) ++ ⟨#[58, 108, 105, 110, 107]⟩) = toB (textL (ps.take (k + 1)) bs)) := by
                        show _ = _
                        obtain ⟨LA, LB, LC, LD, LE⟩ := HL5.out
                        rw [hX]
                        simp only [LA, LB, LD, toB_cat]
                        simp [sep]
                      clear hp HA hz hX hps hra hrl hpm hbk hj
                      generalize toB acc = SA at *
                      generalize toB (rawC p p.classes.length) = S0 at *
                      have o0 : ¬ 9223372036854775807 < S0.size + 5 := by omega
                      have o1 : ¬ 9223372036854775807 < SA.size + 1 := by omega
                      have o2 : ¬ 9223372036854775807 < SA.size + 1 + 2 := by omega
                      have o3 : ¬ 9223372036854775807 < SA.size + 1 + 2 + (S0.size + 5) := by omega
                      have o4 : ¬ 9223372036854775807 < SA.size + 1 + 2 + S0.size + 5 := by omega
                      have o5 : ¬ 9223372036854775807 < SA.size + 3 := by omega
                      have o6 : ¬ 9223372036854775807 < SA.size + 3 + (S0.size + 5) := by omega
                      have o7 : ¬ 9223372036854775807 < SA.size + 3 + S0.size + 5 := by omega
                      go_wp2
                      go_roundw
                      case rel => exact ⟨k + 1, textL (ps.take (k + 1)) bs, by omega, by go_num, by rw [HE.out], rfl, KA, hBA⟩
                      case measure => simp [intOf]; omega
                    | false =>
                      have HE : Hid (toB acc ++ ⟨#[32]⟩ ++ (toB (rawC p p.classes.length) ++ ⟨#[58, 108, 105, 110, 107]⟩) = toB (textL (ps.take (k + 1)) bs)) := by
                        show _ = _
                        obtain ⟨LA, LB, LC, LD, LE⟩ := HL5.out
                        rw [hX]
                        simp only [LA, LD, toB_cat]
                        simp [sep]
                      clear hp HA hz hX hps hra hrl hpm hbk hj
                      generalize toB acc = SA at *
                      generalize toB (rawC p p.classes.length) = S0 at *
                      have o0 : ¬ 9223372036854775807 < S0.size + 5 := by omega
                      have o1 : ¬ 9223372036854775807 < SA.size + 1 := by omega
                      have o2 : ¬ 9223372036854775807 < SA.size + 1 + (S0.size + 5) := by omega
                      have o3 : ¬ 9223372036854775807 < SA.size + 1 + S0.size + 5 := by omega
                      go_wp2
                      go_roundw
                      case rel => exact ⟨k + 1, textL (ps.take (k + 1)) bs, by omega, by go_num, by rw [HE.out], rfl, KA, hBA⟩
                      case measure => simp [intOf]; omega
                | false =>
                  rw [hlk] at b3 hra
                  cases hvk : p.visited with
                  | true =>
                    rw [hvk] at b4 hra
                    have hre : raw p = (rawC p p.classes.length ++ [58, 118, 105, 115, 105, 116, 101, 100]) := by rw [hra]; simp [visT]
                    have hps : printS p = (rawC p p.classes.length ++ [58, 118, 105, 115, 105, 116, 101, 100]) := by unfold printS; rw [if_neg (by rw [hre]; simp), hre]
                    have hne : ((toB (rawC p p.classes.length) ++ ⟨#[58, 118, 105, 115, 105, 116, 101, 100]⟩).toList == []) = false := by
                      have e : toB (rawC p p.classes.length) ++ ⟨#[58, 118, 105, 115, 105, 116, 101, 100]⟩ = toB (raw p) := by obtain ⟨LA, LB, LC, LD, LE⟩ := HL5.out; rw [hre]; simp only [LE, toB_cat]
                      rw [e, toB_toL, hre]
                      simp
                    have hne2 := (beq_nil0 _).symm.trans hne
                    clear hre hlk hvk
                    by_cases hz : k = 0
                    · have hX : textL (ps.take (k + 1)) bs = acc ++ (rawC p p.classes.length ++ [58, 118, 105, 115, 105, 116, 101, 100]) := by
                        rw [hz] at hp ⊢
                        rw [text_one hp, HA.out, hz, hps]
                        rfl
                      have HE : Hid (toB acc ++ (toB (rawC p p.classes.length) ++ ⟨#[58, 118, 105, 115, 105, 116, 101, 100]⟩) = toB (textL (ps.take (k + 1)) bs)) := by
                        show _ = _
                        obtain ⟨LA, LB, LC, LD, LE⟩ := HL5.out
                        rw [hX]
                        simp only [LE, toB_cat]
                      have hz1 : ¬ 0 < k := by omega
                      have hz2 : ¬ (0 : Int) < (k : Int) := by omega
                      clear hp HA hz hX hps hra hrl hpm
                      generalize toB acc = SA at *
                      generalize toB (rawC p p.classes.length) = S0 at *
                      have o0 : ¬ 9223372036854775807 < S0.size + 8 := by omega
                      have o1 : ¬ 9223372036854775807 < SA.size + (S0.size + 8) := by omega
                      have o2 : ¬ 9223372036854775807 < SA.size + S0.size + 8 := by omega
                      go_wp2
                      go_roundw
                      case rel => exact ⟨k + 1, textL (ps.take (k + 1)) bs, by omega, by go_num, by rw [HE.out], rfl, KA, hBA⟩
                      case measure => simp [intOf]; omega
                    obtain ⟨j, hj⟩ : ∃ j, k = j + 1 := ⟨k - 1, by omega⟩
                    obtain ⟨b, hbk⟩ : ∃ b, bs[j]? = some b := ⟨_, List.getElem?_eq_getElem (by rw [HM.out]; omega)⟩
                    obtain ⟨ad2, rfl, hb2, g0⟩ := bo_of HH.out hbk
                    have w9 : (k : Int) - 1 = (j : Int) := by omega
                    have hz1 : (0 : Int) < (k : Int) := by omega
                    have hz2 : 0 < k := by omega
                    have hjm : (j : Int) < (m : Int) := by omega
                    have hj0 : (0 : Int) ≤ (j : Int) := Int.natCast_nonneg _
                    have hX : textL (ps.take (k + 1)) bs = (acc ++ sep b) ++ (rawC p p.classes.length ++ [58, 118, 105, 115, 105, 116, 101, 100]) := by
                      rw [hj] at hp ⊢
                      rw [text_snoc hp hbk, HA.out, hj, hps]
                    cases b with
                    | true =>
                      have HE : Hid (toB acc ++ ⟨#[32]⟩ ++ ⟨#[62, 32]⟩ ++ (toB (rawC p p.classes.length) ++ ⟨#[58, 118, 105, 115, 105, 116, 101, 100]⟩) = toB (textL (ps.take (k + 1)) bs)) := by
                        show _ = _
                        obtain ⟨LA, LB, LC, LD, LE⟩ := HL5.out
                        rw [hX]
                        simp only [LA, LB, LE, toB_cat]
                        simp [sep]
                      clear hp HA hz hX hps hra hrl hpm hbk hj
                      generalize toB acc = SA at *
                      generalize toB (rawC p p.classes.length) = S0 at *
                      have o0 : ¬ 9223372036854775807 < S0.size + 8 := by omega
                      have o1 : ¬ 9223372036854775807 < SA.size + 1 := by omega
                      have o2 : ¬ 9223372036854775807 < SA.size + 1 + 2 := by omega
                      have o3 : ¬ 9223372036854775807 < SA.size + 1 + 2 + (S0.size + 8) := by omega
                      have o4 : ¬ 9223372036854775807 < SA.size + 1 + 2 + S0.size + 8 := by omega
                      have o5 : ¬ 9223372036854775807 < SA.size + 3 := by omega
                      have o6 : ¬ 9223372036854775807 < SA.size + 3 + (S0.size + 8) := by omega
                      have o7 : ¬ 9223372036854775807 < SA.size + 3 + S0.size + 8 := by omega
                      go_wp2
                      go_roundw
                      case rel => exact ⟨k + 1, textL (ps.take (k + 1)) bs, by omega, by go_num, by rw [HE.out], rfl, KA, hBA⟩
                      case measure => simp [intOf]; omega
                    | false =>
                      have HE : Hid (toB acc ++ ⟨#[32]⟩ ++ (toB (rawC p p.classes.length) ++ ⟨#[58, 118, 105, 115, 105, 116, 101, 100]⟩) = toB (textL (ps.take (k + 1)) bs)) := by
                        show _ = _
                        obtain ⟨LA, LB, LC, LD, LE⟩ := HL5.out
                        rw [hX]
                        simp only [LA, LE, toB_cat]
                        simp [sep]
                      clear hp HA hz hX hps hra hrl hpm hbk hj
                      generalize toB acc = SA at *
                      generalize toB (rawC p p.classes.length) = S0 at *
                      have o0 : ¬ 9223372036854775807 < S0.size + 8 := by omega
                      have o1 : ¬ 9223372036854775807 < SA.size + 1 := by omega
                      have o2 : ¬ 9223372036854775807 < SA.size + 1 + (S0.size + 8) := by omega
                      have o3 : ¬ 9223372036854775807 < SA.size + 1 + S0.size + 8 := by omega
                      go_wp2
                      go_roundw
                      case rel => exact ⟨k + 1, textL (ps.take (k + 1)) bs, by omega, by go_num, by rw [HE.out], rfl, KA, hBA⟩
                      case measure => simp [intOf]; omega
                  | false =>
                    rw [hvk] at b4 hra
                    have hre : raw p = (rawC p p.classes.length) := by rw [hra]; simp
                    by_cases hrw : raw p = []
                    · have hps : printS p = [42] := by unfold printS; rw [if_pos hrw]
                      have hne : ((toB (rawC p p.classes.length)).toList == []) = true := by rw [← hre, hrw, toB_toL]; rfl
                      have hne2 := (beq_nil0 _).symm.trans hne
                      clear hre hlk hvk hrw
                      by_cases hz : k = 0
                      · have hX : textL (ps.take (k + 1)) bs = acc ++ [42] := by
                          rw [hz] at hp ⊢
                          rw [text_one hp, HA.out, hz, hps]
                          rfl
                        have HE : Hid (toB acc ++ ⟨#[42]⟩ = toB (textL (ps.take (k + 1)) bs)) := by
                          show _ = _
                          obtain ⟨LA, LB, LC, LD, LE⟩ := HL5.out
                          rw [hX]
                          simp only [LC, toB_cat]
                        have hz1 : ¬ 0 < k := by omega
                        have hz2 : ¬ (0 : Int) < (k : Int) := by omega
                        clear hp HA hz hX hps hra hrl hpm
                        generalize toB acc = SA at *
                        generalize toB (rawC p p.classes.length) = S0 at *
                        have o0 : ¬ 9223372036854775807 < SA.size + 1 := by omega
                        go_wp2
                        go_roundw
                        case rel => exact ⟨k + 1, textL (ps.take (k + 1)) bs, by omega, by go_num, by rw [HE.out], rfl, KA, hBA⟩
                        case measure => simp [intOf]; omega
                      obtain ⟨j, hj⟩ : ∃ j, k = j + 1 := ⟨k - 1, by omega⟩
                      obtain ⟨b, hbk⟩ : ∃ b, bs[j]? = some b := ⟨_, List.getElem?_eq_getElem (by rw [HM.out]; omega)⟩
                      obtain ⟨ad2, rfl, hb2, g0⟩ := bo_of HH.out hbk
                      have w9 : (k : Int) - 1 = (j : Int) := by omega
                      have hz1 : (0 : Int) < (k : Int) := by omega
                      have hz2 : 0 < k := by omega
                      have hjm : (j : Int) < (m : Int) := by omega
                      have hj0 : (0 : Int) ≤ (j : Int) := Int.natCast_nonneg _
                      have hX : textL (ps.take (k + 1)) bs = (acc ++ sep b) ++ [42] := by
                        rw [hj] at hp ⊢
                        rw [text_snoc hp hbk, HA.out, hj, hps]
                      cases b with
                      | true =>
                        have HE : Hid (toB acc ++ ⟨#[32]⟩ ++ ⟨#[62, 32]⟩ ++ ⟨#[42]⟩ = toB (textL (ps.take (k + 1)) bs)) := by
                          show _ = _
                          obtain ⟨LA, LB, LC, LD, LE⟩ := HL5.out
                          rw [hX]
                          simp only [LA, LB, LC, toB_cat]
                          simp [sep]
                        clear hp HA hz hX hps hra hrl hpm hbk hj
                        generalize toB acc = SA at *
                        generalize toB (rawC p p.classes.length) = S0 at *
                        have o0 : ¬ 9223372036854775807 < SA.size + 1 := by omega
                        have o1 : ¬ 9223372036854775807 < SA.size + 1 + 2 := by omega
                        have o2 : ¬ 9223372036854775807 < SA.size + 1 + 2 + 1 := by omega
                        have o3 : ¬ 9223372036854775807 < SA.size + 3 := by omega
                        have o4 : ¬ 9223372036854775807 < SA.size + 3 + 1 := by omega
                        go_wp2
                        go_roundw
                        case rel => exact ⟨k + 1, textL (ps.take (k + 1)) bs, by omega, by go_num, by rw [HE.out], rfl, KA, hBA⟩
                        case measure => simp [intOf]; omega
                      | false =>
                        have HE : Hid (toB acc ++ ⟨#[32]⟩ ++ ⟨#[42]⟩ = toB (textL (ps.take (k + 1)) bs)) := by
                          show _ = _
                          obtain ⟨LA, LB, LC, LD, LE⟩ := HL5.out
                          rw [hX]
                          simp only [LA, LC, toB_cat]
                          simp [sep]
                        clear hp HA hz hX hps hra hrl hpm hbk hj
                        generalize toB acc = SA at *
                        generalize toB (rawC p p.classes.length) = S0 at *
                        have o0 : ¬ 9223372036854775807 < SA.size + 1 := by omega
                        have o1 : ¬ 9223372036854775807 < SA.size + 1 + 1 := by omega
                        go_wp2
                        go_roundw
                        case rel => exact ⟨k + 1, textL (ps.take (k + 1)) bs, by omega, by go_num, by rw [HE.out], rfl, KA, hBA⟩
                        case measure => simp [intOf]; omega
                    have hps : printS p = rawC p p.classes.length := by unfold printS; rw [if_neg hrw, hre]
                    have hne : ((toB (rawC p p.classes.length)).toList == []) = false := by
                      rw [toB_toL, ← hre]
                      simpa using hrw
                    have hne2 := (beq_nil0 _).symm.trans hne
                    clear hre hlk hvk hrw
                    by_cases hz : k = 0
                    · have hX : textL (ps.take (k + 1)) bs = acc ++ rawC p p.classes.length := by
                        rw [hz] at hp ⊢
                        rw [text_one hp, HA.out, hz, hps]
                        rfl
                      have HE : Hid (toB acc ++ toB (rawC p p.classes.length) = toB (textL (ps.take (k + 1)) bs)) := by
                        show _ = _
                        obtain ⟨LA, LB, LC, LD, LE⟩ := HL5.out
                        rw [hX]
                        simp only [toB_cat]
                      have hz1 : ¬ 0 < k := by omega
                      have hz2 : ¬ (0 : Int) < (k : Int) := by omega
                      clear hp HA hz hX hps hra hrl hpm
                      generalize toB acc = SA at *
                      generalize toB (rawC p p.classes.length) = S0 at *
                      have o0 : ¬ 9223372036854775807 < SA.size + S0.size := by omega
                      go_wp2
                      go_roundw
                      case rel => exact ⟨k + 1, textL (ps.take (k + 1)) bs, by omega, by go_num, by rw [HE.out], rfl, KA, hBA⟩
                      case measure => simp [intOf]; omega
                    obtain ⟨j, hj⟩ : ∃ j, k = j + 1 := ⟨k - 1, by omega⟩
                    obtain ⟨b, hbk⟩ : ∃ b, bs[j]? = some b := ⟨_, List.getElem?_eq_getElem (by rw [HM.out]; omega)⟩
                    obtain ⟨ad2, rfl, hb2, g0⟩ := bo_of HH.out hbk
                    have w9 : (k : Int) - 1 = (j : Int) := by omega
                    have hz1 : (0 : Int) < (k : Int) := by omega
                    have hz2 : 0 < k := by omega
                    have hjm : (j : Int) < (m : Int) := by omega
                    have hj0 : (0 : Int) ≤ (j : Int) := Int.natCast_nonneg _
                    have hX : textL (ps.take (k + 1)) bs = (acc ++ sep b) ++ rawC p p.classes.length := by
                      rw [hj] at hp ⊢
                      rw [text_snoc hp hbk, HA.out, hj, hps]
                    cases b with
                    | true =>
                      have HE : Hid (toB acc ++ ⟨#[32]⟩ ++ ⟨#[62, 32]⟩ ++ toB (rawC p p.classes.length) = toB (textL (ps.take (k + 1)) bs)) := by
                        show _ = _
                        obtain ⟨LA, LB, LC, LD, LE⟩ := HL5.out
                        rw [hX]
                        simp only [LA, LB, toB_cat]
                        simp [sep]
                      clear hp HA hz hX hps hra hrl hpm hbk hj
                      generalize toB acc = SA at *
                      generalize toB (rawC p p.classes.length) = S0 at *
                      have o0 : ¬ 9223372036854775807 < SA.size + 1 := by omega
                      have o1 : ¬ 9223372036854775807 < SA.size + 1 + 2 := by omega
                      have o2 : ¬ 9223372036854775807 < SA.size + 1 + 2 + S0.size := by omega
                      have o3 : ¬ 9223372036854775807 < SA.size + 3 := by omega
                      have o4 : ¬ 9223372036854775807 < SA.size + 3 + S0.size := by omega
                      go_wp2
                      go_roundw
                      case rel => exact ⟨k + 1, textL (ps.take (k + 1)) bs, by omega, by go_num, by rw [HE.out], rfl, KA, hBA⟩
                      case measure => simp [intOf]; omega
                    | false =>
                      have HE : Hid (toB acc ++ ⟨#[32]⟩ ++ toB (rawC p p.classes.length) = toB (textL (ps.take (k + 1)) bs)) := by
                        show _ = _
                        obtain ⟨LA, LB, LC, LD, LE⟩ := HL5.out
                        rw [hX]
                        simp only [LA, toB_cat]
                        simp [sep]
                      clear hp HA hz hX hps hra hrl hpm hbk hj
                      generalize toB acc = SA at *
                      generalize toB (rawC p p.classes.length) = S0 at *
                      have o0 : ¬ 9223372036854775807 < SA.size + 1 := by omega
                      have o1 : ¬ 9223372036854775807 < SA.size + 1 + S0.size := by omega
                      go_wp2
                      go_roundw
                      case rel => exact ⟨k + 1, textL (ps.take (k + 1)) bs, by omega, by go_num, by rw [HE.out], rfl, KA, hBA⟩
                      case measure => simp [intOf]; omega
      · obtain rfl : k = n := by omega
        have hfin : R = acc := by rw [HRT.out, HA.out, List.take_of_length_le (by rw [HL.out]; exact Nat.le_refl _)]
        subst hfin
        clear HRT HA
        go_wp2
        go_ret
        exact ⟨rfl, hBr⟩
end Sel
end Go.Proofs.YthacboofbbfmlaaGreatDoor
