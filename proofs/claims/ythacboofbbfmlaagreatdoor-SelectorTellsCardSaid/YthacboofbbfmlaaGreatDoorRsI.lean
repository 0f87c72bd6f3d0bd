/- The reference's List. Conditions: the text is not too long. -/
import Derived.Test.YthacboofbbfmlaaGreatDoorSelG
import Derived.Test.YthacboofbbfmlaaGreatDoorRx7Same
import Derived.Test.YthacboofbbfmlaaGreatDoorRsE
import Derived.Test.YthacboofbbfmlaaGreatDoorSelM
/- The reference's Same. Conditions: as the theorem's premises say. -/
namespace Go.Proofs.YthacboofbbfmlaaGreatDoor
open Go.ChangeShapes Go.WideShapes Go.ChangeAt Go.RowKit Go.Shelf
namespace Sel
open Tok
open RowG (Row)
theorem strs_txC (l : List (List UInt8)) : strs l = l.flatMap txC := by
  induction l with
  | nil => rfl
  | cons a l ih =>
    rw [List.flatMap_cons, ← ih]
    rfl
theorem lit_two (l m : List UInt8) : ((toB l).toList == (toB m).toList) = decide (l = m) := by
  rw [toB_toL m]
  exact lit_eq l m
theorem take_same {α : Type} {l m : List α} {k : Nat} {x : α} (h : l.take k = m.take k) (h1 : l[k]? = some x) (h2 : m[k]? = some x) : l.take (k + 1) = m.take (k + 1) := by
  rw [List.take_add_one, List.take_add_one, h, h1, h2]
theorem sim_ne {p q : Sim} (h : p.tag ≠ q.tag ∨ p.link ≠ q.link ∨ p.visited ≠ q.visited ∨ p.ids ≠ q.ids ∨ p.classes ≠ q.classes) : p ≠ q := by
  rintro rfl
  rcases h with h | h | h | h | h <;> exact h rfl
theorem sim_eq {p q : Sim} (h1 : p.tag = q.tag) (h2 : p.link = q.link) (h3 : p.visited = q.visited) (h4 : p.ids = q.ids) (h5 : p.classes = q.classes) : p = q := by
  cases p; cases q
  dsimp only at h1 h2 h3 h4 h5
  subst h1 h2 h3 h4 h5
  rfl
theorem parts_ne {x y : Slr} {k : Nat} {p q : Sim} (hp : x.parts[k]? = some p) (hq : y.parts[k]? = some q) (h : p ≠ q) : decide (x = y) = false := by
  refine decide_eq_false ?_
  rintro rfl
  rw [hp] at hq
  exact h (Option.some.inj hq)
set_option maxRecDepth 100000 in
set_option maxHeartbeats 64000000 in
theorem rsel_same (A K A2 K2 : Option Addr) (n c m d n2 c2 m2 d2 : Nat) (x y : Slr) (hn : n ≤ 1000000) (hm : m ≤ 1000000) (hf : Few x.parts) (hf2 : Few y.parts) (w : World) (h1 : SLR w w.heap.size A n x.parts) (h2 : SLR w w.heap.size A2 n2 y.parts) (h3 : BLR w w.heap.size K m x.close) (h4 : BLR w w.heap.size K2 m2 y.close) :
    Calls Tryz.prog 11 #[.agg #[.slice A n c, .slice K m d], .agg #[.slice A2 n2 c2, .slice K2 m2 d2]] w fun e w' => e = .returned (.bool (decide (x = y))) ∧ Below w.heap.size w w' := by
  have hB := below_al (below_al (Below.refl w.heap.size w) (.cells #[.slice A n c, .slice K m d] 30)) (.cells #[.slice A2 n2 c2, .slice K2 m2 d2] 30)
  have KX := (Blk.new w 30 #[.slice A n c, .slice K m d]).alloc (.cells #[.slice A2 n2 c2, .slice K2 m2 d2] 30)
  have KY := Blk.new (w.alloc (.cells #[.slice A n c, .slice K m d] 30)) 30 #[.slice A2 n2 c2, .slice K2 m2 d2]
  rw [size_al] at KY
  have HX := Lib.hid h1.len
  have HY := Lib.hid h2.len
  have HXc := Lib.hid h3.len
  have HYc := Lib.hid h4.len
  have HF := Lib.hid hf
  have HF2 := Lib.hid hf2
  obtain ⟨R, hR⟩ : ∃ R, R = decide (x = y) := ⟨_, rfl⟩
  rw [← hR]
  have HR := Lib.hid hR
  have n0 : (0 : Int) ≤ (n : Int) := Int.natCast_nonneg _
  have m0 : (0 : Int) ≤ (m : Int) := Int.natCast_nonneg _
  clear hR hf hf2
  obtain ⟨x0, x1⟩ := blk2 KX
  obtain ⟨y0, y1⟩ := blk2 KY
  by_cases t1 : n = n2
  case neg =>
    obtain rfl : R = false := by
      rw [HR.out]
      refine decide_eq_false ?_
      rintro rfl
      exact t1 (HX.out.symm.trans HY.out)
    have t1i : ((n : Int) == (n2 : Int)) = false := by rw [beq_eq_false_iff_ne]; omega
    have t1j : ((n : Int) != (n2 : Int)) = true := by rw [bne_iff_ne]; omega
    have t1k : ¬ (n : Int) = (n2 : Int) := by omega
    go_enter Tryz.func11, Tryz.ntmps11
    go_wp2
    go_ret
    exact ⟨rfl, hB⟩
  case pos =>
    subst t1
    by_cases t2 : m = m2
    case neg =>
      obtain rfl : R = false := by
        rw [HR.out]
        refine decide_eq_false ?_
        rintro rfl
        exact t2 (HXc.out.symm.trans HYc.out)
      have t1i : ((m : Int) == (m2 : Int)) = false := by rw [beq_eq_false_iff_ne]; omega
      have t1j : ((m : Int) != (m2 : Int)) = true := by rw [bne_iff_ne]; omega
      have t1k : ¬ (m : Int) = (m2 : Int) := by omega
      go_enter Tryz.func11, Tryz.ntmps11
      go_wp2
      go_ret
      exact ⟨rfl, hB⟩
    case pos =>
      subst t2
      go_enter Tryz.func11, Tryz.ntmps11
      go_wp2
      clear x0 x1 y0 y1
      generalize ((w.alloc (.cells #[.slice A n c, .slice K m d] 30)).alloc (.cells #[.slice A2 n c2, .slice K2 m d2] 30)) = W at *
      go_loopw [5] (fun iv wr => ∃ k : Nat, k ≤ m ∧ iv = .int .i64 k ∧ Hid (x.close.take k = y.close.take k) ∧ Blk wr w.heap.size 30 #[.slice A n c, .slice K m d] ∧ Blk wr (w.heap.size + 1) 30 #[.slice A2 n c2, .slice K2 m d2] ∧ Below w.heap.size w wr) (fun iv _ => m - (intOf iv).toNat)
      case atStart => exact ⟨0, Nat.zero_le _, rfl, rfl, KX, KY, hB⟩
      case round =>
        obtain ⟨k, hk, rfl, HK, KXr, KYr, hBr⟩ := hrel
        clear KX KY hB
        obtain ⟨x0, x1⟩ := blk2 KXr
        obtain ⟨y0, y1⟩ := blk2 KYr
        have k0 : (0 : Int) ≤ (k : Int) := Int.natCast_nonneg _
        by_cases hlt : k < m
        · obtain ⟨bx, hbx⟩ : ∃ b, x.close[k]? = some b := ⟨_, List.getElem?_eq_getElem (by rw [HXc.out]; exact hlt)⟩
          obtain ⟨by_, hby⟩ : ∃ b, y.close[k]? = some b := ⟨_, List.getElem?_eq_getElem (by rw [HYc.out]; exact hlt)⟩
          obtain ⟨ax, rfl, hax, ex⟩ := bo_of (Reads.below h3 hBr) hbx
          obtain ⟨ay, rfl, hay, ey⟩ := bo_of (Reads.below h4 hBr) hby
          have hki : (k : Int) < (m : Int) := by omega
          cases bx with
          | true =>
            cases by_ with
            | true =>
              have HK1 := Lib.hid (take_same HK.out hbx hby)
              clear hbx hby
              go_wp2
              go_quiet (fail)
              have hBq := below_drewN hBr nq
              have KXq := KXr.drewN nq
              have KYq := KYr.drewN nq
              go_wp2
              go_roundw
              case rel => exact ⟨k + 1, by omega, by go_num, HK1, KXq, KYq, hBq⟩
              case measure => simp [intOf]; omega
            | false =>
              obtain rfl : R = false := by
                rw [HR.out]
                refine decide_eq_false ?_
                rintro rfl
                rw [hbx] at hby
                cases hby
              clear hbx hby HR
              go_wp2
              go_quiet (fail)
              have hBq := below_drewN hBr nq
              go_wp2
              go_ret
              exact ⟨rfl, hBq⟩
          | false =>
            cases by_ with
            | true =>
              obtain rfl : R = false := by
                rw [HR.out]
                refine decide_eq_false ?_
                rintro rfl
                rw [hbx] at hby
                cases hby
              clear hbx hby HR
              go_wp2
              go_quiet (fail)
              have hBq := below_drewN hBr nq
              go_wp2
              go_ret
              exact ⟨rfl, hBq⟩
            | false =>
              have HK1 := Lib.hid (take_same HK.out hbx hby)
              clear hbx hby
              go_wp2
              go_quiet (fail)
              have hBq := below_drewN hBr nq
              have KXq := KXr.drewN nq
              have KYq := KYr.drewN nq
              go_wp2
              go_roundw
              case rel => exact ⟨k + 1, by omega, by go_num, HK1, KXq, KYq, hBq⟩
              case measure => simp [intOf]; omega
        · obtain rfl : k = m := by omega
          have HCL : Hid (x.close = y.close) := by
            have h := HK.out
            rwa [List.take_of_length_le (by rw [HXc.out]; exact Nat.le_refl _), List.take_of_length_le (by rw [HYc.out]; exact Nat.le_refl _)] at h
          clear HK
          go_wp2
          generalize wr = W2 at *
          go_loopw [6] (fun iv wr => ∃ j : Nat, j ≤ n ∧ iv = .int .i64 j ∧ Hid (x.parts.take j = y.parts.take j) ∧ Blk wr w.heap.size 30 #[.slice A n c, .slice K k d] ∧ Blk wr (w.heap.size + 1) 30 #[.slice A2 n c2, .slice K2 k d2] ∧ Below w.heap.size w wr) (fun iv _ => n - (intOf iv).toNat)
          case atStart => exact ⟨0, Nat.zero_le _, rfl, rfl, KXr, KYr, hBr⟩
          case round =>
            obtain ⟨j, hj, rfl, HK, KXr, KYr, hBr⟩ := hrel
            obtain ⟨x0, x1⟩ := blk2 KXr
            obtain ⟨y0, y1⟩ := blk2 KYr
            have j0 : (0 : Int) ≤ (j : Int) := Int.natCast_nonneg _
            by_cases hlt : j < n
            · obtain ⟨p, hp⟩ : ∃ p, x.parts[j]? = some p := ⟨_, List.getElem?_eq_getElem (by rw [HX.out]; exact hlt)⟩
              obtain ⟨q, hq⟩ : ∃ q, y.parts[j]? = some q := ⟨_, List.getElem?_eq_getElem (by rw [HY.out]; exact hlt)⟩
              obtain ⟨ax, iA, ic, cA, cc, rfl, hax, a0, a1, a2, a3, a4, r1, r2⟩ := (h1.below hBr (Nat.le_refl _)).at_ hp
              have hBp := below_al hBr (.cells #[.string (toB p.tag), .slice iA p.ids.length ic, .slice cA p.classes.length cc, .bool p.link, .bool p.visited] 52)
              obtain ⟨ay, iB, ib, cB, cb, rfl, hay, b0, b1', b2, b3, b4, s1, s2⟩ := (h2.below hBp (Nat.le_refl _)).at_ hq
              obtain ⟨f1, f2⟩ := HF.out p (List.mem_of_getElem? hp)
              obtain ⟨f3, f4⟩ := HF2.out q (List.mem_of_getElem? hq)
              have hji : (j : Int) < (n : Int) := by omega
              have hNE : p ≠ q → R = false := fun e => HR.out.trans (parts_ne hp hq e)
              have hEQ : p = q → x.parts.take (j + 1) = y.parts.take (j + 1) := fun e => take_same HK.out hp (by rw [e]; exact hq)
              have HNE := Lib.hid hNE
              have HEQ := Lib.hid hEQ
              have u0 := lit_two p.tag q.tag
              have hA1 := below_al (Below.refl wr.heap.size wr) (.cells #[.string (toB p.tag), .slice iA p.ids.length ic, .slice cA p.classes.length cc, .bool p.link, .bool p.visited] 52)
              have hA2 := below_al hA1 (.cells #[.string (toB q.tag), .slice iB q.ids.length ib, .slice cB q.classes.length cb, .bool q.link, .bool q.visited] 52)
              have KP := (Blk.new wr 52 #[.string (toB p.tag), .slice iA p.ids.length ic, .slice cA p.classes.length cc, .bool p.link, .bool p.visited]).alloc (.cells #[.string (toB q.tag), .slice iB q.ids.length ib, .slice cB q.classes.length cb, .bool q.link, .bool q.visited] 52)
              have KQ := Blk.new (wr.alloc (.cells #[.string (toB p.tag), .slice iA p.ids.length ic, .slice cA p.classes.length cc, .bool p.link, .bool p.visited] 52)) 52 #[.string (toB q.tag), .slice iB q.ids.length ib, .slice cB q.classes.length cb, .bool q.link, .bool q.visited]
              rw [size_al] at KQ
              have y0' := (hA1.cell (p := ⟨w.heap.size + 1, 0, none⟩) KYr.lt).trans y0
              have hwp : Below w.heap.size wr (wr.alloc (.cells #[.string (toB p.tag), .slice iA p.ids.length ic, .slice cA p.classes.length cc, .bool p.link, .bool p.visited] 52)) := hA1.mono hBr.size
              have hsm := fun (W' : World) (hb : Below w.heap.size (wr.alloc (.cells #[.string (toB p.tag), .slice iA p.ids.length ic, .slice cA p.classes.length cc, .bool p.link, .bool p.visited] 52)) W') => rsame_any iA iB p.ids.length ic q.ids.length ib w.heap.size w.heap.size p.ids q.ids W' (by rw [strs_txC]; exact Reads.below r1 (hwp.trans hb)) (by rw [strs_txC]; exact Reads.below s1 hb) (by omega) (by omega)
              have hsm2 := fun (W' : World) (hb : Below w.heap.size (wr.alloc (.cells #[.string (toB p.tag), .slice iA p.ids.length ic, .slice cA p.classes.length cc, .bool p.link, .bool p.visited] 52)) W') => rsame_any cA cB p.classes.length cc q.classes.length cb w.heap.size w.heap.size p.classes q.classes W' (by rw [strs_txC]; exact Reads.below r2 (hwp.trans hb)) (by rw [strs_txC]; exact Reads.below s2 hb) (by omega) (by omega)
              have hQ2 : Below w.heap.size (wr.alloc (.cells #[.string (toB p.tag), .slice iA p.ids.length ic, .slice cA p.classes.length cc, .bool p.link, .bool p.visited] 52)) ((wr.alloc (.cells #[.string (toB p.tag), .slice iA p.ids.length ic, .slice cA p.classes.length cc, .bool p.link, .bool p.visited] 52)).alloc (.cells #[.string (toB q.tag), .slice iB q.ids.length ib, .slice cB q.classes.length cb, .bool q.link, .bool q.visited] 52)) := (Below.refl _ _).alloc (Nat.le_trans hBr.size hA1.size) _
              clear hp hq hNE hEQ r1 r2 s1 s2
              obtain ⟨p0, p1, p2, p3, p4⟩ := blk5 KP
              obtain ⟨q0, q1, q2, q3, q4⟩ := blk5 KQ
              by_cases e1 : p.tag = q.tag
              case neg =>
                rw [decide_eq_false e1] at u0
                obtain rfl : R = false := HNE.out (sim_ne (.inl e1))
                clear HNE HEQ HR
                go_wp2_with (go_at_call 29; (first | ((with_reducible refine (hsm _ hQ2).mono ?_); rintro e w5 ⟨rfl, q5, rfl⟩) | ((with_reducible refine (hsm2 _ (below_drewN hQ2 _)).mono ?_); rintro e w6 ⟨rfl, q6, rfl⟩)))
                go_ret
                exact ⟨rfl, below_next hBr (hA2)⟩
              case pos =>
                rw [decide_eq_true e1] at u0
                have E1 := Lib.hid e1
                clear e1
                by_cases e2 : p.link = q.link
                case neg =>
                  have v2 : (p.link != q.link) = true := bne_iff_ne.2 e2
                  have w2 : (p.link == q.link) = false := beq_eq_false_iff_ne.2 e2
                  obtain rfl : R = false := HNE.out (sim_ne (.inr (.inl e2)))
                  clear HNE HEQ HR
                  go_wp2_with (go_at_call 29; (first | ((with_reducible refine (hsm _ hQ2).mono ?_); rintro e w5 ⟨rfl, q5, rfl⟩) | ((with_reducible refine (hsm2 _ (below_drewN hQ2 _)).mono ?_); rintro e w6 ⟨rfl, q6, rfl⟩)))
                  go_ret
                  exact ⟨rfl, below_next hBr (hA2)⟩
                case pos =>
                  have v2 : (p.link != q.link) = false := by rw [e2]; cases q.link <;> rfl
                  have w2 : (p.link == q.link) = true := by rw [e2]; cases q.link <;> rfl
                  have E2 := Lib.hid e2
                  clear e2
                  by_cases e3 : p.visited = q.visited
                  case neg =>
                    have v3 : (p.visited != q.visited) = true := bne_iff_ne.2 e3
                    have w3 : (p.visited == q.visited) = false := beq_eq_false_iff_ne.2 e3
                    obtain rfl : R = false := HNE.out (sim_ne (.inr (.inr (.inl e3))))
                    clear HNE HEQ HR
                    go_wp2_with (go_at_call 29; (first | ((with_reducible refine (hsm _ hQ2).mono ?_); rintro e w5 ⟨rfl, q5, rfl⟩) | ((with_reducible refine (hsm2 _ (below_drewN hQ2 _)).mono ?_); rintro e w6 ⟨rfl, q6, rfl⟩)))
                    go_ret
                    exact ⟨rfl, below_next hBr (hA2)⟩
                  case pos =>
                    have v3 : (p.visited != q.visited) = false := by rw [e3]; cases q.visited <;> rfl
                    have w3 : (p.visited == q.visited) = true := by rw [e3]; cases q.visited <;> rfl
                    have E3 := Lib.hid e3
                    clear e3
                    unfold sameS at hsm hsm2
                    by_cases e4 : p.ids = q.ids
                    case neg =>
                      rw [decide_eq_false e4] at hsm
                      obtain rfl : R = false := HNE.out (sim_ne (.inr (.inr (.inr (.inl e4)))))
                      clear HNE HEQ HR
                      go_wp2_with (go_at_call 29; (first | ((with_reducible refine (hsm _ hQ2).mono ?_); rintro e w5 ⟨rfl, q5, rfl⟩) | ((with_reducible refine (hsm2 _ (below_drewN hQ2 _)).mono ?_); rintro e w6 ⟨rfl, q6, rfl⟩)))
                      go_ret
                      exact ⟨rfl, below_next hBr (below_drewN hA2 _)⟩
                    case pos =>
                      rw [decide_eq_true e4] at hsm
                      have E4 := Lib.hid e4
                      clear e4
                      by_cases e5 : p.classes = q.classes
                      case neg =>
                        rw [decide_eq_false e5] at hsm2
                        obtain rfl : R = false := HNE.out (sim_ne (.inr (.inr (.inr (.inr e5)))))
                        clear HNE HEQ HR
                        go_wp2_with (go_at_call 29; (first | ((with_reducible refine (hsm _ hQ2).mono ?_); rintro e w5 ⟨rfl, q5, rfl⟩) | ((with_reducible refine (hsm2 _ (below_drewN hQ2 _)).mono ?_); rintro e w6 ⟨rfl, q6, rfl⟩)))
                        go_ret
                        exact ⟨rfl, below_next hBr (below_drewN hA2 _)⟩
                      case pos =>
                        rw [decide_eq_true e5] at hsm2
                        have HK1 := Lib.hid (HEQ.out (sim_eq E1.out E2.out E3.out E4.out e5))
                        clear e5 HNE HEQ HK
                        go_wp2_with (go_at_call 29; (first | ((with_reducible refine (hsm _ hQ2).mono ?_); rintro e w5 ⟨rfl, q5, rfl⟩) | ((with_reducible refine (hsm2 _ (below_drewN hQ2 _)).mono ?_); rintro e w6 ⟨rfl, q6, rfl⟩)))
                        have hB7 := fun q => below_drewN hA2 q
                        have KX7 := fun q => KXr.next (hB7 q)
                        have KY7 := fun q => KYr.next (hB7 q)
                        have hBr7 := fun q => below_next hBr (hB7 q)
                        go_roundw
                        case rel => exact ⟨j + 1, by omega, by go_num, HK1, KX7 _, KY7 _, hBr7 _⟩
                        case measure => simp [intOf]; omega
            · obtain rfl : j = n := by omega
              have hRt : R = true := by
                rw [HR.out]
                refine decide_eq_true ?_
                have h := HK.out
                rw [List.take_of_length_le (by rw [HX.out]; exact Nat.le_refl _), List.take_of_length_le (by rw [HY.out]; exact Nat.le_refl _)] at h
                have h' := HCL.out
                cases x; cases y
                dsimp only at h h'
                subst h h'
                rfl
              subst hRt
              clear HR
              go_wp2
              go_ret
              exact ⟨rfl, hBr⟩
end Sel
end Go.Proofs.YthacboofbbfmlaaGreatDoor
namespace Go.Proofs.YthacboofbbfmlaaGreatDoor
open Go.ChangeShapes Go.WideShapes Go.ChangeAt Go.RowKit Go.Shelf
namespace Sel
open Tok
open RowG (Row)
theorem row_new0 {α : Type} {w : World} {base g k : Nat} {e : TypeId} {enc : α → List Value} (h : Blk w g e #[]) (hb : base ≤ g) : Row w base e k enc (.slice (some ⟨g, 0, none⟩) 0 0) ([] : List α) :=
  ⟨by simp, Or.inr ⟨g, 0, #[], rfl, hb, h, Nat.le_refl _, Nat.zero_le _, by simp, by simp⟩⟩
theorem info_rslr : (Tryz.prog.info? 30).map (fun i => (i.zero, i.size, i.bytes)) = some (some (.agg #[.slice none 0 0, .slice none 0 0]), 2, 48) := by kernel_rfl
def SYm (w : World) (base : Nat) (c : XC) (x : Slr) : Prop := PrL w base (.slice c.A c.n c.c) x.parts ∧ Row w base 4 1 boC (.slice c.K c.m c.d) x.close
/-- Selectors that the call itself has laid. -/
def YsL (w : World) (base : Nat) (v : Value) (xs : List Slr) : Prop := ∃ cs : List XC, Row w base 30 2 xcC v cs ∧ cs.length = xs.length ∧ ∀ (i : Nat) (c : XC) (x : Slr), cs[i]? = some c → xs[i]? = some x → SYm w base c x
theorem SYm.kt {w w' : World} {base : Nat} {c : XC} {x : Slr} (h : SYm w base c x) (k1 : KT w w' 52) (k2 : KT w w' 9) (k3 : KT w w' 4) : SYm w' base c x := ⟨h.1.kt k1 k2, row_kt h.2 k3⟩
theorem YsL.kt {w w' : World} {base : Nat} {v : Value} {xs : List Slr} (h : YsL w base v xs) (k0 : KT w w' 30) (k1 : KT w w' 52) (k2 : KT w w' 9) (k3 : KT w w' 4) : YsL w' base v xs := by
  obtain ⟨cs, h1, h2, h3⟩ := h
  exact ⟨cs, row_kt h1 k0, h2, fun i c x a b => (h3 i c x a b).kt k1 k2 k3⟩
theorem YsL.next {w w' : World} {base : Nat} {v : Value} {xs : List Slr} (h : YsL w base v xs) (hb : Below w.heap.size w w') : YsL w' base v xs := h.kt (.below hb _) (.below hb _) (.below hb _) (.below hb _)
theorem PrL.less {w : World} {base b : Nat} {v : Value} {ps : List Sim} (h : PrL w base v ps) (hb : b ≤ base) : PrL w b v ps := by
  obtain ⟨cs, h1, h2, h3⟩ := h
  exact ⟨cs, row_less h1 hb, h2, fun i c x a d => by
    obtain ⟨q1, q2, q3, q4, q5⟩ := h3 i c x a d
    exact ⟨q1, row_less q2 hb, row_less q3 hb, q4, q5⟩⟩
theorem YsL.less {w : World} {base b : Nat} {v : Value} {xs : List Slr} (h : YsL w base v xs) (hb : b ≤ base) : YsL w b v xs := by
  obtain ⟨cs, h1, h2, h3⟩ := h
  exact ⟨cs, row_less h1 hb, h2, fun i c x a d => ⟨(h3 i c x a d).1.less hb, row_less (h3 i c x a d).2 hb⟩⟩
theorem YsL.nil (w : World) (base : Nat) : YsL w base (.slice none 0 0) [] := ⟨[], Row.nil _ _ _ _ _, rfl, fun i c p h => by simp at h⟩
theorem YsL.form {w : World} {base : Nat} {v : Value} {xs : List Slr} (h : YsL w base v xs) : ∃ A c, v = .slice A xs.length c := by
  obtain ⟨cs, h1, h2, -⟩ := h
  rw [← h2]
  exact h1.form
theorem YsL.more {w w' : World} {base : Nat} {v' : Value} {xs : List Slr} {cs : List XC} {c : XC} {x : Slr} (h3 : ∀ (i : Nat) (c : XC) (x : Slr), cs[i]? = some c → xs[i]? = some x → SYm w base c x) (h2 : cs.length = xs.length) (hrow : Row w' base 30 2 xcC v' (cs ++ [c])) (k1 : KT w w' 52) (k2 : KT w w' 9) (k3 : KT w w' 4) (hc : SYm w base c x) : YsL w' base v' (xs ++ [x]) := by
  refine ⟨cs ++ [c], hrow, by rw [List.length_append, List.length_append, h2]; rfl, fun i d q hd hq => ?_⟩
  by_cases hi : i < cs.length
  · rw [List.getElem?_append_left hi] at hd
    rw [List.getElem?_append_left (by omega)] at hq
    exact (h3 i d q hd hq).kt k1 k2 k3
  · rw [List.getElem?_append_right (by omega)] at hd hq
    by_cases e : i = cs.length
    · subst e
      rw [Nat.sub_self] at hd
      rw [h2, Nat.sub_self] at hq
      have hd : c = d := by simpa using hd
      have hq : x = q := by simpa using hq
      subst hd
      subst hq
      exact hc.kt k1 k2 k3
    · rw [List.getElem?_eq_none (by simp; omega)] at hd
      cases hd
/-- What List answers. -/
def RlistR (w : World) (base : Nat) (x : Option (List Slr)) (e : Ending) : Prop := match x with
  | none => e = .returned (.tuple #[.slice none 0 0, .bool false])
  | some xs => ∃ v, e = .returned (.tuple #[v, .bool true]) ∧ YsL w base v xs
set_option maxRecDepth 100000 in
set_option maxHeartbeats 16000000 in
theorem rlist_any (l : List UInt8) (hl : l.length ≤ 100000) (w : World) :
    Calls Tryz.prog 10 #[.string (toB l)] w fun e w' => RlistR w' w.heap.size (listP.go (splitF 44 l)) e ∧ Below w.heap.size w w' := by
  have cs := rsplit_any 44 (toB l) w (by rw [toB_size]; unfold mostB; omega)
  change Calls Tryz.prog 28 #[.string (toB l), .int .u8 44] w (fun e w' => ∃ A n c, e = .returned (.slice A n c) ∧ Reads w' w'.heap.size 1 A n (strs (splitF 44 l)) ∧ Below w.heap.size w w') at cs
  rw [strs_flat] at cs
  obtain ⟨hs1, hs2⟩ := split_small 44 l
  obtain ⟨R, hR⟩ : ∃ R, R = listP.go (splitF 44 l) := ⟨_, rfl⟩
  rw [← hR]
  have HR := Lib.hid hR
  have HTL : Hid (∀ x ∈ splitF 44 l, x.length ≤ 100000) := fun x hx => Nat.le_trans (hs2 x hx) hl
  have hM : (splitF 44 l).length ≤ 100001 := by omega
  clear hR hs1 hs2
  generalize splitF 44 l = ts at *
  go_enter Tryz.func10, Tryz.ntmps10
  go_wp2_with (go_at_call 28; (with_reducible refine cs.mono ?_); rintro e w1 ⟨A1, M, c1, rfl, hrt, hb1⟩)
  have hMl : ts.length = M := by have := hrt.1; rw [flat_len txC_len] at this; omega
  have hM5 : M ≤ 100001 := by omega
  have HM := Lib.hid hMl
  clear hMl hM cs
  have hA0 := below_al (Below.refl w1.heap.size w1) (.cells #[] 30)
  have hN0 : YsL (w1.alloc (.cells #[] 30)) w1.heap.size (.slice (some ⟨w1.heap.size, 0, none⟩) 0 0) [] := ⟨[], row_new0 (Blk.new w1 _ _) (Nat.le_refl _), rfl, fun i c p h => by simp at h⟩
  go_loopw [5, 6] (fun vp iv wr => ∃ (k : Nat) (xs : List Slr), k ≤ M ∧ iv = .int .i64 k ∧ Hid (listP.go (ts.take k) = some xs) ∧ xs.length = k ∧ YsL wr w1.heap.size vp xs ∧ Below w1.heap.size w1 wr) (fun _ iv _ => M - (intOf iv).toNat)
  case atStart => exact ⟨0, [], Nat.zero_le _, rfl, rfl, rfl, hN0, hA0⟩
  case round =>
    obtain ⟨k, xs, hk, rfl, HA, hpl, hP, hB1⟩ := hrel
    clear hA0 hN0
    have k0 : (0 : Int) ≤ (k : Int) := Int.natCast_nonneg _
    have hBr := below_next hb1 hB1
    obtain ⟨Ap, cp, hvp⟩ := hP.form
    rw [hpl] at hvp
    subst hvp
    by_cases hlt : k < M
    · obtain ⟨t, htk⟩ : ∃ t, ts[k]? = some t := ⟨_, List.getElem?_eq_getElem (by rw [HM.out]; exact hlt)⟩
      have htl : t.length ≤ 100000 := HTL.out t (List.mem_of_getElem? htk)
      have cr := rread_any t htl wr
      have hki : (k : Int) < (M : Int) := by omega
      have HT1 : Hid (listP.go (ts.take (k + 1)) = match readP t with | none => none | some p => some (xs ++ [p])) := by
        show _ = _
        rw [List.take_add_one, htk]
        exact go_snoc HA.out
      obtain ⟨ad, hAd, -, e0⟩ := tx_of (hrt.below hB1) htk
      subst hAd
      cases hs : readP t with
      | none =>
        rw [hs] at cr HT1
        obtain rfl : R = none := by rw [HR.out, go_none HT1.out]
        clear HR HT1 HA htk hs
        go_wp2_with (go_at_call 8; (with_reducible refine cr.mono ?_); rintro e w4 ⟨hsr, hb4⟩; obtain rfl := hsr)
        exact bodyPost_ret (v := .tuple #[.slice none 0 0, .bool false]) (by simp [results, Tryz.results10, go_sem]) rfl ⟨rfl, below_al (below_next hBr hb4) _⟩
      | some x =>
        rw [hs] at cr HT1
        obtain ⟨cs0, hrow, hcl0, hall⟩ := hP
        clear HA htk hs
        have hpl2 : (xs ++ [x]).length = k + 1 := by rw [List.length_append, List.length_singleton, hpl]
        go_wp2_with (first
          | (go_at_call 8; (with_reducible refine cr.mono ?_); rintro e w4 ⟨⟨vi, vc, rfl, hri, hrc⟩, hb4⟩
             obtain ⟨Ai, ci, rfl⟩ := hri.form
             obtain ⟨Ac, cc, rfl⟩ := hrc.form
             generalize hni : x.parts.length = ni at *
             generalize hnc : x.close.length = nc at *
             have hA4 : Below w4.heap.size w4 ((w4.alloc (.cells #[.slice Ai ni ci, .slice Ac nc cc] 30)).alloc (.cells #[.slice Ai ni ci, .slice Ac nc cc] 30)) := below_al (below_al (Below.refl _ _) _) _
             have hA : Below wr.heap.size wr ((w4.alloc (.cells #[.slice Ai ni ci, .slice Ac nc cc] 30)).alloc (.cells #[.slice Ai ni ci, .slice Ac nc cc] 30)) := below_al (below_al hb4 _) _
             have hSX : SYm ((w4.alloc (.cells #[.slice Ai ni ci, .slice Ac nc cc] 30)).alloc (.cells #[.slice Ai ni ci, .slice Ac nc cc] 30)) w1.heap.size ⟨Ai, ni, ci, Ac, nc, cc⟩ x := ⟨(PrL.less hri hB1.size).next hA4, (row_less hrc hB1.size).below hA4⟩
             have hY := hrow.below hA
             have hB6 := below_next hB1 hA
             have hncl : ∀ (j : Nat) (u : Value), (xcC ⟨Ai, ni, ci, Ac, nc, cc⟩)[j]? = some u → ((w4.alloc (.cells #[.slice Ai ni ci, .slice Ac nc cc] 30)).alloc (.cells #[.slice Ai ni ci, .slice Ac nc cc] 30)).cell? ⟨(w4.alloc (.cells #[.slice Ai ni ci, .slice Ac nc cc] 30)).heap.size, j, none⟩ = some u := RowG.new_cells (w4.alloc (.cells #[.slice Ai ni ci, .slice Ac nc cc] 30)) 30 (xcC ⟨Ai, ni, ci, Ac, nc, cc⟩)
             rw [size_al] at hncl)
          | (refine RowG.wpList_more _ (by rfl) _ _ 39 (by rfl) 30 xcC 2 48 _ info_rslr Tryz.underlying39 rfl (by decide) xcC_len xcC_one w1.heap.size _ cs0 ⟨Ai, ni, ci, Ac, nc, cc⟩ (by rfl) (w4.heap.size + 1) _ (by rfl) hY hncl (by simp only [maxLen]; omega) (by omega) hB6.size ?_
             intro v7 w7 hrow7 hg7 ho7
             have hk7 : ∀ (e : TypeId), 30 ≠ e → KT ((w4.alloc (.cells #[.slice Ai ni ci, .slice Ac nc cc] 30)).alloc (.cells #[.slice Ai ni ci, .slice Ac nc cc] 30)) w7 e := fun e he => KT.grown (e := e) hY hg7 he
             have hP8 := YsL.more (fun i c q a b => (hall i c q a b).kt (.below hA _) (.below hA _) (.below hA _)) hcl0 hrow7 (hk7 _ (by decide)) (hk7 _ (by decide)) (hk7 _ (by decide)) hSX
             have hB8 : Below w1.heap.size w1 w7 := hB6.grown hg7 hB6.size (fun j hj => (World.ownsRow.lt hY j hj).1)))
        go_roundw
        case rel => exact ⟨k + 1, xs ++ [x], by omega, by go_num, HT1, hpl2, hP8, hB8⟩
        case measure => simp [intOf]; omega
    · obtain rfl : k = M := by omega
      have hfin : R = some xs := by
        have h1 := HA.out
        rw [List.take_of_length_le (by rw [HM.out]; exact Nat.le_refl _)] at h1
        rw [HR.out, h1]
      clear HR HA
      go_wp2
      exact bodyPost_ret (v := .tuple #[.slice Ap k cp, .bool true]) (by simp [results, Tryz.results10, go_sem]) rfl ⟨by rw [hfin]; exact ⟨_, rfl, hP.less hb1.size⟩, hBr⟩
end Sel
end Go.Proofs.YthacboofbbfmlaaGreatDoor
