/- (*builder).text. Conditions: as the theorem's premises say. -/
import Derived.Test.YteopighhhcikcaaGreatDoorTreeH
import Derived.StillTailTactics
import Derived.Deep.RegionHeld3
import Derived.Deep.RegionLaw
import Derived.BigRegion
import Derived.Lib.AppendStr
/- (*builder).add. Conditions: as the theorem's premises say. -/
namespace Go.Proofs.YteopighhhcikcaaGreatDoor
open Go.ChangeShapes Go.WideShapes Go.ChangeAt Go.RowKit
namespace Tre
open Tok
open RowG (Row)
theorem info_node : (Tryz.prog.info? 54).map (fun i => (i.zero, i.size, i.bytes)) = some (some (.agg #[.int .i64 0, .string ⟨#[]⟩, .string ⟨#[]⟩, .slice none 0 0, .slice none 0 0]), 5, 88) := by kernel_rfl
theorem row_frozen {α : Type} {w : World} {base k n c b : Nat} {e : TypeId} {enc : α → List Value} {l : List α} (h : Row w base e k enc (.slice (some ⟨b, 0, none⟩) n c) l) (i : Nat) : w.frozen? ⟨b, i, none⟩ = false := by
  rcases h.2 with ⟨h1, -⟩ | ⟨g, cap, cur, h1, -, h3, -⟩
  · cases h1
  · injection h1 with h1 _ _
    injection h1 with h1
    injection h1 with h1
    subst h1
    exact Blk.frozen h3 i
theorem row_blk {α : Type} {w : World} {base k n c b : Nat} {e : TypeId} {enc : α → List Value} {l : List α} (h : Row w base e k enc (.slice (some ⟨b, 0, none⟩) n c) l) : ∃ cur, Blk w b e cur := by
  rcases h.2 with ⟨h1, -⟩ | ⟨g, cap, cur, h1, -, h3, -⟩
  · cases h1
  · injection h1 with h1 _ _
    injection h1 with h1
    injection h1 with h1
    subst h1
    exact ⟨cur, h3⟩
/-- What a builder's method leaves alone. -/
def KtA (w w' : World) : Prop := ∀ e, 92 ≠ e → 54 ≠ e → 3 ≠ e → KT w w' e
theorem KtA.below {w w' : World} (h : Below w.heap.size w w') : KtA w w' := fun e _ _ _ => .below h e
/-- What add leaves. -/
def AddR (base g : Nat) (s : St) (r : Except Nat St) (e : Ending) (w' : World) : Prop := (∃ x : Nat, r = .error x ∧ e = .returned (.int .i64 (x : Int)) ∧ BS w' base g s) ∨ (∃ s', r = .ok s' ∧ e = .returned (.int .i64 0) ∧ BS w' base g s')
set_option maxRecDepth 100000 in
set_option maxHeartbeats 16000000 in
theorem add_any (w : World) (base g : Nat) (s : St) (hs : Ok s) (h : BS w base g s) (hbase : base ≤ w.heap.size) (c : NC) (nd : Nd) (hct : c.t = toB nd.tag) (hcx : c.x = ⟨#[]⟩) (ha : Row w base 41 2 atC (atV c) nd.attrs) (hK : c.K = none) (hKn : c.n = 0) (hKd : c.d = 0) (hkn : nd.kids = []) (htx : nd.text = []) :
    Calls Tryz.prog 128 #[.pointer (some ⟨g, 0, none⟩), ncV c] w fun e w' => AddR base g s (add s nd) e w' ∧ Below base w w' ∧ KtA w w' := by
  obtain ⟨nv, tv, cs, h⟩ := h
  obtain ⟨b, cp, rfl, hbb, -⟩ := h.form hs.pos
  obtain ⟨ck, ct, cx, cA, cm, cc, cK, cn, cd⟩ := c
  simp only at hct hcx hK hKn hKd
  subst hK hKn hKd hcx hct
  show Calls _ _ #[.pointer (some ⟨g, 0, none⟩), .agg #[.int .i64 ck, .string (toB nd.tag), .string ⟨#[]⟩, .slice cA cm cc, .slice none 0 0]] _ _
  have K1 := Blk.new w 54 #[.int .i64 ck, .string (toB nd.tag), .string ⟨#[]⟩, .slice cA cm cc, .slice none 0 0]
  have hB1 := below_al (Below.refl w.heap.size w) (.cells #[.int .i64 ck, .string (toB nd.tag), .string ⟨#[]⟩, .slice cA cm cc, .slice none 0 0] 54)
  have h1 := h.next hB1
  obtain ⟨b', cp', hq, -, hpr⟩ := h1.form hs.pos
  injection hq with hq1 _ hq3
  injection hq1 with hq1
  injection hq1 with hq1
  subst hq1 hq3
  have x0 := bl_0 h1.blk
  have x61 := bl_p h1.blk h1.tlen
  have hpl := hs.place
  have hfew := hs.few
  obtain ⟨N, hN⟩ : ∃ N, N = (up s.ns s.place).length := ⟨_, rfl⟩
  obtain ⟨ad, had⟩ : ∃ ad : Addr, ad = ⟨b, 0, none⟩ := ⟨_, rfl⟩
  rw [← had] at x0 hpr
  obtain ⟨L, hL⟩ : ∃ L, L = s.ns.length := ⟨_, rfl⟩
  obtain ⟨P, hP⟩ : ∃ P, P = s.place := ⟨_, rfl⟩
  have cdp := fun w' hp => depth_any (some ad) s.ns.length cp s.ns s.place (by omega) w' hp
  rw [← hN] at cdp
  rw [← hL] at x0 hpr hpl hfew cdp
  rw [← hP] at x61 hpl cdp
  have HAD := Lib.hid had
  have HLL := Lib.hid hL
  have HPP := Lib.hid hP
  have HN := Lib.hid hN
  have HS := Lib.hid hs
  have HH := Lib.hid h
  clear had hL hP hN hs h
  have hgl := h1.blk.lt
  by_cases h13 : N = 13
  · have d13 : ((N : Int) - 1 == 12) = true := by rw [beq_iff_eq]; omega
    have HR : Hid (add s nd = .error 5) := by show _ = _; unfold add; rw [if_pos (by rw [← HN.out]; exact h13)]
    clear h13
    go_enter Tryz.func128, Tryz.ntmps128
    go_upto_region 1 with (fail)
    generalize w.alloc (.cells #[.int .i64 ck, .string (toB nd.tag), .string ⟨#[]⟩, .slice cA cm cc, .slice none 0 0] 54) = W1 at *
    go_still_tail 8, (by kernel_rfl)
    change wpList _ _ _ _ _ W1.drew
    have cd2 := cdp W1.drew hpr
    go_wp2_with (go_at_call 63; (with_reducible refine cd2.mono ?_); rintro e w2 ⟨rfl, hb2⟩)
    go_ret
    have hB2 := below_next hB1.drew hb2
    exact ⟨.inl ⟨5, HR.out, rfl, _, _, _, HH.out.next hB2⟩, hB2.mono hbase, .below hB2⟩
  · have d13 : ((N : Int) - 1 == 12) = false := by rw [beq_eq_false_iff_ne]; omega
    by_cases h60 : L = 60
    · have d60 : ((L : Int) == 60) = true := by rw [beq_iff_eq]; omega
      have HR : Hid (add s nd = .error 3) := by show _ = _; unfold add; rw [if_neg (by rw [← HN.out]; exact h13), if_pos (by rw [← HLL.out]; exact h60)]
      clear h60
      go_enter Tryz.func128, Tryz.ntmps128
      go_upto_region 1 with (fail)
      generalize w.alloc (.cells #[.int .i64 ck, .string (toB nd.tag), .string ⟨#[]⟩, .slice cA cm cc, .slice none 0 0] 54) = W1 at *
      go_still_tail 8, (by kernel_rfl)
      change wpList _ _ _ _ _ W1.drew
      have cd2 := cdp W1.drew hpr
      go_wp2_with (first
        | (go_at_call 63; (with_reducible refine cd2.mono ?_); rintro e w2 ⟨rfl, hb2⟩
           have x02 := (hb2.cell (p := ⟨g, 0, none⟩) hgl).trans x0))
      go_ret
      have hB2 := below_next hB1.drew hb2
      exact ⟨.inl ⟨3, HR.out, rfl, _, _, _, HH.out.next hB2⟩, hB2.mono hbase, .below hB2⟩
    · have d60 : ((L : Int) == 60) = false := by rw [beq_eq_false_iff_ne]; omega
      have HR : Hid (add s nd = .ok ⟨addKid s.ns s.place s.ns.length ++ [{ nd with parent := (s.place : Int) }], s.place⟩) := by show _ = _; unfold add; rw [if_neg (by rw [← HN.out]; exact h13), if_neg (by rw [← HLL.out]; exact h60)]
      have hXz : w.heap.size < (w.alloc (.cells #[.int .i64 ck, .string (toB nd.tag), .string ⟨#[]⟩, .slice cA cm cc, .slice none 0 0] 54)).heap.size := by rw [size_al]; exact Nat.lt_succ_self _
      go_enter Tryz.func128, Tryz.ntmps128
      go_upto_region 1 with (fail)
      generalize w.alloc (.cells #[.int .i64 ck, .string (toB nd.tag), .string ⟨#[]⟩, .slice cA cm cc, .slice none 0 0] 54) = W1 at *
      go_still_tail 8, (by kernel_rfl)
      change wpList _ _ _ _ _ W1.drew
      have cd2 := cdp W1.drew hpr
      have hgX : g ≠ w.heap.size := fun e => by have := HH.out.blk.lt; omega
      go_upto_region 6 with (first
        | (go_at_call 63; (with_reducible refine cd2.mono ?_); rintro e w2 ⟨rfl, hb2⟩
           have x02 := (hb2.cell (p := ⟨g, 0, none⟩) hgl).trans x0
           have x612 := (hb2.cell (p := ⟨g, 61, none⟩) hgl).trans x61
           have K2 := (Blk.drew K1).next hb2
           have z0 := K2.cell 0
           have zf0 := K2.frozen 0))
      have hB3 : Below w.heap.size w (w2.setCell ⟨w.heap.size, 0, none⟩ (.int .i64 (P : Int))) := below_set (below_next hB1.drew hb2) (p := ⟨w.heap.size, 0, none⟩) (Nat.le_refl _) _
      have KX := K2.set_ 0 (.int .i64 (P : Int))
      have KX : Blk (w2.setCell ⟨w.heap.size, 0, none⟩ (.int .i64 (P : Int))) w.heap.size 54 #[.int .i64 (P : Int), .string (toB nd.tag), .string ⟨#[]⟩, .slice cA cm cc, .slice none 0 0] := KX
      have h3 := HH.out.next hB3
      have hs3 : w.heap.size < (w2.setCell ⟨w.heap.size, 0, none⟩ (.int .i64 (P : Int))).heap.size := KX.lt
      obtain ⟨nP, hnP⟩ := get_lt HS.out.place
      obtain ⟨cP, hcP⟩ : ∃ c, cs[s.place]? = some c := ⟨_, List.getElem?_eq_getElem (by rw [h3.clen]; exact HS.out.place)⟩
      have hfo := h3.form HS.out.pos
      obtain ⟨kk1, kk2⟩ := kid_at (h3.kids _ cP nP hcP hnP)
      have hkm := row_max (h3.kids _ cP nP hcP hnP)
      simp only [maxLen] at hkm
      obtain ⟨ad3, hade, -, -, -, -, -, e4⟩ := nod_of (h3.nodes.reads).1 hcP
      obtain rfl : ad = ad3 := by rw [HAD.out]; injection hade
      rw [← HPP.out] at e4
      have x03 : (w2.setCell ⟨w.heap.size, 0, none⟩ (.int .i64 (P : Int))).cell? ⟨g, 0, none⟩ = some (.slice (some ad) L cp) := by rw [HAD.out, HLL.out]; exact bl_0 h3.blk
      have x613 : (w2.setCell ⟨w.heap.size, 0, none⟩ (.int .i64 (P : Int))).cell? ⟨g, 61, none⟩ = some (.int .i64 (P : Int)) := by have := bl_p h3.blk h3.tlen; rwa [← HPP.out] at this
      have hpi : (P : Int) < (L : Int) := by omega
      have hp0 : (0 : Int) ≤ (P : Int) := Int.natCast_nonneg _
      generalize w2.setCell ⟨w.heap.size, 0, none⟩ (.int .i64 (P : Int)) = W3 at *
      go_quiet (fail)
      have x04 : (W3.drewN nq).cell? ⟨g, 0, none⟩ = some (.slice (some ad) L cp) := x03
      have e44 : (W3.drewN nq).cell? ⟨(ad.add (P * 5)).block, (ad.add (P * 5)).off + 4, none⟩ = some (.slice cP.K cP.n cP.d) := e4
      have h4 : BsC (W3.drewN nq) base g (.slice (some ⟨b, 0, none⟩) s.ns.length cp) tv cs s := h3.kt (.drewN _ _ _) (.drewN _ _ _) (.drewN _ _ _) (.drewN _ _ _) (.drewN _ _ _)
      have KX4 : Blk (W3.drewN nq) w.heap.size 54 #[.int .i64 (P : Int), .string (toB nd.tag), .string ⟨#[]⟩, .slice cA cm cc, .slice none 0 0] := KX
      have hB4 : Below w.heap.size w (W3.drewN nq) := below_dr hB3 nq
      have ha4 := ha.below hB4
      generalize W3.drewN nq = W4 at *
      clear x03 e4 h3 KX hB3 ha hpr x0 x61 cd2 cdp K2 z0 zf0 x02 x612 hb2 hB1 h1 K1
      have H4 := Lib.hid h4
      go_upto_region 7 with (fail)
      have hbs4 : base ≤ W4.heap.size := Nat.le_trans hbase hB4.size
      have hk4 := h4.kids _ cP nP hcP hnP
      have hkA : Row (W4.alloc (.cells #[.int .i64 (L : Int)] 3)).drew base 3 1 kidC (.slice cP.K cP.n cP.d) nP.kids := hk4.alloc (.cells #[.int .i64 (L : Int)] 3)
      have hnA : ∀ (j : Nat) (u : Value), (kidC (L : Int))[j]? = some u → (W4.alloc (.cells #[.int .i64 (L : Int)] 3)).drew.cell? ⟨W4.heap.size, j, none⟩ = some u := RowG.new_cells W4 3 (kidC (L : Int))
      have hBA := below_al (Below.refl W4.heap.size W4) (.cells #[.int .i64 (L : Int)] 3)
      have hbD : Below W4.heap.size W4 (W4.alloc (.cells #[.int .i64 (L : Int)] 3)).drew := hBA.drew
      have hsA : base ≤ (W4.alloc (.cells #[.int .i64 (L : Int)] 3)).drew.heap.size := Nat.le_trans hbs4 hbD.size
      have x0A : (W4.alloc (.cells #[.int .i64 (L : Int)] 3)).cell? ⟨g, 0, none⟩ = some (.slice (some ad) L cp) := (hBA.cell (p := ⟨g, 0, none⟩) h4.blk.lt).trans x04
      have hadb : (ad.add (P * 5)).block < W4.heap.size := by
        rw [HAD.out, add_zero_]
        exact dj_of_lt h4.nodes rfl
      have e4A : (W4.alloc (.cells #[.int .i64 (L : Int)] 3)).cell? ⟨(ad.add (P * 5)).block, (ad.add (P * 5)).off + 4, none⟩ = some (.slice cP.K cP.n cP.d) := (hBA.cell (p := ⟨(ad.add (P * 5)).block, (ad.add (P * 5)).off + 4, none⟩) hadb).trans e44
      have hkl : nP.kids.length + 1 ≤ L := by
        have := HS.out.kcnt s.place
        rw [kidsOf_of hnP] at this
        rw [HLL.out]; exact this
      clear h4 kk1 kk2
      go_region_law (refine RowG.step_more _ (by rfl) _ _ 52 (by rfl) 3 kidC 1 8 _ info_int Tryz.underlying52 rfl (by decide) kidC_len kidC_one base _ nP.kids (L : Int) (by rfl) _ _ (by rfl) hkA hnA (by simp only [maxLen]; omega) (by omega) hsA ?_
                     intro v6 w6 hrow6 hg6 ho6
                     obtain ⟨K6, d6, hv6⟩ := hrow6.form
                     rw [List.length_append, List.length_singleton] at hv6
                     subst hv6
                     have hgr6 : KT (W4.alloc (.cells #[.int .i64 (L : Int)] 3)).drew w6 92 := KT.grown hkA hg6 (by decide)
                     have hgn6 : KT (W4.alloc (.cells #[.int .i64 (L : Int)] 3)).drew w6 54 := KT.grown hkA hg6 (by decide)
                     have hga6 : KT (W4.alloc (.cells #[.int .i64 (L : Int)] 3)).drew w6 41 := KT.grown hkA hg6 (by decide)
                     have x06 : w6.cell? ⟨g, 0, none⟩ = some (.slice (some ad) L cp) := by rw [HAD.out, HLL.out]; exact bl_0 (blk_kt ((H4.out.next hbD).blk) hgr6)
                     have hno6 := row_kt (H4.out.next hbD).nodes hgn6
                     have hq6 := nod_of hno6.reads.1 hcP
                     have e46 : w6.cell? ⟨(ad.add (P * 5)).block, (ad.add (P * 5)).off + 4, none⟩ = some (.slice cP.K cP.n cP.d) := by
                       obtain ⟨ad6, hade6, -, -, -, -, -, e6⟩ := hq6
                       obtain rfl : ad = ad6 := by rw [HAD.out]; injection hade6
                       rw [HPP.out]; exact e6
                     have f46 : w6.frozen? ⟨(ad.add (P * 5)).block, (ad.add (P * 5)).off + 4, none⟩ = false := by rw [HAD.out, ad_off]; exact row_frozen hno6 _)
      all_goals
        have h6 := bs_kid (x := (s.ns.length : Int)) H4.out hbD hcP hnP (by rw [← HLL.out]; exact hrow6) hg6 ho6
        rw [← ad_off, ← HAD.out, ← HPP.out, ← HLL.out] at h6
        have KX6 := (blk_kt (Blk.next KX4 hbD) hgn6).far (p := ⟨(ad.add (P * 5)).block, (ad.add (P * 5)).off + 4, none⟩) (by rw [HAD.out, add_zero_]; exact fun e => by have h := dj_of_lt (b := b) HH.out.nodes rfl; have e : w.heap.size = b := e; omega) (.slice K6 (nP.kids.length + 1) d6)
        have hB6 : Below base w (w6.setCell ⟨(ad.add (P * 5)).block, (ad.add (P * 5)).off + 4, none⟩ (.slice K6 (nP.kids.length + 1) d6)) := (((hB4.mono hbase).trans (hbD.mono hbs4)).grown hg6 hsA (fun k hk => (World.ownsRow.lt hkA k hk).1)).setCell (by rw [HAD.out, add_zero_]; exact hbb) _
        have ha6 : Row (w6.setCell ⟨(ad.add (P * 5)).block, (ad.add (P * 5)).off + 4, none⟩ (.slice K6 (nP.kids.length + 1) d6)) base 41 2 atC (.slice cA cm cc) nd.attrs := by
          rw [HAD.out, ad_off]
          obtain ⟨cur6, hcur6⟩ := row_blk hno6
          exact row_kt (row_kt (ha4.below hbD) hga6) (KT.set hcur6 (by decide) _ _)
        have hk6 : KtA w (w6.setCell ⟨(ad.add (P * 5)).block, (ad.add (P * 5)).off + 4, none⟩ (.slice K6 (nP.kids.length + 1) d6)) := fun e h1 h2 h3 => by
          rw [HAD.out, ad_off]
          obtain ⟨cur6, hcur6⟩ := row_blk hno6
          exact ((((KT.below hB4 e).trans (.below hbD e)).trans (KT.grown hkA hg6 h3))).trans (KT.set hcur6 h2 _ _)
        have x07 : (w6.setCell ⟨(ad.add (P * 5)).block, (ad.add (P * 5)).off + 4, none⟩ (.slice K6 (nP.kids.length + 1) d6)).cell? ⟨g, 0, none⟩ = some (.slice (some ad) L cp) := by rw [HAD.out]; rw [HAD.out] at h6; exact bl_0 h6.blk
        have y0 := KX6.cell 0
        have y1 := KX6.cell 1
        have y2 := KX6.cell 2
        have y3 := KX6.cell 3
        have y4 := KX6.cell 4
        simp only [List.getElem?_toArray, List.getElem?_cons_zero, List.getElem?_cons_succ] at y0 y1 y2 y3 y4
        generalize w6.setCell ⟨(ad.add (P * 5)).block, (ad.add (P * 5)).off + 4, none⟩ (.slice K6 (nP.kids.length + 1) d6) = W6 at *
        clear x06 e46 f46 hrow6 hg6 ho6 hgr6 hgn6 hga6 hno6 hq6 x04 e44 hkA hnA hBA hbD hsA x0A e4A KX4 hk4 ha4
        generalize hcs6 : cs.set P _ = cs6 at h6
        have hcl6 : cs6.length = L := by rw [← hcs6, List.length_set, HLL.out]; exact HH.out.clen
        clear hcs6
        have hbs6 : base ≤ W6.heap.size := Nat.le_trans hbase hB6.size
        have hrA : Row (W6.alloc (.cells #[.int .i64 (P : Int), .string (toB nd.tag), .string ⟨#[]⟩, .slice cA cm cc, .slice none 0 0] 54)).drew base 54 5 ncC (.slice (some ad) L cp) cs6 := h6.nodes.alloc _
        have hnA : ∀ (j : Nat) (u : Value), (ncC ⟨(P : Int), toB nd.tag, ⟨#[]⟩, cA, cm, cc, none, 0, 0⟩)[j]? = some u → (W6.alloc (.cells #[.int .i64 (P : Int), .string (toB nd.tag), .string ⟨#[]⟩, .slice cA cm cc, .slice none 0 0] 54)).drew.cell? ⟨W6.heap.size, j, none⟩ = some u := RowG.new_cells W6 54 (ncC ⟨(P : Int), toB nd.tag, ⟨#[]⟩, cA, cm, cc, none, 0, 0⟩)
        have hBA : Below W6.heap.size W6 (W6.alloc (.cells #[.int .i64 (P : Int), .string (toB nd.tag), .string ⟨#[]⟩, .slice cA cm cc, .slice none 0 0] 54)).drew := (below_al (Below.refl W6.heap.size W6) _).drew
        have hsA : base ≤ (W6.alloc (.cells #[.int .i64 (P : Int), .string (toB nd.tag), .string ⟨#[]⟩, .slice cA cm cc, .slice none 0 0] 54)).drew.heap.size := Nat.le_trans hbs6 hBA.size
        have x0A : (W6.alloc (.cells #[.int .i64 (P : Int), .string (toB nd.tag), .string ⟨#[]⟩, .slice cA cm cc, .slice none 0 0] 54)).cell? ⟨g, 0, none⟩ = some (.slice (some ad) L cp) := (hBA.cell (p := ⟨g, 0, none⟩) h6.blk.lt).trans x07
        have H6 := Lib.hid h6
        clear h6
        go_upto_region 8 with (fail)
        go_region_law (refine RowG.step_more _ (by rfl) _ _ 46 (by rfl) 54 ncC 5 88 _ info_node Tryz.underlying46 rfl (by decide) ncC_len ncC_one base _ cs6 ⟨(P : Int), toB nd.tag, ⟨#[]⟩, cA, cm, cc, none, 0, 0⟩ (by rfl) _ _ (by rfl) hrA hnA (by simp only [maxLen]; omega) (by omega) hsA ?_
                       intro v7 w7 hrow7 hg7 _
                       obtain ⟨A7, c7, hv7⟩ := hrow7.form
                       rw [List.length_append, List.length_singleton, hcl6] at hv7
                       subst hv7
                       have hgr7 : KT (W6.alloc (.cells #[.int .i64 (P : Int), .string (toB nd.tag), .string ⟨#[]⟩, .slice cA cm cc, .slice none 0 0] 54)).drew w7 92 := KT.grown hrA hg7 (by decide)
                       have hblk7 := blk_kt ((H6.out.next hBA).blk) hgr7
                       have x08 := bl_0 hblk7
                       have f08 := hblk7.frozen 0)
        all_goals
          have hbase7 : Below base w (w7.setCell ⟨g, 0, none⟩ (.slice A7 (L + 1) c7)) := ((hB6.trans (hBA.mono hbs6)).grown hg7 hsA (fun k hk => (World.ownsRow.lt hrA k hk).1)).setCell H6.out.hg _
          have hk8 : KtA w (w7.setCell ⟨g, 0, none⟩ (.slice A7 (L + 1) c7)) := fun e h1 h2 h3 => (((hk6 e h1 h2 h3).trans (.below hBA e)).trans (KT.grown hrA hg7 h2)).trans (KT.set hblk7 h1 _ _)
          have h8 := bs_node (nd := { nd with parent := (P : Int) }) H6.out hBA hrow7 hg7 ⟨rfl, rfl, rfl⟩ ha6 rfl rfl rfl hkn htx
          have HR2 : Hid (add s nd = .ok ⟨addKid s.ns P (L : Int) ++ [{ nd with parent := (P : Int) }], P⟩) := by
            show _ = _
            rw [HPP.out, HLL.out]
            exact HR.out
          go_wp2
          go_ret
          exact ⟨.inr ⟨_, HR2.out, rfl, _, _, _, h8⟩, hbase7, hk8⟩
end Tre
end Go.Proofs.YteopighhhcikcaaGreatDoor
/- (*builder).open. Conditions: as the theorem's premises say. -/
namespace Go.Proofs.YteopighhhcikcaaGreatDoor
open Go.ChangeShapes Go.WideShapes Go.ChangeAt Go.RowKit
namespace Tre
open Tok
open RowG (Row)
theorem toB_eq (a b : List UInt8) : ((toB a).toList == (toB b).toList) = decide (a = b) := by
  rw [toB_beq2]
  by_cases h : a = b
  · subst h; simp
  · simp [h]
theorem BsC.alloc {w : World} {base g : Nat} {nv : Value} {tv : List Value} {cs : List NC} {s : St} (h : BsC w base g nv tv cs s) (o : Obj) : BsC (w.alloc o) base g nv tv cs s := h.next (below_al (Below.refl _ _) o)
theorem add_err {s : St} {n : Nd} {x : Nat} (h : add s n = .error x) : x = 5 ∨ x = 3 := by
  unfold add at h
  split at h
  · injection h with h; omega
  · split at h
    · injection h with h; omega
    · cases h
/-- add, when it is known what comes of it. -/
theorem add_no {w : World} {base g : Nat} {s : St} (hs : Ok s) (h : BS w base g s) (hbase : base ≤ w.heap.size) {A : Option Addr} {m c : Nat} {tag : List UInt8} {ats : List At} (ha : Row w base 41 2 atC (.slice A m c) ats) (p : Int) {x : Nat} (hx : add s ⟨0, tag, [], ats, []⟩ = .error x) :
    Calls Tryz.prog 128 #[.pointer (some ⟨g, 0, none⟩), .agg #[.int .i64 p, .string (toB tag), .string ⟨#[]⟩, .slice A m c, .slice none 0 0]] w fun e w' => e = .returned (.int .i64 (x : Int)) ∧ BS w' base g s ∧ Below base w w' ∧ KtA w w' :=
  (add_any w base g s hs h hbase ⟨p, toB tag, ⟨#[]⟩, A, m, c, none, 0, 0⟩ ⟨0, tag, [], ats, []⟩ rfl rfl ha rfl rfl rfl rfl rfl).mono (by
    rintro e w' ⟨⟨y, hy, rfl, hb⟩ | ⟨s', hy, -⟩, h2, h3⟩
    · rw [hx] at hy
      injection hy with hy
      subst hy
      exact ⟨rfl, hb, h2, h3⟩
    · rw [hx] at hy; cases hy)
theorem add_yes {w : World} {base g : Nat} {s : St} (hs : Ok s) (h : BS w base g s) (hbase : base ≤ w.heap.size) {A : Option Addr} {m c : Nat} {tag : List UInt8} {ats : List At} (ha : Row w base 41 2 atC (.slice A m c) ats) (p : Int) {s' : St} (hx : add s ⟨0, tag, [], ats, []⟩ = .ok s') :
    Calls Tryz.prog 128 #[.pointer (some ⟨g, 0, none⟩), .agg #[.int .i64 p, .string (toB tag), .string ⟨#[]⟩, .slice A m c, .slice none 0 0]] w fun e w' => e = .returned (.int .i64 0) ∧ BS w' base g s' ∧ Below base w w' ∧ KtA w w' :=
  (add_any w base g s hs h hbase ⟨p, toB tag, ⟨#[]⟩, A, m, c, none, 0, 0⟩ ⟨0, tag, [], ats, []⟩ rfl rfl ha rfl rfl rfl rfl rfl).mono (by
    rintro e w' ⟨⟨y, hy, -⟩ | ⟨s1, hy, rfl, hb⟩, h2, h3⟩
    · rw [hx] at hy; cases hy
    · rw [hx] at hy
      injection hy with hy
      subst hy
      exact ⟨rfl, hb, h2, h3⟩)
theorem row_less2 {α : Type} {w : World} {base b k : Nat} {e : TypeId} {enc : α → List Value} {v : Value} {l : List α} (h : Row w base e k enc v l) (hb : b ≤ base) : Row w b e k enc v l := by
  refine ⟨h.1, ?_⟩
  rcases h.2 with h2 | ⟨g, cap, cur, rfl, hb2, rest⟩
  · exact .inl h2
  · exact .inr ⟨g, cap, cur, rfl, Nat.le_trans hb hb2, rest⟩
theorem open_root {s : St} {t : Tk} (h : t.name = rootT) : openS s t = .ok s := by unfold openS; rw [if_pos h]
theorem open_err {s : St} {t : Tk} {x : Nat} (h : t.name ≠ rootT) (ha : add s ⟨0, t.name, [], t.attrs, []⟩ = .error x) : openS s t = .error x := by unfold openS; rw [if_neg h, ha]
theorem open_ok {s s' : St} {t : Tk} (h : t.name ≠ rootT) (ha : add s ⟨0, t.name, [], t.attrs, []⟩ = .ok s') : openS s t = .ok (if t.name = imgT then s' else ⟨s'.ns, s'.ns.length - 1⟩) := by unfold openS; rw [if_neg h, ha]
set_option maxRecDepth 100000 in
set_option maxHeartbeats 16000000 in
theorem open_any (w : World) (base g : Nat) (s : St) (hs : Ok s) (h : BS w base g s) (hbase : base ≤ w.heap.size) (c : TC) (t : Tk) (ht : TkR w w.heap.size c t) (hn : t.attrs.length ≤ 900000) :
    Calls Tryz.prog 98 #[.pointer (some ⟨g, 0, none⟩), tcV c] w fun e w' => AddR base g s (openS s t) e w' ∧ Below base w w' := by
  obtain ⟨h1, h2, h3, h4, h5⟩ := ht
  obtain ⟨ck, cnm, cx, cA, cm, cc⟩ := c
  simp only at h1 h2 h3 h4 h5
  subst h1 h2 h3 h4
  show Calls _ _ #[.pointer (some ⟨g, 0, none⟩), .agg #[.int .i64 t.kind, .string (toB t.name), .string (toB t.text), .slice cA t.attrs.length cc]] _ _
  have K1 := Blk.new w 38 #[.int .i64 t.kind, .string (toB t.name), .string (toB t.text), .slice cA t.attrs.length cc]
  have hB1 := below_al (Below.refl w.heap.size w) (.cells #[.int .i64 t.kind, .string (toB t.name), .string (toB t.text), .slice cA t.attrs.length cc] 38)
  have q1 := toB_eq t.name rootT
  rw [show (toB rootT).toList = [114, 111, 111, 116] from by rw [ByteArray.toList_eq]; rfl] at q1
  have q2 := toB_eq t.name imgT
  rw [show (toB imgT).toList = [105, 109, 103] from by rw [ByteArray.toList_eq]; rfl] at q2
  by_cases hr : t.name = rootT
  · have HR := Lib.hid (open_root (s := s) hr)
    rw [decide_eq_true hr] at q1
    have hN := h.next hB1
    clear hr q2
    go_enter Tryz.func98, Tryz.ntmps98
    go_wp2
    go_ret
    exact ⟨.inr ⟨s, HR.out, rfl, hN⟩, hB1.mono hbase⟩
  · rw [decide_eq_false hr] at q1
    have HE := Lib.hid (fun x => open_err (s := s) (t := t) (x := x) hr)
    have HO := Lib.hid (fun s' => open_ok (s := s) (s' := s') (t := t) hr)
    have hz1 : (w.alloc (.cells #[.int .i64 t.kind, .string (toB t.name), .string (toB t.text), .slice cA t.attrs.length cc] 38)).heap.size = w.heap.size + 1 := size_al _ _
    have hr5 := (h5.below hB1).more hB1.size
    have hN := h.next hB1
    have ccl := cloneA_any cA t.attrs.length cc t.attrs (by omega) (w.alloc (.cells #[.int .i64 t.kind, .string (toB t.name), .string (toB t.text), .slice cA t.attrs.length cc] 38)).drew hr5
    obtain ⟨x0, x1, x2, x3⟩ := blk4 K1
    have HCL := Lib.hid ccl
    have HNN := Lib.hid hN
    have hr5d : Hid (t.attrs.length ≤ 900000) := hn
    clear ccl hN hr5 hn
    cases ha : add s ⟨0, t.name, [], t.attrs, []⟩ with
    | error x =>
      have HR := Lib.hid (HE.out x ha)
      have hx0 : ((x : Int) == 0) = false := by rw [beq_eq_false_iff_ne]; rcases add_err ha with rfl | rfl <;> decide
      have cno := fun w' h hb A m c hv => add_no (w := w') (base := base) (g := g) hs h hb (A := A) (m := m) (c := c) (tag := t.name) (ats := t.attrs) hv 0 ha
      clear ha hr q2
      go_enter Tryz.func98, Tryz.ntmps98
      go_upto_region 3 with (fail)
      generalize w.alloc (.cells #[.int .i64 t.kind, .string (toB t.name), .string (toB t.text), .slice cA t.attrs.length cc] 38) = W1 at *
      have hbs1 : base ≤ W1.heap.size := Nat.le_trans hbase hB1.size
      have K1d : Blk W1.drew w.heap.size 38 #[.int .i64 t.kind, .string (toB t.name), .string (toB t.text), .slice cA t.attrs.length cc] := K1
      first
      | (go_region_held3 (fun W' => W'.cell? ⟨w.heap.size, 1, none⟩ = some (.string (toB t.name)) ∧ W'.cell? ⟨w.heap.size, 3, none⟩ = some (.slice cA t.attrs.length cc))
          (first | (with_reducible assumption) | exact ⟨K1d.cell 1, K1d.cell 3⟩ | exact ⟨K2.cell 1, K2.cell 3⟩ | exact ⟨K3.cell 1, K3.cell 3⟩)
          (first
            | (go_at_call 81; (with_reducible refine HCL.out.mono ?_); rintro e w2 ⟨v, rfl, hrow2, hb2⟩
               obtain ⟨A2, c2, rfl⟩ := hrow2.form
               have K2 := K1d.next hb2
               have hbs2 : base ≤ w2.heap.size := Nat.le_trans hbs1 hb2.size
               have hBW : Below W1.heap.size W1 w2 := (Below.refl W1.heap.size W1).drew.trans hb2
               have hBB : Below base W1 w2 := hBW.mono hbs1
               have ca2 := cno w2 (HNN.out.next hBW) hbs2 _ _ _ (row_less2 hrow2 hbs1))
            | (go_at_call 128; (with_reducible refine ca2.mono ?_); rintro e w3 ⟨rfl, hS3, hb3, hk3⟩
               have K3 := blk_kt K2 (hk3 _ (by decide) (by decide) (by decide)))))
      | (fail)
      all_goals
        go_wp2
        go_ret
        exact ⟨.inl ⟨x, HR.out, rfl, hS3⟩, ((hB1.mono hbase).trans hBB).trans hb3⟩
    | ok s1 =>
      have hok1 := add_ok hs rfl ha
      have HOK := Lib.hid hok1.1
      have HR := Lib.hid (HO.out s1 ha)
      have cyes := fun w' h hb A m c hv => add_yes (w := w') (base := base) (g := g) hs h hb (A := A) (m := m) (c := c) (tag := t.name) (ats := t.attrs) hv 0 ha
      clear ha hr hok1
      go_enter Tryz.func98, Tryz.ntmps98
      go_upto_region 3 with (fail)
      generalize w.alloc (.cells #[.int .i64 t.kind, .string (toB t.name), .string (toB t.text), .slice cA t.attrs.length cc] 38) = W1 at *
      have hbs1 : base ≤ W1.heap.size := Nat.le_trans hbase hB1.size
      have K1d : Blk W1.drew w.heap.size 38 #[.int .i64 t.kind, .string (toB t.name), .string (toB t.text), .slice cA t.attrs.length cc] := K1
      first
      | (go_region_held3 (fun W' => W'.cell? ⟨w.heap.size, 1, none⟩ = some (.string (toB t.name)) ∧ W'.cell? ⟨w.heap.size, 3, none⟩ = some (.slice cA t.attrs.length cc))
          (first | (with_reducible assumption) | exact ⟨K1d.cell 1, K1d.cell 3⟩ | exact ⟨K2.cell 1, K2.cell 3⟩ | exact ⟨K3.cell 1, K3.cell 3⟩)
          (first
            | (go_at_call 81; (with_reducible refine HCL.out.mono ?_); rintro e w2 ⟨v, rfl, hrow2, hb2⟩
               obtain ⟨A2, c2, rfl⟩ := hrow2.form
               have K2 := K1d.next hb2
               have hbs2 : base ≤ w2.heap.size := Nat.le_trans hbs1 hb2.size
               have hBW : Below W1.heap.size W1 w2 := (Below.refl W1.heap.size W1).drew.trans hb2
               have hBB : Below base W1 w2 := hBW.mono hbs1
               have ca2 := cyes w2 (HNN.out.next hBW) hbs2 _ _ _ (row_less2 hrow2 hbs1))
            | (go_at_call 128; (with_reducible refine ca2.mono ?_); rintro e w3 ⟨rfl, ⟨nv, tv, cs, hS3⟩, hb3, hk3⟩
               have K3 := blk_kt K2 (hk3 _ (by decide) (by decide) (by decide))
               have z1 := K3.cell 1)))
      | (fail)
      all_goals
        obtain ⟨b, cp, rfl, -, -⟩ := hS3.form HOK.out.pos
        have hpos1 := HOK.out.pos
        have hfew1 := HOK.out.few
        have z0 := bl_0 hS3.blk
        have hB3 : Below base w w3 := ((hB1.mono hbase).trans hBB).trans hb3
        by_cases him : t.name = imgT
        · rw [decide_eq_true him] at q2
          have HI := Lib.hid him
          clear him
          go_wp2
          go_ret
          exact ⟨.inr ⟨_, HR.out, rfl, by rw [if_pos HI.out]; exact ⟨_, _, _, hS3⟩⟩, hB3⟩
        · rw [decide_eq_false him] at q2
          have HI := Lib.hid him
          have f61 := hS3.blk.frozen 61
          have z61 := bl_p hS3.blk hS3.tlen
          obtain ⟨L, hL⟩ : ∃ L, L = s1.ns.length := ⟨_, rfl⟩
          obtain ⟨q, hq⟩ : ∃ q, q = L - 1 := ⟨_, rfl⟩
          have hqi : (L : Int) - 1 = (q : Int) := by omega
          have h61 := bs_place (q := q) hS3
          have hB4 : Below base w (w3.setCell ⟨g, 61, none⟩ (.int .i64 (q : Int))) := hB3.setCell (p := ⟨g, 61, none⟩) hS3.hg _
          rw [← hL] at z0 h61 hpos1 hfew1
          have HQ : Hid (q = s1.ns.length - 1) := by show _ = _; rw [hq, hL]
          clear him hq hL hS3
          go_wp2
          go_ret
          exact ⟨.inr ⟨_, HR.out, rfl, by rw [if_neg HI.out, ← HQ.out]; exact ⟨_, _, _, h61⟩⟩, hB4⟩
end Tre
end Go.Proofs.YteopighhhcikcaaGreatDoor
namespace Go.Proofs.YteopighhhcikcaaGreatDoor
open Go.ChangeShapes Go.WideShapes Go.ChangeAt Go.RowKit Go.Lib
namespace Tre
open Tok
open RowG (Row)
theorem step_app2 {P : Program} {ops : Array Oper} {o : Oper} {a : Act} {w : World} {K : Act → World → Prop} {Q : Exit → Act → World → Prop} {E : Prop} (hgd : o.guard = none) (s x : Operand) (t u : TypeId)
    (ho : o.op = .call { callee := .builtin .append, args := #[s, x], argTypes := #[t, u] }) (v1 v2 vr : Value) (w' : World) (hs : a.eval s = v1) (hx : a.eval x = v2)
    (hrun : (Builtin.append_ #[t, u] o.type #[v1, v2]).run P w = .ok vr w') (h : K (a.put o.dst vr) w') : if Region.wanted o (yielded ops a.tmps) = true then Oper.wp P o a w K Q else E := by
  have hw : Region.wanted o (yielded ops a.tmps) = true := by simp [Region.wanted, hgd]
  rw [if_pos hw]
  unfold Oper.wp execOp
  simp only [ho, resolve, invoke, builtin, Sem.run_bind, Sem.run_pure, Result.andThen_ok, List.map_toArray, List.map_cons, List.map_nil, hs, hx, hrun]
  exact h
theorem flat_bv (l : List UInt8) : l.flatMap (fun c => [bv c]) = l.map bv := by induction l with
  | nil => rfl
  | cons c t ih => rw [List.flatMap_cons, ih]; rfl
theorem text_nil {s : St} : textS s [] = .ok s := by unfold textS; rw [if_pos rfl]
theorem text_more {s : St} {x : List UInt8} (h : x ≠ []) (he : endsText s = true) : textS s x = .ok ⟨more s.ns x, s.place⟩ := by unfold textS; rw [if_neg h, if_pos he]
theorem text_err {s : St} {x : List UInt8} {y : Nat} (h : x ≠ []) (he : endsText s = false) (ha : add s ⟨0, [], [], [], []⟩ = .error y) : textS s x = .error y := by unfold textS; rw [if_neg h, if_neg (by rw [he]; decide), ha]
theorem text_ok {s s' : St} {x : List UInt8} (h : x ≠ []) (he : endsText s = false) (ha : add s ⟨0, [], [], [], []⟩ = .ok s') : textS s x = .ok ⟨more s'.ns x, s'.place⟩ := by unfold textS; rw [if_neg h, if_neg (by rw [he]; decide), ha]
/-- Where the bytes lie when a string has come behind them: where they lay, or in a new block. -/
theorem str_lies {P : Program} {w : World} (base : Nat) (t u ty e : TypeId) (i : TypeInfo) (ht : P.underlying t = some (.slice e)) (hu : P.underlying u = some .string) (hi : P.info? e = some i) (hz : i.zero = some (.int .u8 0)) (hsize : i.size = 1) (hby : i.bytes = 1)
    (v : Value) (n : Nat) (xs : List Value) (hown : w.ownsRow base e 1 v n xs) (s : ByteArray) (hb : n + s.size ≤ 100000000000000) (hbase : base ≤ w.heap.size) (v' : Value) (w' : World) (hrun : (Builtin.append_ #[t, u] ty #[v, .string s]).run P w = .ok v' w') : v'.ownBlock = v.ownBlock ∨ v'.ownBlock = some w.heap.size := by
  have hxl : xs.length = n := by simpa using hown.1
  rcases hown.2 with ⟨rfl, rfl⟩ | ⟨g, cap, cur, rfl, hbg, hg, hnc, hcm, hcs, htake⟩
  · have hx : xs = [] := List.eq_nil_of_length_eq_zero hxl
    subst hx
    by_cases hm : s.size = 0
    · obtain ⟨v2, w2, hr, -, -, h4⟩ := run_append_own_string (P := P) w base t u ty e i ht hu hi hz hsize hby _ _ _ (World.ownsRow_nil w base e 1) s (by simp only [maxLen]; omega) (by omega) hbase
      rw [hr] at hrun
      injection hrun with h1 h2
      rw [← h1, h4.2 ⟨rfl, hm⟩]
      exact .inl rfl
    · have hr := run_append_nil_string (P := P) w t u ty e i (.int .u8 0) ht hu hi hz s (by omega) (by omega) (by rw [hby]; omega)
      rw [hr] at hrun
      injection hrun with h1 h2
      rw [← h1]
      exact .inr rfl
  · by_cases hroom : n + s.size ≤ cap
    · have hcs' : cur.size = cap := by simpa using hcs
      have hr := run_append_room_string (P := P) w t u ty e i ht hu hi hsize g n cap cur hg s hroom (by omega)
      rw [hr] at hrun
      injection hrun with h1 h2
      rw [← h1]
      exact .inl rfl
    · have holds : ∀ j u, xs[j]? = some u → w.cell? ((⟨g, 0, none⟩ : Addr).add j) = some u := hown.cells (g := g) rfl
      have hr := run_append_grow_string (P := P) w t u ty e i (.int .u8 0) ht hu hi hz ⟨g, 0, none⟩ n cap xs (by rw [hsize]; simpa using hxl) holds s (by omega) (by omega) (by rw [hby]; exact growslice_fits (by omega) (by omega))
      rw [hr] at hrun
      injection hrun with h1 h2
      rw [← h1]
      exact .inr rfl
theorem txt_le (ns : List Nd) (i : Nat) : (txtOf ns i).length ≤ (allTx ns).length := by
  unfold txtOf
  cases h : ns[i]? with
  | none => exact Nat.zero_le _
  | some n =>
    show n.text.length ≤ _
    unfold allTx
    exact (List.sublist_flatten_of_mem (List.mem_map.2 ⟨n, List.mem_of_getElem? h, rfl⟩)).length_le
set_option maxRecDepth 100000 in
set_option maxHeartbeats 16000000 in
theorem text_any (w : World) (base g : Nat) (s : St) (hs : Ok s) (h : BS w base g s) (hbase : base ≤ w.heap.size) (x : List UInt8) (hx : (allTx s.ns).length + x.length ≤ 10000000000000) :
    Calls Tryz.prog 99 #[.pointer (some ⟨g, 0, none⟩), .string (toB x)] w fun e w' => AddR base g s (textS s x) e w' ∧ Below base w w' := by
  have q1 : ((toB x).toList == ([] : List UInt8)) = decide (x = []) := by
    rw [ByteArray.toList_eq]
    show (x == []) = _
    cases x <;> rfl
  have q2 : (toB x).toList.isEmpty = decide (x = []) := by
    rw [ByteArray.toList_eq]
    show x.isEmpty = _
    cases x <;> rfl
  have q3 : ((toB x).toList = []) ↔ (x = []) := by
    rw [ByteArray.toList_eq]
    exact Iff.rfl
  by_cases hxn : x = []
  · subst hxn
    have HR := Lib.hid (text_nil (s := s))
    generalize toB [] = tx at *
    go_enter Tryz.func99, Tryz.ntmps99
    go_wp2
    go_ret
    exact ⟨.inr ⟨s, HR.out, rfl, h⟩, Below.refl _ _⟩
  · rw [decide_eq_false hxn] at q1 q2
    have q4 : ¬ ((toB x).toList = []) := fun e => hxn (q3.1 e)
    obtain ⟨tx, htx⟩ : ∃ tx, tx = toB x := ⟨_, rfl⟩
    have HTX := Lib.hid htx
    rw [← htx] at q1 q2 q4 ⊢
    clear q3 htx
    have ce := ends_any w base g s hs h
    cases hes : endsText s with
    | true =>
      rw [hes] at ce
      have HR := Lib.hid (text_more hxn hes)
      have HOK := Lib.hid hs
      have hxt : (txtOf s.ns (s.ns.length - 1)).length + x.length ≤ 10000000000000 := by have := txt_le s.ns (s.ns.length - 1); omega
      have HXT := Lib.hid hxt
      clear hes hxn hs hxt hx
      go_enter Tryz.func99, Tryz.ntmps99
      go_upto_region 7 with (go_at_call 129; (with_reducible refine ce.mono ?_); rintro e w1 ⟨rfl, hb1⟩)
      obtain ⟨nv, tv, cs, hS⟩ := h.next hb1
      have hB1 : Below base w w1 := hb1.mono hbase
      have hbs1 : base ≤ w1.heap.size := Nat.le_trans hbase hb1.size
      obtain ⟨b, cp, hnv, -, -⟩ := hS.form HOK.out.pos
      subst hnv
      have hpos1 := HOK.out.pos
      have hfew1 := HOK.out.few
      obtain ⟨L, hL⟩ : ∃ L, L = s.ns.length := ⟨_, rfl⟩
      obtain ⟨k, hk⟩ : ∃ k, k = L - 1 := ⟨_, rfl⟩
      rw [← hL] at hpos1 hfew1
      have hkl : k < 60 := by omega
      have hk0 : (0 : Int) ≤ (k : Int) := Int.natCast_nonneg _
      have hkl2 : (k : Int) < 60 := by omega
      have HK : Hid (k = s.ns.length - 1) := by show _ = _; rw [hk, hL]
      have hki : (L : Int) - 1 = (k : Int) := by omega
      obtain ⟨v, hv⟩ : ∃ v, tv[k]? = some v := ⟨_, List.getElem?_eq_getElem (by rw [hS.tlen]; exact hkl)⟩
      have htk := hS.told k v hv
      have htl : (txtOf s.ns k).length + x.length ≤ 10000000000000 := by rw [HK.out]; exact HXT.out
      obtain ⟨vA, vc, hve⟩ := htk.form
      subst hve
      have z0 := bl_0 hS.blk
      rw [← hL] at z0
      have zk := bl_t hS.blk hv
      obtain ⟨i0, hi0, hz0, hz1, hz2⟩ := info_parts u8_info
      have htd : w1.drew.ownsRow base 5 1 (.slice vA (txtOf s.ns k).length vc) (txtOf s.ns k).length ((txtOf s.ns k).flatMap fun c => [bv c]) := htk
      have hbd : Below w1.heap.size w1 w1.drew := (Below.refl _ _).drew
      have hbs : base ≤ w1.drew.heap.size := hbs1
      obtain ⟨v7, w7, hrun, ho7, hg7, -⟩ := run_append_own_string (P := Tryz.prog) (w := w1.drew) base 74 9 74 5 i0 Tryz.underlying74 Tryz.underlying9 hi0 hz0 hz1 hz2 _ _ _ htd tx (by rw [HTX.out, toB_size]; simp only [maxLen]; omega) (by rw [HTX.out, toB_size]; omega) hbs
      have hl7 := str_lies base 74 9 74 5 i0 Tryz.underlying74 Tryz.underlying9 hi0 hz0 hz1 hz2 _ _ _ htd tx (by rw [HTX.out, toB_size]; omega) hbs v7 w7 hrun
      have hrow7 : Row w7 base 5 1 (fun c => [bv c]) v7 (txtOf s.ns k ++ x) := by
        unfold RowG.Row
        rw [List.length_append, List.flatMap_append, flat_bv x]
        have h := ho7
        rw [HTX.out, toB_size, Rep.strCells_bv] at h
        exact h
      obtain ⟨A7, c7, hv7⟩ := hrow7.form
      subst hv7
      have hgr7 : KT w1.drew w7 92 := KT.grown (show Row w1.drew base 5 1 (fun c => [bv c]) _ _ from htk) hg7 (by decide)
      have hbl7 := blk_kt (show Blk w1.drew g _ _ from hS.blk) hgr7
      have z07 := bl_0 hbl7
      rw [← hL] at z07
      have zk7 := bl_t hbl7 hv
      have fk7 := hbl7.frozen (1 + k)
      have h8 := bs_told hS HOK.out hbd HK.out hv hrow7 hg7 hl7
      have hB8 : Below base w (w7.setCell ⟨g, 1 + k, none⟩ (.slice A7 (txtOf s.ns k ++ x).length c7)) := ((hB1.drew).grown hg7 hbs (fun j hj => (World.ownsRow.lt htd j hj).1)).setCell hS.hg _
      clear hk hL hS
      rw [List.length_append] at h8 hB8 hrun
      generalize (txtOf s.ns k).length + x.length = N8 at *
      go_upto_region 8 with (fail)
      go_region_law (refine step_app2 (by rfl) _ _ 74 9 (by rfl) _ _ _ _ (by rfl) (by rfl) hrun ?_)
      all_goals
        go_wp2
        go_ret
        exact ⟨.inr ⟨_, HR.out, rfl, _, _, _, h8⟩, hB8⟩
    | false =>
      rw [hes] at ce
      have hB1f := fun (w1 : World) (hb : Below w.heap.size w w1) => Nat.le_trans hbase hb.size
      cases ha : add s ⟨0, [], [], [], []⟩ with
      | error y =>
        have HR := Lib.hid (text_err hxn hes ha)
        have hy0 : ((y : Int) == 0) = false := by rw [beq_eq_false_iff_ne]; rcases add_err ha with rfl | rfl <;> decide
        have cno := fun w' h hb => add_no (w := w') (base := base) (g := g) hs h hb (A := none) (m := 0) (c := 0) (tag := []) (ats := []) (Row.nil _ _ _ _ _) 0 ha
        rw [show toB [] = ⟨#[]⟩ from rfl] at cno
        clear ha hes hxn hx
        go_enter Tryz.func99, Tryz.ntmps99
        go_wp2_with (first
          | (go_at_call 129; (with_reducible refine ce.mono ?_); rintro e w1 ⟨rfl, hb1⟩
             have ca := cno w1 (h.next hb1) (hB1f w1 hb1))
          | (go_at_call 128; (with_reducible refine ca.mono ?_); rintro e w3 ⟨rfl, hS3, hb3, -⟩))
        go_ret
        exact ⟨.inl ⟨y, HR.out, rfl, hS3⟩, (hb1.mono hbase).trans hb3⟩
      | ok s1 =>
        have hao := add_ok hs rfl ha
        have HOK1 := Lib.hid hao.1
        have HR := Lib.hid (text_ok hxn hes ha)
        have hxt : (txtOf s1.ns (s1.ns.length - 1)).length + x.length ≤ 10000000000000 := by
          rw [hao.2.1, Nat.add_sub_cancel, hao.2.2.2.1]
          have : txtOf (addKid s.ns s.place s.ns.length ++ [{ (⟨0, [], [], [], []⟩ : Nd) with parent := (s.place : Int) }]) s.ns.length = [] := by
            unfold txtOf
            rw [get_push, addKid_len, if_neg (Nat.lt_irrefl _), if_pos rfl]
          rw [this, List.length_nil]
          omega
        have HXT1 := Lib.hid hxt
        have cyes := fun w' h hb => add_yes (w := w') (base := base) (g := g) hs h hb (A := none) (m := 0) (c := 0) (tag := []) (ats := []) (Row.nil _ _ _ _ _) 0 ha
        rw [show toB [] = ⟨#[]⟩ from rfl] at cyes
        clear ha hes hxn hx hao hxt
        go_enter Tryz.func99, Tryz.ntmps99
        go_upto_region 7 with (first
          | (go_at_call 129; (with_reducible refine ce.mono ?_); rintro e w1 ⟨rfl, hb1⟩
             have ca := cyes w1 (h.next hb1) (hB1f w1 hb1))
          | (go_at_call 128; (with_reducible refine ca.mono ?_); rintro e w3 ⟨rfl, hS3, hb3, -⟩))
        obtain ⟨nv, tv, cs, hS3⟩ := hS3
        have hB3 : Below base w w3 := (hb1.mono hbase).trans hb3
        have hbs3 : base ≤ w3.heap.size := Nat.le_trans hbase hB3.size
        obtain ⟨b, cp, hnv, -, -⟩ := hS3.form HOK1.out.pos
        subst hnv
        have hpos1 := HOK1.out.pos
        have hfew1 := HOK1.out.few
        obtain ⟨L, hL⟩ : ∃ L, L = s1.ns.length := ⟨_, rfl⟩
        obtain ⟨k, hk⟩ : ∃ k, k = L - 1 := ⟨_, rfl⟩
        rw [← hL] at hpos1 hfew1
        have hkl : k < 60 := by omega
        have hk0 : (0 : Int) ≤ (k : Int) := Int.natCast_nonneg _
        have hkl2 : (k : Int) < 60 := by omega
        have HK : Hid (k = s1.ns.length - 1) := by show _ = _; rw [hk, hL]
        have hki : (L : Int) - 1 = (k : Int) := by omega
        obtain ⟨v, hv⟩ : ∃ v, tv[k]? = some v := ⟨_, List.getElem?_eq_getElem (by rw [hS3.tlen]; exact hkl)⟩
        have htk := hS3.told k v hv
        have htl : (txtOf s1.ns k).length + x.length ≤ 10000000000000 := by rw [HK.out]; exact HXT1.out
        obtain ⟨vA, vc, hve⟩ := htk.form
        subst hve
        have z0 := bl_0 hS3.blk
        rw [← hL] at z0
        have zk := bl_t hS3.blk hv
        obtain ⟨i0, hi0, hz0, hz1, hz2⟩ := info_parts u8_info
        have htd : w3.drew.ownsRow base 5 1 (.slice vA (txtOf s1.ns k).length vc) (txtOf s1.ns k).length ((txtOf s1.ns k).flatMap fun c => [bv c]) := htk
        have hbd : Below w3.heap.size w3 w3.drew := (Below.refl _ _).drew
        have hbs : base ≤ w3.drew.heap.size := hbs3
        obtain ⟨v7, w7, hrun, ho7, hg7, -⟩ := run_append_own_string (P := Tryz.prog) (w := w3.drew) base 74 9 74 5 i0 Tryz.underlying74 Tryz.underlying9 hi0 hz0 hz1 hz2 _ _ _ htd tx (by rw [HTX.out, toB_size]; simp only [maxLen]; omega) (by rw [HTX.out, toB_size]; omega) hbs
        have hl7 := str_lies base 74 9 74 5 i0 Tryz.underlying74 Tryz.underlying9 hi0 hz0 hz1 hz2 _ _ _ htd tx (by rw [HTX.out, toB_size]; omega) hbs v7 w7 hrun
        have hrow7 : Row w7 base 5 1 (fun c => [bv c]) v7 (txtOf s1.ns k ++ x) := by
          unfold RowG.Row
          rw [List.length_append, List.flatMap_append, flat_bv x]
          have h := ho7
          rw [HTX.out, toB_size, Rep.strCells_bv] at h
          exact h
        obtain ⟨A7, c7, hv7⟩ := hrow7.form
        subst hv7
        have hgr7 : KT w3.drew w7 92 := KT.grown (show Row w3.drew base 5 1 (fun c => [bv c]) _ _ from htk) hg7 (by decide)
        have hbl7 := blk_kt (show Blk w3.drew g _ _ from hS3.blk) hgr7
        have z07 := bl_0 hbl7
        rw [← hL] at z07
        have zk7 := bl_t hbl7 hv
        have fk7 := hbl7.frozen (1 + k)
        have h8 := bs_told hS3 HOK1.out hbd HK.out hv hrow7 hg7 hl7
        have hB8 : Below base w (w7.setCell ⟨g, 1 + k, none⟩ (.slice A7 (txtOf s1.ns k ++ x).length c7)) := ((hB3.drew).grown hg7 hbs (fun j hj => (World.ownsRow.lt htd j hj).1)).setCell hS3.hg _
        clear hk hL hS3
        rw [List.length_append] at h8 hB8 hrun
        generalize (txtOf s1.ns k).length + x.length = N8 at *
        go_upto_region 8 with (fail)
        go_region_law (refine step_app2 (by rfl) _ _ 74 9 (by rfl) _ _ _ _ (by rfl) (by rfl) hrun ?_)
        all_goals
          go_wp2
          go_ret
          exact ⟨.inr ⟨_, HR.out, rfl, _, _, _, h8⟩, hB8⟩
end Tre
end Go.Proofs.YteopighhhcikcaaGreatDoor
