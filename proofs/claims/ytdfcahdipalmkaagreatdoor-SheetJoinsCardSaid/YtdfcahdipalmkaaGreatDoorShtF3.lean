/- sheet's Print. Conditions: lists are not too long; the tables are laid. -/
import Derived.Test.YtdfcahdipalmkaaGreatDoorShtB
import Derived.Test.YtdfcahdipalmkaaGreatDoorScanBlocksC
/- sheet's Read. Conditions: the tables are laid. -/
namespace Go.Proofs.YtdfcahdipalmkaaGreatDoor
open Go.ChangeShapes Go.WideShapes Go.ChangeAt Go.RowKit Go.Shelf
namespace Sht
open Sel
open RowG (Row)
theorem blocks_w : BlocksC := fun s w hL hs => blks.blocks_any s (fun t w ht _ => ia_any [123, 125] (by unfold Ia.Asc; decide) (by decide) (by decide) t (Nat.le_trans ht hs) w) w hL hs
theorem lensT {w : World} (h : Val.Tabs w) : Lens w := h.len
def blC (b : List UInt8 × List UInt8) : List Value := [.string (toB b.1), .string (toB b.2)]
theorem blC_len (b : List UInt8 × List UInt8) : (blC b).length = 2 := rfl
theorem bstep_small (n : Nat) (s : Bst) (c : UInt8) (h1 : ∀ b ∈ s.out, b.1.length ≤ n ∧ b.2.length ≤ n) (h2 : s.head.length ≤ n) (h3 : ∀ b, s.body = some b → b.length ≤ n) :
    (∀ b ∈ (bstep s c).out, b.1.length ≤ n ∧ b.2.length ≤ n) ∧ (bstep s c).head.length ≤ n + 1 ∧ (∀ b, (bstep s c).body = some b → b.length ≤ n + 1) ∧ (bstep s c).out.length ≤ s.out.length + 1 := by
  unfold bstep
  split
  · cases hb : s.body with
    | some b =>
      simp only
      refine ⟨fun x hx => ?_, Nat.zero_le _, fun _ h => by (cases h), by simp⟩
      rcases List.mem_append.1 hx with hx | hx
      · exact h1 x hx
      · rw [List.mem_singleton] at hx
        subst hx
        exact ⟨Nat.le_trans (trim_len _) h2, Nat.le_trans (trim_len _) (h3 b hb)⟩
    | none => exact ⟨h1, Nat.zero_le _, fun _ h => by (cases h), Nat.le_succ _⟩
  · cases hb : s.body with
    | some b =>
      simp only
      refine ⟨h1, by omega, fun x hx => ?_, Nat.le_succ _⟩
      injection hx with hx
      subst hx
      have := h3 b hb
      simp
      exact this
    | none =>
      simp only
      split
      · exact ⟨h1, by show s.head.length ≤ n + 1; omega, fun x hx => by (injection hx with hx; subst hx; exact Nat.zero_le _), Nat.le_succ _⟩
      · exact ⟨h1, by simp; exact h2, fun x hx => by (cases hx), Nat.le_succ _⟩
theorem bfold_small : ∀ (l : List UInt8) (n : Nat) (s : Bst) (_ : ∀ b ∈ s.out, b.1.length ≤ n ∧ b.2.length ≤ n) (_ : s.head.length ≤ n) (_ : ∀ b, s.body = some b → b.length ≤ n),
    (∀ b ∈ (l.foldl bstep s).out, b.1.length ≤ n + l.length ∧ b.2.length ≤ n + l.length) ∧ (l.foldl bstep s).out.length ≤ s.out.length + l.length
  | [], n, s, h1, _, _ => ⟨h1, Nat.le_refl _⟩
  | c :: l, n, s, h1, h2, h3 => by
    obtain ⟨g1, g2, g3, g4⟩ := bstep_small n s c h1 h2 h3
    have ih := bfold_small l (n + 1) (bstep s c) (fun b hb => ⟨by have := (g1 b hb).1; omega, by have := (g1 b hb).2; omega⟩) g2 g3
    rw [List.foldl_cons, List.length_cons]
    exact ⟨fun b hb => ⟨by have := (ih.1 b hb).1; omega, by have := (ih.1 b hb).2; omega⟩, by have := ih.2; omega⟩
theorem blocks_small (l : List UInt8) : (blocksF l).length ≤ l.length ∧ ∀ b ∈ blocksF l, b.1.length ≤ l.length ∧ b.2.length ≤ l.length := by
  have h := bfold_small l 0 ⟨[], [], none⟩ (fun b hb => by simp at hb) (Nat.zero_le _) (fun b hb => by cases hb)
  unfold blocksF
  exact ⟨by simpa using h.2, fun b hb => by simpa using h.1 b hb⟩
theorem bl_of {w : World} {B n k : Nat} {A : Option Addr} {bs : List (List UInt8 × List UInt8)} {b : List UInt8 × List UInt8} (h : Reads w B 2 A n (bs.flatMap blC)) (hk : bs[k]? = some b) :
    ∃ ad : Addr, A = some ad ∧ ad.block < B ∧ w.cell? (ad.add (k * 2)) = some (.string (toB b.1)) ∧ w.cell? ⟨(ad.add (k * 2)).block, (ad.add (k * 2)).off + 1, none⟩ = some (.string (toB b.2)) := by
  have hl : bs.length = n := by have := h.1; rw [flat_len blC_len] at this; omega
  have hkl := (List.getElem?_eq_some_iff.1 hk).1
  obtain ⟨ad, e, hb, hc⟩ := h.2 (by omega)
  have f0 := flat_at blC_len bs k b 0 hk (by decide)
  have f1 := flat_at blC_len bs k b 1 hk (by decide)
  refine ⟨ad, e, hb, hc _ _ f0, ?_⟩
  have := hc _ _ f1; rwa [← add_of_add, add_one] at this
/-- What Read answers. -/
def ReadR (w : World) (base : Nat) (x : Option (List Rul)) (e : Ending) : Prop := match x with
  | none => e = .returned (.tuple #[.slice none 0 0, .int .i64 3])
  | some rs => ∃ v, e = .returned (.tuple #[v, .int .i64 0]) ∧ RuL w base v rs
set_option maxRecDepth 100000 in
set_option maxHeartbeats 16000000 in
/-- sheet.Read. -/
theorem read_any (l : List UInt8) (w : World) (hT : Val.Tabs w) :
    Calls Tryz.prog 11 #[.string (toB l)] w fun e w' => ReadR w' w.heap.size (readS l) e ∧ Below w.heap.size w w' := by
  by_cases hl : l.length ≤ 4000
  · have cs := strip_any (toB l) w hT.len (by rw [toB_size]; unfold mostB; omega)
    change Calls Tryz.prog 25 #[.string (toB l)] w (fun e w' => e = .returned (.string (toB (stripL l))) ∧ Below w.heap.size w w') at cs
    have hsl := strip_len l
    obtain ⟨R, hR⟩ : ∃ R, R = readS l := ⟨_, rfl⟩
    rw [← hR]
    unfold readS rulesF at hR
    generalize stripL l = m at *
    have cb := fun w hL => blocks_w (toB m) w hL (by rw [toB_size]; unfold mostB; omega)
    change ∀ w, Lens w → Calls Tryz.prog 24 #[.string (toB m)] w (fun e w' => ∃ A n c, e = .returned (.slice A n c) ∧ Reads w' w'.heap.size 2 A n ((blocksF m).flatMap blC) ∧ Below w.heap.size w w') at cb
    obtain ⟨hs1, hs2⟩ := blocks_small m
    have HTL : Hid (∀ x ∈ blocksF m, x.1.length ≤ 4000 ∧ x.2.length ≤ 4000) := fun x hx => ⟨by have := (hs2 x hx).1; omega, by have := (hs2 x hx).2; omega⟩
    have hM : (blocksF m).length ≤ 4000 := by omega
    generalize blocksF m = bs at *
    have HR : Hid (R = if (bs.filterMap ruleF).length ≤ 40 then some (bs.filterMap ruleF) else none) := by
      show _ = _
      rw [hR]
      by_cases h : (bs.filterMap ruleF).length ≤ 40
      · rw [if_pos h, if_pos ⟨hl, h⟩]
      · rw [if_neg h, if_neg (fun x => h x.2)]
    have hli : ¬ (4000 < ((toB l).size : Int)) := by rw [toB_size]; omega
    clear hR hs1 hs2
    go_enter Tryz.func11, Tryz.ntmps11
    go_wp2_with (first
      | (go_at_call 25; (with_reducible refine cs.mono ?_); rintro e w0 ⟨rfl, hb0⟩)
      | (go_at_call 24; (with_reducible refine (cb _ (lensT (hT.at_ hb0))).mono ?_); rintro e w1 ⟨A1, M, c1, rfl, hrt, hb1⟩))
    have hB0 := below_next hb0 hb1
    have hMl : bs.length = M := by have := hrt.1; rw [flat_len blC_len] at this; omega
    have hM5 : M ≤ 4000 := by omega
    have HM := Lib.hid hMl
    clear hMl hM cs cb hb0 hb1
    go_loopw [4, 16] (fun vp iv wr => ∃ (k : Nat) (rs : List Rul), k ≤ M ∧ iv = .int .i64 k ∧ Hid ((bs.take k).filterMap ruleF = rs) ∧ rs.length ≤ 40 ∧ RuL wr w1.heap.size vp rs ∧ Below w1.heap.size w1 wr) (fun _ iv _ => M - (intOf iv).toNat)
    case atStart => exact ⟨0, [], Nat.zero_le _, rfl, rfl, Nat.zero_le _, RuL.nil _ _, Below.refl _ _⟩
    case round =>
      obtain ⟨k, rs, hk, rfl, HA, hpl, hP, hB1⟩ := hrel
      have hBr := below_next hB0 hB1
      obtain ⟨Ap, cp, hvp⟩ := hP.form
      subst hvp
      generalize hn : rs.length = n at *
      by_cases hlt : k < M
      · obtain ⟨t, htk⟩ : ∃ t, bs[k]? = some t := ⟨_, List.getElem?_eq_getElem (by rw [HM.out]; exact hlt)⟩
        obtain ⟨htl1, htl2⟩ := HTL.out t (List.mem_of_getElem? htk)
        have hki : (k : Int) < (M : Int) := by omega
        obtain ⟨ad, hAd, zd, e0, e1⟩ := bl_of (hrt.below hB1) htk
        subst hAd
        have HT1 : Hid ((bs.take (k + 1)).filterMap ruleF = rs ++ (ruleF t).toList) := by
          show _ = _
          rw [List.take_add_one, htk, List.filterMap_append, HA.out]
          cases h : ruleF t with
          | none => simp [h]
          | some r => simp [h]
        obtain ⟨th, tb⟩ := t
        simp only at e0 e1 htl1 htl2
        have hrf : ruleF (th, tb) = match listP.go (splitF 44 th) with | none => none | some x => some ⟨x, declsF tb⟩ := rfl
        rw [hrf] at HT1
        clear hrf
        have Kb := Blk.new wr 76 #[.string (toB th), .string (toB tb)]
        have hBb := below_al (Below.refl wr.heap.size wr) (.cells #[.string (toB th), .string (toB tb)] 76)
        have cl := list_any th (by omega) (wr.alloc (.cells #[.string (toB th), .string (toB tb)] 76))
        obtain ⟨y0, y1⟩ := blk2 Kb
        clear HA htk
        cases hs : listP.go (splitF 44 th) with
        | none =>
          rw [hs] at cl HT1
          simp only [Option.toList_none, List.append_nil] at HT1
          go_wp2_with (go_at_call 26; (with_reducible refine cl.mono ?_); rintro e w4 ⟨hsr, hb4⟩; obtain rfl := hsr)
          have hB4 := below_next hBb hb4
          go_roundw
          case rel => exact ⟨k + 1, rs, by omega, by go_num, HT1, by omega, hP.next hB4, below_next hB1 hB4⟩
          case measure => simp [intOf]; omega
        | some xs =>
          rw [hs] at cl HT1
          simp only [Option.toList_some] at HT1
          by_cases h40 : n = 40
          · obtain rfl : R = none := by
              rw [HR.out, if_neg]
              have h1 := (List.Sublist.filterMap ruleF (List.take_sublist (k + 1) bs)).length_le
              rw [HT1.out, List.length_append, hn] at h1
              simp only [List.length_singleton] at h1
              omega
            subst h40
            clear HR HT1 hs
            go_wp2_with (go_at_call 26; (with_reducible refine cl.mono ?_); rintro e w4 ⟨⟨vi, rfl, hri⟩, hb4⟩)
            exact bodyPost_ret (v := .tuple #[.slice none 0 0, .int .i64 3]) (by simp [results, Tryz.results11, go_sem]) rfl ⟨rfl, below_next hBr (below_next hBb hb4)⟩
          · have hn40 : ¬ ((n : Int) = 40) := by omega
            have hnb : ((n : Int) == 40) = false := by rw [beq_eq_false_iff_ne]; exact hn40
            have cd := fun w0 (hb : Below wr.heap.size wr w0) => decls_any tb (by omega) w0 (hT.at_ (below_next hBr hb))
            clear hs hn40
            obtain ⟨cs0, hrow, hcl0, hall⟩ := hP
            generalize declsF tb = ds at *
            go_wp2_with (first
              | (go_at_call 26; (with_reducible refine cl.mono ?_); rintro e w4 ⟨⟨vi, rfl, hri⟩, hb4⟩
                 obtain ⟨Ai, ci, rfl⟩ := hri.form
                 generalize hni : xs.length = ni at *
                 have hB4 := below_next hBb hb4
                 obtain ⟨z0, z1⟩ := blk2 (Kb.next hb4))
              | (go_at_call 16; (with_reducible refine (cd _ hB4).mono ?_); rintro e w5 ⟨⟨vd, rfl, hrd⟩, hb5⟩
                 obtain ⟨Ad, dd, rfl⟩ := RowG.Row.form hrd
                 generalize hnd : ds.length = nd at *
                 have hB5 := below_next hB4 hb5
                 have hA5 : Below w5.heap.size w5 (w5.alloc (.cells #[.slice Ai ni ci, .slice Ad nd dd] 65)) := below_al (Below.refl _ _) _
                 have hA := below_al hB5 (.cells #[.slice Ai ni ci, .slice Ad nd dd] 65)
                 have hRU : RUm (w5.alloc (.cells #[.slice Ai ni ci, .slice Ad nd dd] 65)) w1.heap.size ⟨Ai, ni, ci, Ad, nd, dd⟩ ⟨xs, ds⟩ := ⟨((hri.less (by rw [size_al]; have := hB1.size; omega)).next hb5).next hA5, RowG.Row.below (row_less hrd (below_next hB1 hB4).size) hA5⟩
                 have hY := hrow.below hA
                 have hB6 := below_next hB1 hA
                 have hncl : ∀ (j : Nat) (u : Value), (rcC ⟨Ai, ni, ci, Ad, nd, dd⟩)[j]? = some u → (w5.alloc (.cells #[.slice Ai ni ci, .slice Ad nd dd] 65)).cell? ⟨w5.heap.size, j, none⟩ = some u := RowG.new_cells w5 65 (rcC ⟨Ai, ni, ci, Ad, nd, dd⟩))
              | (refine RowG.wpList_more _ (by rfl) _ _ 22 (by rfl) 65 rcC 2 48 _ info_rul Tryz.underlying22 rfl (by decide) rcC_len rcC_one w1.heap.size _ cs0 ⟨Ai, ni, ci, Ad, nd, dd⟩ (by rfl) w5.heap.size _ (by rfl) hY hncl (by simp only [maxLen]; omega) (by omega) hB6.size ?_
                 intro v7 w7 hrow7 hg7 ho7
                 have hk7 : ∀ (e : TypeId), 65 ≠ e → KT (w5.alloc (.cells #[.slice Ai ni ci, .slice Ad nd dd] 65)) w7 e := fun e he => KT.grown (e := e) hY hg7 he
                 have hP8 := RuL.more (fun i c q a b => (hall i c q a b).kt (.below hA _) (.below hA _) (.below hA _) (.below hA _) (.below hA _)) hcl0 hrow7 (hk7 _ (by decide)) (hk7 _ (by decide)) (hk7 _ (by decide)) (hk7 _ (by decide)) (hk7 _ (by decide)) hRU
                 have hB8 : Below w1.heap.size w1 w7 := hB6.grown hg7 hB6.size (fun j hj => (World.ownsRow.lt hY j hj).1)))
            go_roundw
            case rel => exact ⟨k + 1, rs ++ [Rul.mk xs ds], by omega, by go_num, HT1, by rw [List.length_append, hn]; simp only [List.length_singleton]; omega, hP8, hB8⟩
            case measure => simp [intOf]; omega
      · obtain rfl : k = M := by omega
        have hfin : R = some rs := by
          have h1 := HA.out
          rw [List.take_of_length_le (by rw [HM.out]; exact Nat.le_refl _)] at h1
          rw [HR.out, h1, if_pos (by omega)]
        clear HR HA
        go_wp2
        exact bodyPost_ret (v := .tuple #[.slice Ap n cp, .int .i64 0]) (by simp [results, Tryz.results11, go_sem]) rfl ⟨by rw [hfin]; exact ⟨_, rfl, hP.less hB0.size⟩, hBr⟩
  · have hR : readS l = none := by unfold readS; rw [if_neg (fun h => hl h.1)]
    rw [hR]
    have hli : 4000 < ((toB l).size : Int) := by rw [toB_size]; omega
    go_enter Tryz.func11, Tryz.ntmps11
    go_wp2
    exact bodyPost_ret (v := .tuple #[.slice none 0 0, .int .i64 3]) (by simp [results, Tryz.results11, go_sem]) rfl ⟨rfl, Below.refl _ _⟩
end Sht
end Go.Proofs.YtdfcahdipalmkaaGreatDoor
/- sheet's May. Conditions: lists are not too long. -/
namespace Go.Proofs.YtdfcahdipalmkaaGreatDoor
open Go.ChangeShapes Go.WideShapes Go.ChangeAt Go.RowKit Go.Shelf
namespace Sht
open Sel
open RowG (Row)
/-- A selector of no more than calls bear. -/
def SelB (x : Slr) : Prop := x.parts.length ≤ 1000000 ∧ x.close.length ≤ 1000000 ∧ Few x.parts ∧ ShX x.parts
def RulB (r : Rul) : Prop := r.sels.length ≤ 1000000 ∧ r.decls.length ≤ 1000000 ∧ ∀ x ∈ r.sels, SelB x
set_option maxRecDepth 100000 in
set_option maxHeartbeats 8000000 in
theorem notSel_any (x : Slr) (c : XC) (hx : SelB x) (w : World) (h : SlR w w.heap.size c x) :
    Calls Tryz.prog 75 #[.agg #[.slice c.A c.n c.c, .slice c.K c.m c.d]] w fun e w' => e = .returned (.bool (!maySlr x)) ∧ Below w.heap.size w w' := by
  have hn : c.n ≤ 1000000 := by have := h.1.len; have := hx.1; omega
  have hm : c.m ≤ 1000000 := by have := h.2.len; have := hx.2.1; omega
  have hB := below_al (Below.refl w.heap.size w) (.cells #[.slice c.A c.n c.c, .slice c.K c.m c.d] 68)
  have K := Blk.new w 68 #[.slice c.A c.n c.c, .slice c.K c.m c.d]
  have cm := Sel.may_any c.A c.K c.n c.c c.m c.d x hn hm hx.2.2.1 hx.2.2.2 _ (h.1.below hB hB.size) (h.2.below hB hB.size)
  clear h hx
  generalize maySlr x = R at *
  obtain ⟨A, n, b, K2, m, d⟩ := c
  simp only at cm hn hm hB K ⊢
  obtain ⟨x0, x1⟩ := blk2 K
  go_enter Tryz.func75, Tryz.ntmps75
  go_wp2_with (go_at_call 76; (with_reducible refine cm.mono ?_); rintro e w1 ⟨rfl, hb⟩)
  go_ret
  exact ⟨rfl, below_next hB hb⟩
set_option maxRecDepth 100000 in
set_option maxHeartbeats 8000000 in
theorem notDcl_any (d : Dcl) (w : World) :
    Calls Tryz.prog 78 #[.agg #[.int .i64 d.p, .int .i64 d.k, .int .i64 d.n, .bool d.s]] w fun e w' => e = .returned (.bool (!mayD d)) ∧ Below w.heap.size w w' := by
  obtain ⟨p, k, n, s⟩ := d
  simp only [mayD]
  have hB := below_al (Below.refl w.heap.size w) (.cells #[.int .i64 p, .int .i64 k, .int .i64 n, .bool s] 54)
  have K := Blk.new w 54 #[.int .i64 p, .int .i64 k, .int .i64 n, .bool s]
  have cm := Val.may_w p k n (w.alloc (.cells #[.int .i64 p, .int .i64 k, .int .i64 n, .bool s] 54))
  unfold vV at cm
  obtain ⟨x0, x1, x2, x3⟩ := blk4 K
  generalize mayP p k n = R at *
  go_enter Tryz.func78, Tryz.ntmps78
  go_wp2_with (go_at_call 79; (with_reducible refine cm.mono ?_); rintro e w1 ⟨rfl, hb⟩)
  go_ret
  exact ⟨rfl, below_next hB hb⟩
set_option maxHeartbeats 8000000 in
set_option maxRecDepth 100000 in
theorem indexS_any (A : Option Addr) (n c : Nat) (ps : List Slr) (w : World) (h : XsR w w.heap.size A n ps) (hn : n ≤ 1000000) (hl : ∀ x ∈ ps, SelB x) :
    Calls Tryz.prog 112 #[.slice A n c, .func (.func 75) #[] #[]] w fun e w' => (∃ r : Int, e = .returned (.int .i64 r) ∧ decide (0 ≤ r) = !ps.all maySlr) ∧ Below w.heap.size w w' := by
  have hlen := h.len
  obtain ⟨R, hR⟩ : ∃ R, R = !ps.all maySlr := ⟨_, rfl⟩
  rw [← hR]
  have HR := Lib.hid hR
  have HS := Lib.hid hl
  clear hR hl
  go_enter Tryz.func112, Tryz.ntmps112
  go_wp2
  go_loopw [8] (fun i wr => ∃ k : Nat, k ≤ n ∧ i = .int .i64 k ∧ Hid (∀ (j : Nat) (x : Slr), j < k → ps[j]? = some x → maySlr x = true) ∧ Below w.heap.size w wr) (fun i _ => n - (intOf i).toNat)
  case atStart => exact ⟨0, Nat.zero_le _, rfl, fun j x h => absurd h (by omega), Below.refl _ _⟩
  case round =>
    obtain ⟨k, hk, rfl, HK, hBr⟩ := hrel
    by_cases hlt : k < n
    · have hkl : k < ps.length := by omega
      obtain ⟨p, hp⟩ : ∃ p, ps[k]? = some p := ⟨ps[k], List.getElem?_eq_getElem hkl⟩
      obtain ⟨ad, q, rfl, hb1, e0, e1, r1⟩ := (h.below hBr (Nat.le_refl _)).at_ hp
      have c1 := notSel_any p q (HS.out p (List.mem_of_getElem? hp)) wr (r1.below (Below.refl _ wr) hBr.size)
      have hki : (k : Int) < (n : Int) := by omega
      have k0 : (0 : Int) ≤ (k : Int) := Int.natCast_nonneg _
      cases hm : maySlr p with
      | false =>
        obtain rfl : R = true := by
          rw [HR.out]
          have : ps.all maySlr = false := by rw [List.all_eq_false]; exact ⟨p, List.mem_of_getElem? hp, by rw [hm]; decide⟩
          rw [this]; rfl
        rw [hm] at c1
        clear hp hm HK
        go_wp2_with (go_at_call 75; (with_reducible refine c1.mono ?_); rintro e w1 ⟨rfl, hb⟩; have hB1 := below_next hBr hb)
        go_ret
        exact ⟨⟨_, rfl, decide_eq_true k0⟩, hB1⟩
      | true =>
        have HK' : Hid (∀ (j : Nat) (x : Slr), j < k + 1 → ps[j]? = some x → maySlr x = true) := by
          intro j x hj hx
          by_cases e : j = k
          · subst e
            rw [hp] at hx
            injection hx with hx
            subst hx
            exact hm
          · exact HK.out j x (by omega) hx
        rw [hm] at c1
        clear hp hm HK
        go_wp2_with (go_at_call 75; (with_reducible refine c1.mono ?_); rintro e w1 ⟨rfl, hb⟩; have hB1 := below_next hBr hb)
        go_roundw
        case rel => exact ⟨k + 1, by omega, by go_num, HK', hB1⟩
        case measure => simp [intOf]; omega
    · obtain rfl : k = n := by omega
      obtain rfl : R = false := by
        rw [HR.out]
        have : ps.all maySlr = true := by
          rw [List.all_eq_true]
          intro x hx
          obtain ⟨j, hj, e⟩ := List.getElem_of_mem hx
          exact HK.out j x (by omega) (by rw [List.getElem?_eq_getElem hj, e])
        rw [this]; rfl
      go_wp2
      go_ret
      exact ⟨⟨-1, rfl, rfl⟩, hBr⟩
set_option maxHeartbeats 4000000 in
set_option maxRecDepth 100000 in
theorem containsS_any (A : Option Addr) (n c : Nat) (ps : List Slr) (w : World) (h : XsR w w.heap.size A n ps) (hn : n ≤ 1000000) (hl : ∀ x ∈ ps, SelB x) :
    Calls Tryz.prog 74 #[.slice A n c, .func (.func 75) #[] #[]] w fun e w' => e = .returned (.bool (!ps.all maySlr)) ∧ Below w.heap.size w w' := by
  have c1 := indexS_any A n c ps w h hn hl
  generalize (!ps.all maySlr) = R at *
  clear h hl
  go_enter Tryz.func74, Tryz.ntmps74
  go_wp2_with (go_at_call 112; (with_reducible refine c1.mono ?_); rintro e w1 ⟨⟨r, rfl, hR⟩, hb⟩)
  go_ret
  exact ⟨rfl, hb⟩
set_option maxHeartbeats 8000000 in
set_option maxRecDepth 100000 in
theorem indexD_any (A : Option Addr) (n c : Nat) (ps : List Dcl) (w : World) (h : DcR w w.heap.size A n ps) (hn : n ≤ 1000000) (hl : ∀ x ∈ ps, True) :
    Calls Tryz.prog 116 #[.slice A n c, .func (.func 78) #[] #[]] w fun e w' => (∃ r : Int, e = .returned (.int .i64 r) ∧ decide (0 ≤ r) = !ps.all mayD) ∧ Below w.heap.size w w' := by
  have hlen := h.1
  obtain ⟨R, hR⟩ : ∃ R, R = !ps.all mayD := ⟨_, rfl⟩
  rw [← hR]
  have HR := Lib.hid hR
  have HS := Lib.hid hl
  clear hR hl
  go_enter Tryz.func116, Tryz.ntmps116
  go_wp2
  go_loopw [8] (fun i wr => ∃ k : Nat, k ≤ n ∧ i = .int .i64 k ∧ Hid (∀ (j : Nat) (x : Dcl), j < k → ps[j]? = some x → mayD x = true) ∧ Below w.heap.size w wr) (fun i _ => n - (intOf i).toNat)
  case atStart => exact ⟨0, Nat.zero_le _, rfl, fun j x h => absurd h (by omega), Below.refl _ _⟩
  case round =>
    obtain ⟨k, hk, rfl, HK, hBr⟩ := hrel
    by_cases hlt : k < n
    · have hkl : k < ps.length := by omega
      obtain ⟨p, hp⟩ : ∃ p, ps[k]? = some p := ⟨ps[k], List.getElem?_eq_getElem hkl⟩
      obtain ⟨ad, rfl, hb1, e0, e1, e2, e3⟩ := (h.below hBr (Nat.le_refl _)).at_ hp
      have c1 := notDcl_any p wr
      have hki : (k : Int) < (n : Int) := by omega
      have k0 : (0 : Int) ≤ (k : Int) := Int.natCast_nonneg _
      cases hm : mayD p with
      | false =>
        obtain rfl : R = true := by
          rw [HR.out]
          have : ps.all mayD = false := by rw [List.all_eq_false]; exact ⟨p, List.mem_of_getElem? hp, by rw [hm]; decide⟩
          rw [this]; rfl
        rw [hm] at c1
        clear hp hm HK
        go_wp2_with (go_at_call 78; (with_reducible refine c1.mono ?_); rintro e w1 ⟨rfl, hb⟩; have hB1 := below_next hBr hb)
        go_ret
        exact ⟨⟨_, rfl, decide_eq_true k0⟩, hB1⟩
      | true =>
        have HK' : Hid (∀ (j : Nat) (x : Dcl), j < k + 1 → ps[j]? = some x → mayD x = true) := by
          intro j x hj hx
          by_cases e : j = k
          · subst e
            rw [hp] at hx
            injection hx with hx
            subst hx
            exact hm
          · exact HK.out j x (by omega) hx
        rw [hm] at c1
        clear hp hm HK
        go_wp2_with (go_at_call 78; (with_reducible refine c1.mono ?_); rintro e w1 ⟨rfl, hb⟩; have hB1 := below_next hBr hb)
        go_roundw
        case rel => exact ⟨k + 1, by omega, by go_num, HK', hB1⟩
        case measure => simp [intOf]; omega
    · obtain rfl : k = n := by omega
      obtain rfl : R = false := by
        rw [HR.out]
        have : ps.all mayD = true := by
          rw [List.all_eq_true]
          intro x hx
          obtain ⟨j, hj, e⟩ := List.getElem_of_mem hx
          exact HK.out j x (by omega) (by rw [List.getElem?_eq_getElem hj, e])
        rw [this]; rfl
      go_wp2
      go_ret
      exact ⟨⟨-1, rfl, rfl⟩, hBr⟩
set_option maxHeartbeats 4000000 in
set_option maxRecDepth 100000 in
theorem containsD_any (A : Option Addr) (n c : Nat) (ps : List Dcl) (w : World) (h : DcR w w.heap.size A n ps) (hn : n ≤ 1000000) (hl : ∀ x ∈ ps, True) :
    Calls Tryz.prog 77 #[.slice A n c, .func (.func 78) #[] #[]] w fun e w' => e = .returned (.bool (!ps.all mayD)) ∧ Below w.heap.size w w' := by
  have c1 := indexD_any A n c ps w h hn hl
  generalize (!ps.all mayD) = R at *
  clear h hl
  go_enter Tryz.func77, Tryz.ntmps77
  go_wp2_with (go_at_call 116; (with_reducible refine c1.mono ?_); rintro e w1 ⟨⟨r, rfl, hR⟩, hb⟩)
  go_ret
  exact ⟨rfl, hb⟩
set_option maxRecDepth 100000 in
set_option maxHeartbeats 8000000 in
theorem mayRule_any (c : RC) (r : Rul) (hr : RulB r) (w : World) (h : RuR w w.heap.size c r) :
    Calls Tryz.prog 37 #[.agg #[.slice c.A c.n c.c, .slice c.K c.m c.d]] w fun e w' => e = .returned (.bool (mayR r)) ∧ Below w.heap.size w w' := by
  have hn := h.1.len
  have hm := h.2.1
  have hB := below_al (Below.refl w.heap.size w) (.cells #[.slice c.A c.n c.c, .slice c.K c.m c.d] 65)
  have K := Blk.new w 65 #[.slice c.A c.n c.c, .slice c.K c.m c.d]
  have c1 := containsS_any c.A c.n c.c r.sels _ (h.1.below hB hB.size) (by have := hr.1; omega) hr.2.2
  have c2 := fun W (hb : Below w.heap.size w W) => containsD_any c.K c.m c.d r.decls W (h.2.below hb hb.size) (by have := hr.2.1; omega) (fun _ _ => trivial)
  have hR : mayR r = (decide (1 ≤ c.n) && decide (c.n ≤ 20) && decide (c.m ≤ 60) && r.sels.all maySlr && r.decls.all mayD) := by unfold mayR; rw [hn, hm]
  rw [hR]
  clear hR hn hm h hr
  generalize r.sels.all maySlr = R1 at *
  generalize r.decls.all mayD = R2 at *
  obtain ⟨A, n, b, K2, m, d⟩ := c
  simp only at *
  obtain ⟨x0, x1⟩ := blk2 K
  go_enter Tryz.func37, Tryz.ntmps37
  by_cases g1 : 1 ≤ n
  · by_cases g2 : n ≤ 20
    · by_cases g3 : m ≤ 60
      · rw [decide_eq_true g1, decide_eq_true g2, decide_eq_true g3]
        cases R1 with
        | false =>
          go_wp2_with (go_at_call 74; (with_reducible refine c1.mono ?_); rintro e w1 ⟨rfl, hb⟩)
          go_ret
          exact ⟨by cases R2 <;> rfl, below_next hB hb⟩
        | true =>
          go_wp2_with (first
            | (go_at_call 74; (with_reducible refine c1.mono ?_); rintro e w1 ⟨rfl, hb⟩
               have hB1 := below_next hB hb
               have c21 := c2 w1 hB1
               have z1 := (K.next hb).cell 1
               simp only [List.getElem?_toArray, List.getElem?_cons_zero, List.getElem?_cons_succ] at z1)
            | (go_at_call 77; (with_reducible refine c21.mono ?_); rintro e w2 ⟨rfl, hb2⟩))
          go_ret
          exact ⟨by cases R2 <;> rfl, below_next hB1 hb2⟩
      · rw [decide_eq_false g3]
        go_wp2
        go_ret
        exact ⟨by simp, hB⟩
    · rw [decide_eq_false g2]
      go_wp2
      go_ret
      exact ⟨by simp, hB⟩
  · rw [decide_eq_false g1]
    go_wp2
    go_ret
    exact ⟨by simp, hB⟩
set_option maxRecDepth 100000 in
set_option maxHeartbeats 8000000 in
theorem notRule_any (r : Rul) (c : RC) (hr : RulB r) (w : World) (h : RuR w w.heap.size c r) :
    Calls Tryz.prog 36 #[.agg #[.slice c.A c.n c.c, .slice c.K c.m c.d]] w fun e w' => e = .returned (.bool (!mayR r)) ∧ Below w.heap.size w w' := by
  have hB := below_al (Below.refl w.heap.size w) (.cells #[.slice c.A c.n c.c, .slice c.K c.m c.d] 65)
  have K := Blk.new w 65 #[.slice c.A c.n c.c, .slice c.K c.m c.d]
  have cm := mayRule_any c r hr _ (h.below hB hB.size)
  clear h hr
  generalize mayR r = R at *
  obtain ⟨A, n, b, K2, m, d⟩ := c
  simp only at cm hB K ⊢
  obtain ⟨x0, x1⟩ := blk2 K
  go_enter Tryz.func36, Tryz.ntmps36
  go_wp2_with (go_at_call 37; (with_reducible refine cm.mono ?_); rintro e w1 ⟨rfl, hb⟩)
  go_ret
  exact ⟨rfl, below_next hB hb⟩
set_option maxHeartbeats 8000000 in
set_option maxRecDepth 100000 in
theorem indexR_any (A : Option Addr) (n c : Nat) (ps : List Rul) (w : World) (h : RsR w w.heap.size A n ps) (hn : n ≤ 1000000) (hl : ∀ x ∈ ps, RulB x) :
    Calls Tryz.prog 73 #[.slice A n c, .func (.func 36) #[] #[]] w fun e w' => (∃ r : Int, e = .returned (.int .i64 r) ∧ decide (0 ≤ r) = !ps.all mayR) ∧ Below w.heap.size w w' := by
  have hlen := h.len
  obtain ⟨R, hR⟩ : ∃ R, R = !ps.all mayR := ⟨_, rfl⟩
  rw [← hR]
  have HR := Lib.hid hR
  have HS := Lib.hid hl
  clear hR hl
  go_enter Tryz.func73, Tryz.ntmps73
  go_wp2
  go_loopw [8] (fun i wr => ∃ k : Nat, k ≤ n ∧ i = .int .i64 k ∧ Hid (∀ (j : Nat) (x : Rul), j < k → ps[j]? = some x → mayR x = true) ∧ Below w.heap.size w wr) (fun i _ => n - (intOf i).toNat)
  case atStart => exact ⟨0, Nat.zero_le _, rfl, fun j x h => absurd h (by omega), Below.refl _ _⟩
  case round =>
    obtain ⟨k, hk, rfl, HK, hBr⟩ := hrel
    by_cases hlt : k < n
    · have hkl : k < ps.length := by omega
      obtain ⟨p, hp⟩ : ∃ p, ps[k]? = some p := ⟨ps[k], List.getElem?_eq_getElem hkl⟩
      obtain ⟨ad, q, rfl, hb1, e0, e1, r1⟩ := (h.below hBr (Nat.le_refl _)).at_ hp
      have c1 := notRule_any p q (HS.out p (List.mem_of_getElem? hp)) wr (r1.below (Below.refl _ wr) hBr.size)
      have hki : (k : Int) < (n : Int) := by omega
      have k0 : (0 : Int) ≤ (k : Int) := Int.natCast_nonneg _
      cases hm : mayR p with
      | false =>
        obtain rfl : R = true := by
          rw [HR.out]
          have : ps.all mayR = false := by rw [List.all_eq_false]; exact ⟨p, List.mem_of_getElem? hp, by rw [hm]; decide⟩
          rw [this]; rfl
        rw [hm] at c1
        clear hp hm HK
        go_wp2_with (go_at_call 36; (with_reducible refine c1.mono ?_); rintro e w1 ⟨rfl, hb⟩; have hB1 := below_next hBr hb)
        go_ret
        exact ⟨⟨_, rfl, decide_eq_true k0⟩, hB1⟩
      | true =>
        have HK' : Hid (∀ (j : Nat) (x : Rul), j < k + 1 → ps[j]? = some x → mayR x = true) := by
          intro j x hj hx
          by_cases e : j = k
          · subst e
            rw [hp] at hx
            injection hx with hx
            subst hx
            exact hm
          · exact HK.out j x (by omega) hx
        rw [hm] at c1
        clear hp hm HK
        go_wp2_with (go_at_call 36; (with_reducible refine c1.mono ?_); rintro e w1 ⟨rfl, hb⟩; have hB1 := below_next hBr hb)
        go_roundw
        case rel => exact ⟨k + 1, by omega, by go_num, HK', hB1⟩
        case measure => simp [intOf]; omega
    · obtain rfl : k = n := by omega
      obtain rfl : R = false := by
        rw [HR.out]
        have : ps.all mayR = true := by
          rw [List.all_eq_true]
          intro x hx
          obtain ⟨j, hj, e⟩ := List.getElem_of_mem hx
          exact HK.out j x (by omega) (by rw [List.getElem?_eq_getElem hj, e])
        rw [this]; rfl
      go_wp2
      go_ret
      exact ⟨⟨-1, rfl, rfl⟩, hBr⟩
set_option maxHeartbeats 4000000 in
set_option maxRecDepth 100000 in
theorem containsR_any (A : Option Addr) (n c : Nat) (ps : List Rul) (w : World) (h : RsR w w.heap.size A n ps) (hn : n ≤ 1000000) (hl : ∀ x ∈ ps, RulB x) :
    Calls Tryz.prog 35 #[.slice A n c, .func (.func 36) #[] #[]] w fun e w' => e = .returned (.bool (!ps.all mayR)) ∧ Below w.heap.size w w' := by
  have c1 := indexR_any A n c ps w h hn hl
  generalize (!ps.all mayR) = R at *
  clear h hl
  go_enter Tryz.func35, Tryz.ntmps35
  go_wp2_with (go_at_call 73; (with_reducible refine c1.mono ?_); rintro e w1 ⟨⟨r, rfl, hR⟩, hb⟩)
  go_ret
  exact ⟨rfl, hb⟩
set_option maxRecDepth 100000 in
set_option maxHeartbeats 8000000 in
/-- sheet.May. -/
theorem may_any (A : Option Addr) (n c : Nat) (rs : List Rul) (hn : n ≤ 1000000) (hr : ∀ r ∈ rs, RulB r) (w : World) (h : RsR w w.heap.size A n rs) :
    Calls Tryz.prog 18 #[.slice A n c] w fun e w' => e = .returned (.bool (mayS rs)) ∧ Below w.heap.size w w' := by
  have hl := h.len
  have cc := containsR_any A n c rs w h hn hr
  have hR : mayS rs = (decide (n ≤ 40) && rs.all mayR) := by unfold mayS; rw [hl]
  rw [hR]
  clear hR hl h hr
  generalize rs.all mayR = R at *
  go_enter Tryz.func18, Tryz.ntmps18
  by_cases g1 : n ≤ 40
  · rw [decide_eq_true g1]
    go_wp2_with (go_at_call 35; (with_reducible refine cc.mono ?_); rintro e w1 ⟨rfl, hb⟩)
    go_ret
    exact ⟨by cases R <;> rfl, hb⟩
  · rw [decide_eq_false g1]
    go_wp2
    go_ret
    exact ⟨rfl, Below.refl _ _⟩
end Sht
end Go.Proofs.YtdfcahdipalmkaaGreatDoor
/- printDecl. Conditions: the tables are laid. -/
namespace Go.Proofs.YtdfcahdipalmkaaGreatDoor
open Go.ChangeShapes Go.WideShapes Go.ChangeAt Go.RowKit Go.Shelf
namespace Sht
open Sel
open RowG (Row)
theorem name_len_fin : ∀ p : Fin 27, (nameP p.val).length ≤ 30 := by decide +kernel
theorem name_len (p : Int) : (nameP p).length ≤ 30 := by
  by_cases h : 1 ≤ p ∧ p ≤ 26
  · have := name_len_fin ⟨p.toNat, by omega⟩
    rw [show ((⟨p.toNat, by omega⟩ : Fin 27).val : Int) = p by simp only; omega] at this
    exact this
  · rw [name_else (by omega)]
    exact Nat.zero_le _
set_option maxRecDepth 100000 in
set_option maxHeartbeats 16000000 in
theorem printDecl_any (d : Dcl) (w : World) (hT : Val.Tabs w) :
    Calls Tryz.prog 89 #[.agg #[.int .i64 d.p, .int .i64 d.k, .int .i64 d.n, .bool d.s]] w fun e w' => e = .returned (.string (toB (printD d))) ∧ Below w.heap.size w w' := by
  obtain ⟨p, k, n, s⟩ := d
  simp only
  have hB := below_al (Below.refl w.heap.size w) (.cells #[.int .i64 p, .int .i64 k, .int .i64 n, .bool s] 54)
  have K := Blk.new w 54 #[.int .i64 p, .int .i64 k, .int .i64 n, .bool s]
  have zK := K.lt
  have hTA := hT.at_ hB
  have cN := fun w => Val.name_any p w
  have cP := fun w hT => Val.print_w p k n w hT
  unfold vV at cP
  have l1 := name_len p
  have l2 := print_len p k n
  obtain ⟨R, hR⟩ : ∃ R, R = toB (printD ⟨p, k, n, s⟩) := ⟨_, rfl⟩
  rw [← hR]
  unfold printD at hR
  simp only at hR
  have HR := Lib.hid hR
  clear hR hT
  obtain ⟨N, hN⟩ : ∃ N, N = nameP p := ⟨_, rfl⟩
  obtain ⟨T, hT2⟩ : ∃ T, T = printP p k n := ⟨_, rfl⟩
  rw [← hN] at cN l1 HR
  rw [← hT2] at cP l2 HR
  clear hN hT2
  have t1 : ¬ 9223372036854775807 < (toB N).size + 2 := by rw [toB_size]; omega
  have t2 : ¬ 9223372036854775807 < (toB N).size + 2 + (toB T).size := by rw [toB_size, toB_size]; omega
  have t3 : ¬ 9223372036854775807 < (toB N).size + 2 + (toB T).size + 11 := by rw [toB_size, toB_size]; omega
  go_enter Tryz.func89, Tryz.ntmps89
  go_upto_region 1 with (fail)
  generalize hg : w.heap.size = g at *
  have HG := Lib.hid hg
  clear hg
  generalize (w.alloc (.cells #[.int .i64 p, .int .i64 k, .int .i64 n, .bool s] 54)) = wE at *
  have kS : ∀ W', Below wE.heap.size wE W' → W'.cell? ⟨g, 0, none⟩ = some (.int .i64 p) ∧ W'.cell? ⟨g, 1, none⟩ = some (.int .i64 k) ∧ W'.cell? ⟨g, 2, none⟩ = some (.int .i64 n) ∧ W'.cell? ⟨g, 3, none⟩ = some (.bool s) := fun W' h => blk4 (K.below h zK)
  go_region_held3 (fun W' => W'.cell? ⟨g, 0, none⟩ = some (.int .i64 p) ∧ W'.cell? ⟨g, 1, none⟩ = some (.int .i64 k) ∧ W'.cell? ⟨g, 2, none⟩ = some (.int .i64 n) ∧ W'.cell? ⟨g, 3, none⟩ = some (.bool s))
    (first | (with_reducible assumption) | (refine kS _ ?_; repeat (first | (with_reducible assumption) | (with_reducible exact Below.refl _ _) | (with_reducible refine Below.drew ?_) | (with_reducible refine below_al ?_ _))))
    (first
      | (go_at_call 125; (with_reducible refine (cN wE.drew).mono ?_); rintro e w1 ⟨rfl, hb1⟩
         have S1 := below_next (Below.refl _ wE).drew hb1)
      | (go_at_call 126; (with_reducible refine (cP _ (hTA.at_ S1)).mono ?_); rintro e w2 ⟨rfl, hb2⟩
         have S2 := below_next S1 hb2)
      | (go_at_call 126; (with_reducible refine (cP wE.drew (hTA.at_ (Below.refl _ wE).drew)).mono ?_); rintro e w1 ⟨rfl, hb1⟩
         have S1 := below_next (Below.refl _ wE).drew hb1)
      | (go_at_call 125; (with_reducible refine (cN _).mono ?_); rintro e w2 ⟨rfl, hb2⟩
         have S2 := below_next S1 hb2))
  have x3 := (kS w2 S2).2.2.2
  have hB2 := hB.trans (S2.mono (Nat.le_of_lt zK))
  cases s with
  | false =>
    have hfin : toB N ++ ⟨#[58, 32]⟩ ++ toB T = R := by
      rw [HR.out, if_neg (by decide), List.append_nil]
      show toB N ++ toB [58, 32] ++ toB T = toB (N ++ ([58, 32] ++ T))
      rw [toB_cat, toB_cat, List.append_assoc]
    go_wp2
    go_ret
    exact ⟨by rw [← hfin]; rfl, by rw [HG.out]; exact hB2⟩
  | true =>
    have hfin : toB N ++ ⟨#[58, 32]⟩ ++ toB T ++ ⟨#[32, 33, 105, 109, 112, 111, 114, 116, 97, 110, 116]⟩ = R := by
      rw [HR.out, if_pos rfl]
      show toB N ++ toB [58, 32] ++ toB T ++ toB (32 :: strongT) = toB (N ++ ([58, 32] ++ T) ++ 32 :: strongT)
      rw [toB_cat, toB_cat, toB_cat, List.append_assoc N]
    go_wp2
    go_ret
    exact ⟨by rw [← hfin]; rfl, by rw [HG.out]; exact hB2⟩
theorem printD_len (d : Dcl) : (printD d).length ≤ 63 := by
  unfold printD
  have l1 := name_len d.p
  have l2 := print_len d.p d.k d.n
  have l3 : (if d.s then 32 :: strongT else ([] : List UInt8)).length ≤ 11 := by split <;> simp [strongT]
  simp only [List.length_append, List.length_cons]
  omega
end Sht
end Go.Proofs.YtdfcahdipalmkaaGreatDoor
/- printRule. Conditions: the rule may be; the tables are laid. -/
namespace Go.Proofs.YtdfcahdipalmkaaGreatDoor
open Go.ChangeShapes Go.WideShapes Go.ChangeAt Go.RowKit Go.Shelf
namespace Sht
open Sel
open RowG (Row)
theorem write_m (g : Nat) (l : List UInt8) (s : ByteArray) (w : World) (h : BldS w g g l) (hlen : l.length + s.size ≤ 100000000) (hg : g ≤ w.heap.size) :
    Calls Tryz.prog 40 #[.pointer (some ⟨g, 0, none⟩), .string s] w fun e w' => e = .returned (.tuple #[.int .i64 s.size, .nilIface]) ∧ BldS w' g g (l ++ s.data.toList) ∧ Below g w w' ∧ Lib.OthersKept 5 (some g) w w' :=
  (Any.Builder_WriteString_k Tryz.lays166 Tryz.Builder_Extra_B g g (Lib.byteCells l) s w h (by rw [Lib.byteCells_length]; omega) hg).mono (by
    rintro e w' ⟨h1, h2, h3, h4⟩
    exact ⟨h1, Or.inr (by rw [Lib.byteCells_append]; exact h2), h3, h4⟩)
theorem sel_bound {x : Slr} (h : maySlr x = true) : SelB x := by
  obtain ⟨h1, h2, h3, h4⟩ := may_few h
  exact ⟨by omega, by omega, h3, h4⟩
theorem printSel_le (x : Slr) : (Sel.printP x).length ≤ 2480 := by
  unfold Sel.printP
  split
  · rename_i h
    obtain ⟨y1, y2, y3, y4⟩ := maySlr_of h
    have := text_len y4 y3 x.parts.length (Nat.le_refl _)
    rw [List.take_length] at this
    omega
  · exact Nat.zero_le _
theorem join_is : ∀ xs : List (List UInt8), joinT xs = Lib.join xs [44, 32]
  | [] => rfl
  | [x] => by rw [joinT_one]; simp [Lib.join]
  | x :: y :: ys => by
    rw [joinT_two, join_is (y :: ys)]
    simp [Lib.join, List.intercalate, List.intersperse]
theorem joinT_le : ∀ (xs : List (List UInt8)) (n : Nat), (∀ x ∈ xs, x.length ≤ n) → (joinT xs).length ≤ (n + 2) * xs.length
  | [], n, _ => Nat.zero_le _
  | [x], n, h => by rw [joinT_one]; have := h x List.mem_cons_self; simp; omega
  | x :: y :: ys, n, h => by
    have h1 := h x List.mem_cons_self
    have h2 := joinT_le (y :: ys) n (fun z hz => h z (List.mem_cons_of_mem _ hz))
    rw [joinT_two]
    simp only [List.length_append, List.length_cons] at h2 ⊢
    rw [Nat.mul_add (n + 2) (ys.length + 1) 1]
    omega
theorem heads_le (xs : List Slr) : (headsL xs).length ≤ 2482 * xs.length := by
  unfold headsL
  have := joinT_le (xs.map Sel.printP) 2480 (fun x hx => by
    obtain ⟨y, -, rfl⟩ := List.mem_map.1 hx
    exact printSel_le y)
  rw [List.length_map] at this
  exact this
theorem body_le : ∀ ds : List Dcl, (bodyL ds).length ≤ 65 * ds.length
  | [] => Nat.le_refl _
  | d :: ds => by
    have h1 := printD_len d
    have h2 := body_le ds
    have e : bodyL (d :: ds) = (32 :: (printD d ++ [59])) ++ bodyL ds := by unfold bodyL; rw [List.map_cons, List.flatten_cons]
    rw [e]
    simp only [List.length_append, List.length_cons, List.length_nil]
    omega
theorem body_snoc {ds : List Dcl} {k : Nat} {d : Dcl} (h : ds[k]? = some d) : bodyL (ds.take (k + 1)) = bodyL (ds.take k) ++ (32 :: (printD d ++ [59])) := by
  unfold bodyL
  rw [List.take_add_one, h, List.map_append, List.flatten_append]
  simp
theorem join_any (ts : List (List UInt8)) (n c g B : Nat) (W : World) (hr : Reads W B 1 (some ⟨g, 0, none⟩) n (strs ts)) (hg : g < W.heap.size) (hc : n ≤ c) (hl : (joinT ts).length ≤ 1000000) (h0 : 1 ≤ n) (h9 : n ≤ 1000000) :
    Calls Tryz.prog 88 #[.slice (some ⟨g, 0, none⟩) n c, .string ⟨#[44, 32]⟩] W fun e w' => e = .returned (.string (toB (joinT ts))) ∧ Below W.heap.size W w' := by
  have hn : ts.length = n := by have := hr.1; rw [strs_len'] at this; omega
  obtain ⟨ad, he, -, hcl⟩ := hr.2 (by omega)
  injection he with he
  subst he
  have hmap : (ts.map toB).map (·.data.toList) = ts := by
    rw [List.map_map]
    exact (List.map_congr_left (fun _ _ => rfl)).trans (List.map_id ts)
  have h := Tryz.strings_Join g 0 c (ts.map toB) ⟨#[44, 32]⟩ W (fun j x hx => by
    rw [List.getElem?_map] at hx
    cases ht : ts[j]? with
    | none => rw [ht] at hx; cases hx
    | some t =>
      rw [ht] at hx
      injection hx with hx
      subst hx
      have := hcl j (.string (toB t)) (by unfold strs; rw [List.getElem?_map, ht]; rfl)
      by_cases hj : j = 0
      · subst hj; simpa [Addr.add] using this
      · simpa [Addr.add, hj] using this) hg (by rw [List.length_map]; omega) (by rw [List.length_map]; omega) (by rw [hmap]; show (Lib.join ts [44, 32]).length ≤ _; rw [← join_is]; omega)
  rw [List.length_map, hn, hmap] at h
  rw [join_is]
  exact h
theorem write_t (g : Nat) (acc t : List UInt8) (s : ByteArray) (hs : s = toB t) (hl : acc.length + t.length ≤ 100000000) (W : World) (h : BldS W g g acc) (hz : g ≤ W.heap.size) :
    Calls Tryz.prog 40 #[.pointer (some ⟨g, 0, none⟩), .string s] W fun e w' => e = .returned (.tuple #[.int .i64 s.size, .nilIface]) ∧ BldS w' g g (acc ++ t) ∧ Below g W w' := by
  subst hs
  refine (write_m g acc (toB t) W h (by rw [toB_size]; exact hl) hz).mono ?_
  rintro e w' ⟨h1, h2, h3, -⟩
  exact ⟨h1, h2, h3⟩
theorem js_open (js : List UInt8) : toB js ++ ⟨#[32, 123]⟩ = toB (js ++ [32, 123]) := toB_cat js [32, 123]
theorem js_decl (pd : List UInt8) : (⟨#[32]⟩ : ByteArray) ++ toB pd ++ ⟨#[59]⟩ = toB (32 :: (pd ++ [59])) := by
  show toB [32] ++ toB pd ++ toB [59] = _
  rw [toB_cat, toB_cat]
  rfl
set_option maxRecDepth 100000 in
set_option maxHeartbeats 16000000 in
theorem printRule_any (c : RC) (r : Rul) (hm : mayR r = true) (w : World) (hT : Val.Tabs w) (h : RuR w w.heap.size c r) :
    Calls Tryz.prog 41 #[.agg #[.slice c.A c.n c.c, .slice c.K c.m c.d]] w fun e w' => e = .returned (.string (toB (printR r))) ∧ Below w.heap.size w w' := by
  have hn := h.1.len
  have hmm := h.2.1
  have hB := below_al (Below.refl w.heap.size w) (.cells #[.slice c.A c.n c.c, .slice c.K c.m c.d] 65)
  have K := Blk.new w 65 #[.slice c.A c.n c.c, .slice c.K c.m c.d]
  unfold mayR at hm
  simp only [Bool.and_eq_true, decide_eq_true_eq] at hm
  obtain ⟨⟨⟨⟨m1, m2⟩, m3⟩, m4⟩, m5⟩ := hm
  rw [hn] at m1 m2
  rw [hmm] at m3
  obtain ⟨xs, ds⟩ := r
  obtain ⟨A, n, b, K2, m, d⟩ := c
  simp only at *
  obtain ⟨R, hR⟩ : ∃ R, R = toB (printR ⟨xs, ds⟩) := ⟨_, rfl⟩
  rw [← hR]
  unfold printR at hR
  simp only at hR
  have HR := Lib.hid hR
  have HL := Lib.hid hn
  have HD := Lib.hid hmm
  have HM := Lib.hid m4
  obtain ⟨hX, hY⟩ := h
  obtain ⟨x0, x1⟩ := blk2 K
  clear hR hn hmm m4 m5
  go_enter Tryz.func41, Tryz.ntmps41
  go_wp2
  have hTA := hT.at_ hB
  have hXA := hX.below hB hB.size
  have hYA := hY.below hB hB.size
  have zK := K.lt
  clear hX hY hT
  generalize hg : w.heap.size = g at *
  have HG := Lib.hid hg
  clear hg
  generalize (w.alloc (.cells #[.slice A n b, .slice K2 m d] 65)) = wA at *
  go_loopw [3, 12] (fun vp iv wr => ∃ (k : Nat) (ts : List (List UInt8)), k ≤ n ∧ iv = .int .i64 k ∧ Hid (ts = (xs.take k).map Sel.printP) ∧ ts.length = k ∧ Txs wr wA.heap.size vp ts ∧ Below wA.heap.size wA wr) (fun _ iv _ => n - (intOf iv).toNat)
  case atStart => exact ⟨0, [], Nat.zero_le _, rfl, rfl, rfl, World.ownsRow_nil _ _ _ _, Below.refl _ _⟩
  case round =>
    obtain ⟨k, ts, hk, rfl, HA, hpl, hP, hB1⟩ := hrel
    have hBr := hB.trans (hB1.mono (Nat.le_of_lt zK))
    obtain ⟨Ap, cp', hvp⟩ := own_form' hP
    rw [hpl] at hvp
    subst hvp
    by_cases hlt : k < n
    · obtain ⟨x, hx⟩ : ∃ x, xs[k]? = some x := ⟨_, List.getElem?_eq_getElem (by rw [HL.out]; exact hlt)⟩
      have hmx : maySlr x = true := List.all_eq_true.1 HM.out x (List.mem_of_getElem? hx)
      obtain ⟨ad, q, rfl, zd, e0, e1, r1⟩ := (hXA.below hB1 (Nat.le_refl _)).at_ hx
      have sb := sel_bound hmx
      have hki : (k : Int) < (n : Int) := by omega
      have hk0 : (0 : Int) ≤ (k : Int) := Int.natCast_nonneg _
      obtain ⟨qA, qn, qc, qK, qm, qd⟩ := q
      simp only at e0 e1
      have Kx := Blk.new wr 68 #[.slice qA qn qc, .slice qK qm qd]
      have hBx := below_al (Below.refl wr.heap.size wr) (.cells #[.slice qA qn qc, .slice qK qm qd] 68)
      have r2 := r1.below (hBx.mono hB1.size) (Nat.le_trans hB1.size hBx.size)
      have cp := Sel.print_any qA qK qn qc qm qd x (by have e3 : x.parts.length = qn := r1.1.len; have := sb.1; omega) (by have e3 : x.close.length = qm := r1.2.len; have := sb.2.1; omega) sb.2.2.1 sb.2.2.2 _ r2.1 r2.2
      obtain ⟨y0, y1⟩ := blk2 Kx
      have HN : Hid (ts ++ [Sel.printP x] = (xs.take (k + 1)).map Sel.printP) := by
        show _ = _
        rw [List.take_add_one, hx, List.map_append, ← HA.out]
        rfl
      clear HA hx hmx
      generalize Sel.printP x = t at *
      go_wp2_with (first
        | (go_at_call 87; (with_reducible refine cp.mono ?_); rintro e w4 ⟨rfl, hb4⟩
           have hB4 := below_next hBx hb4
           have hY4 : Txs w4 wA.heap.size (.slice Ap k cp') ts := own_below hP hB4
           have hB5 := below_next hB1 hB4)
        | (refine wpList_textU w4 rfl (.tmp 16) (.tmp 19) rfl wA.heap.size _ ts t _ (Lib.hid rfl) _ rfl hY4 rfl (by omega) hB5.size ?_; intro v' w' hY' hg'
           have hB8 : Below wA.heap.size wA w' := (below_al hB5 _).grown hg' (below_al hB5 _).size (fun j hj => (World.ownsRow.lt hY4 j hj).1)))
      go_roundw
      case rel => exact ⟨k + 1, ts ++ [t], by omega, by go_num, HN, by rw [List.length_append, hpl]; rfl, hY', hB8⟩
      case measure => simp [intOf]; omega
    · obtain rfl : k = n := by omega
      have HJ : Hid (headsL xs = joinT ts) := by
        show _ = _
        rw [HA.out, List.take_of_length_le (by rw [HL.out]; exact Nat.le_refl _)]
        rfl
      have hjl : (joinT ts).length ≤ 50000 := by
        rw [← HJ.out]
        have := heads_le xs
        have h20 := HL.out
        omega
      obtain ⟨gs, hgs, hAp⟩ : ∃ gs, gs < wr.heap.size ∧ Ap = some ⟨gs, 0, none⟩ := by
        rcases hP.2 with ⟨h, h0⟩ | ⟨gs, cap, cur, h, h1, h2, -⟩
        · omega
        · injection h with h
          refine ⟨gs, ?_, h⟩
          rcases Nat.lt_or_ge gs wr.heap.size with hlt | hge
          · exact hlt
          · rw [Array.getElem?_eq_none hge] at h2; cases h2
      have hcap : k ≤ cp' := by
        rcases hP.2 with ⟨h, h0⟩ | ⟨gs', cap, cur, h, h1, h2, h3, -⟩
        · omega
        · injection h with _ _ h5
          rw [h5, ← hpl]
          exact h3
      subst hAp
      have hrT : Reads wr wr.heap.size 1 (some ⟨gs, 0, none⟩) k (strs ts) := by
        have h := hP
        unfold Txs at h
        rw [hpl] at h
        exact Reads.of_own h
      have hT1 := hTA.at_ hB1
      have hK1 := K.below hB1 zK
      have hY1 := hYA.below hB1 hB1.size
      have zg : g < wr.heap.size := by have := hB1.size; omega
      clear HA
      have hF0 : BldS (wr.alloc (.cells #[.pointer none, .slice none 0 0] 93)) wr.heap.size wr.heap.size [] := Lib.IsBuilderF.of (Lib.fresh_isBuilder 93 5 wr)
      have hA0 := below_al (Below.refl wr.heap.size wr) (.cells #[.pointer none, .slice none 0 0] 93)
      have cj := join_any ts k cp' gs wr.heap.size (wr.alloc (.cells #[.pointer none, .slice none 0 0] 93)) (hrT.below hA0) (by rw [size_al]; omega) hcap (by omega) m1 (by omega)
      have cw := write_t wr.heap.size [] (joinT ts ++ [32, 123]) _ (js_open (joinT ts)) (by simp only [List.length_append, List.length_cons, List.length_nil]; omega)
      rw [List.nil_append] at cw
      have tj : ¬ 9223372036854775807 < (toB (joinT ts)).size + 2 := by rw [toB_size]; omega
      have hK0 := hK1.below hA0 zg
      go_wp2_with (first
        | (go_at_call 88; (with_reducible refine cj.mono ?_); rintro e w5 ⟨rfl, hb5⟩
           have hB5 := below_next hA0 hb5
           have hF5 := hF0.next hb5)
        | (go_at_call 40; (with_reducible refine (cw _ hF5 hB5.size).mono ?_); rintro e w6 ⟨rfl, hF6, hb6⟩
           have hB6 := hB5.trans hb6
           obtain ⟨u0, u1⟩ := blk2 (hK1.below hB6 zg)))
      clear cj cw
      generalize joinT ts = js at *
      generalize wr = wq at *
      go_loopw [29] (fun iv wr => ∃ (q : Nat) (acc : List UInt8), q ≤ m ∧ iv = .int .i64 q ∧ Hid (acc = (js ++ [32, 123]) ++ bodyL (ds.take q)) ∧ BldS wr wq.heap.size wq.heap.size acc ∧ Below wq.heap.size wq wr) (fun iv _ => m - (intOf iv).toNat)
      case atStart => exact ⟨0, _, Nat.zero_le _, rfl, by show _ = _; rw [List.take_zero]; show _ = _ ++ []; rw [List.append_nil], hF6, hB6⟩
      case round =>
        obtain ⟨q, acc, hq, rfl, HA, hI, hBx⟩ := hrel
        have hacc : acc.length ≤ 60000 := by
          rw [HA.out]
          have := body_le (ds.take q)
          have h2 : (ds.take q).length ≤ q := by rw [List.length_take]; omega
          simp only [List.length_append, List.length_cons, List.length_nil]
          omega
        by_cases hlq : q < m
        · obtain ⟨dd, hdd⟩ : ∃ dd, ds[q]? = some dd := ⟨_, List.getElem?_eq_getElem (by rw [HD.out]; exact hlq)⟩
          obtain ⟨ad, rfl, zd, e0, e1, e2, e3⟩ := (hY1.below hBx (Nat.le_refl _)).at_ hdd
          have hqi : (q : Int) < (m : Int) := by omega
          have hq0 : (0 : Int) ≤ (q : Int) := Int.natCast_nonneg _
          have HN : Hid (acc ++ (32 :: (printD dd ++ [59])) = (js ++ [32, 123]) ++ bodyL (ds.take (q + 1))) := by
            show _ = _
            rw [body_snoc hdd, HA.out, List.append_assoc]
          have hdl := printD_len dd
          have cpd := printDecl_any dd
          clear HA hdd
          obtain ⟨dp, dk, dn, dss⟩ := dd
          simp only at e0 e1 e2 e3 cpd
          have KB := Blk.new wr 54 #[.int .i64 dp, .int .i64 dk, .int .i64 dn, .bool dss]
          have hAx := below_al (Below.refl wr.heap.size wr) (.cells #[.int .i64 dp, .int .i64 dk, .int .i64 dn, .bool dss] 54)
          have hBA := below_al hBx (.cells #[.int .i64 dp, .int .i64 dk, .int .i64 dn, .bool dss] 54)
          have hIA : BldS (wr.alloc (.cells #[.int .i64 dp, .int .i64 dk, .int .i64 dn, .bool dss] 54)) wq.heap.size wq.heap.size acc := Lib.IsBuilderF.alloc hI _
          have cp2 := cpd (wr.alloc (.cells #[.int .i64 dp, .int .i64 dk, .int .i64 dn, .bool dss] 54)) (hT1.at_ hBA)
          obtain ⟨y0, y1, y2, y3⟩ := blk4 KB
          generalize printD ⟨dp, dk, dn, dss⟩ = pd at *
          have t1 : ¬ 9223372036854775807 < 1 + (toB pd).size := by rw [toB_size]; omega
          have t2 : ¬ 9223372036854775807 < 1 + (toB pd).size + 1 := by rw [toB_size]; omega
          have cw2 := write_t wq.heap.size acc (32 :: (pd ++ [59])) _ (js_decl pd) (by simp only [List.length_append, List.length_cons, List.length_nil]; omega)
          go_wp2_with (first
            | (go_at_call 89; (with_reducible refine cp2.mono ?_); rintro e w7 ⟨rfl, hb7⟩
               have hB7 := below_next hBA hb7
               have hI7 := hIA.next hb7)
            | (go_at_call 40; (with_reducible refine (cw2 _ hI7 hB7.size).mono ?_); rintro e w8 ⟨rfl, hI8, hb8⟩))
          go_roundw
          case rel => exact ⟨q + 1, acc ++ (32 :: (pd ++ [59])), by omega, by go_num, HN, hI8, hB7.trans hb8⟩
          case measure => simp [intOf]; omega
        · obtain rfl : q = m := by omega
          have HE : Hid (R = toB (acc ++ [32, 125, 10])) := by
            show _ = _
            rw [HR.out, HA.out, HJ.out, List.take_of_length_le (by rw [HD.out]; exact Nat.le_refl _)]
          clear HR HA HJ
          have cw3 := write_t wq.heap.size acc [32, 125, 10] ⟨#[32, 125, 10]⟩ rfl (by simp only [List.length_cons, List.length_nil]; omega)
          go_wp2_with (first
            | (go_at_call 40; (with_reducible refine (cw3 _ hI hBx.size).mono ?_); rintro e w7 ⟨rfl, hI7, hb7⟩
               have hB7 := hBx.trans hb7)
            | (go_at_call 42; (with_reducible refine (string_k _ _ w7 hI7 hB7.size).mono ?_); rintro e w8 ⟨rfl, hb8⟩))
          go_ret
          exact ⟨by rw [HE.out]; rfl, by rw [HG.out]; exact hBr.trans ((hB7.trans hb8).mono (Nat.le_of_lt zg))⟩
end Sht
end Go.Proofs.YtdfcahdipalmkaaGreatDoor
namespace Go.Proofs.YtdfcahdipalmkaaGreatDoor
open Go.ChangeShapes Go.WideShapes Go.ChangeAt Go.RowKit Go.Shelf
namespace Sht
open Sel
open RowG (Row)
theorem printR_le {r : Rul} (h : mayR r = true) : (printR r).length ≤ 54000 := by
  unfold mayR at h
  simp only [Bool.and_eq_true, decide_eq_true_eq] at h
  obtain ⟨⟨⟨⟨m1, m2⟩, m3⟩, -⟩, -⟩ := h
  have h1 := heads_le r.sels
  have h2 := body_le r.decls
  unfold printR
  simp only [List.length_append, List.length_cons, List.length_nil]
  omega
theorem flat_le {rs : List Rul} (h : rs.all mayR = true) : ∀ k, ((rs.take k).map printR).flatten.length ≤ 54000 * k
  | 0 => by simp
  | k + 1 => by
    have ih := flat_le h k
    rw [List.take_add_one, List.map_append, List.flatten_append, List.length_append]
    cases hk : rs[k]? with
    | none => show _ + 0 ≤ _; omega
    | some r =>
      have h1 := printR_le (List.all_eq_true.1 h r (List.mem_of_getElem? hk))
      simp only [Option.toList_some, List.map_cons, List.map_nil, List.flatten_cons, List.flatten_nil, List.append_nil]
      omega
theorem printS_le (rs : List Rul) : (printS rs).length ≤ 2160000 := by
  unfold printS
  split
  · rename_i h
    unfold mayS at h
    rw [Bool.and_eq_true, decide_eq_true_eq] at h
    have := flat_le h.2 rs.length
    rw [List.take_length] at this
    omega
  · exact Nat.zero_le _
set_option maxRecDepth 100000 in
set_option maxHeartbeats 16000000 in
/-- sheet.Print. -/
theorem print_any (A : Option Addr) (n c : Nat) (rs : List Rul) (hn : n ≤ 1000000) (hr : ∀ r ∈ rs, RulB r) (w : World) (hT : Val.Tabs w) (h : RsR w w.heap.size A n rs) :
    Calls Tryz.prog 20 #[.slice A n c] w fun e w' => e = .returned (.string (toB (printS rs))) ∧ Below w.heap.size w w' := by
  have cm := may_any A n c rs hn hr w h
  have hl := h.len
  have HP : Hid (printS rs = if mayS rs then (rs.map printR).flatten else []) := rfl
  by_cases hmay : mayS rs = true
  · rw [hmay] at cm
    have HX : Hid (printS rs = (rs.map printR).flatten) := by show _ = _; rw [HP.out, if_pos hmay]
    unfold mayS at hmay
    rw [Bool.and_eq_true, decide_eq_true_eq] at hmay
    obtain ⟨h40, hall⟩ := hmay
    rw [hl] at h40
    have HF := Lib.hid (flat_le hall)
    have HM := Lib.hid hall
    have HL := Lib.hid hl
    clear hl hall HP hr
    go_enter Tryz.func20, Tryz.ntmps20
    go_wp2_with (go_at_call 18; (with_reducible refine cm.mono ?_); rintro e w1 ⟨rfl, hb1⟩
                 have hF0 : BldS (w1.alloc (.cells #[.pointer none, .slice none 0 0] 93)) w1.heap.size w1.heap.size [] := Lib.IsBuilderF.of (Lib.fresh_isBuilder 93 5 w1)
                 have hA0 := below_al (Below.refl w1.heap.size w1) (.cells #[.pointer none, .slice none 0 0] 93))
    have h1 := h.below hb1 hb1.size
    have hT1 := hT.at_ hb1
    clear h hT cm
    generalize w1.alloc (.cells #[.pointer none, .slice none 0 0] 93) = w2 at *
    go_loopw [11] (fun iv wr => ∃ (k : Nat) (acc : List UInt8), k ≤ n ∧ iv = .int .i64 k ∧ Hid (acc = ((rs.take k).map printR).flatten) ∧ BldS wr w1.heap.size w1.heap.size acc ∧ Below w1.heap.size w1 wr) (fun iv _ => n - (intOf iv).toNat)
    case atStart => exact ⟨0, _, Nat.zero_le _, rfl, by show _ = _; rw [List.take_zero]; rfl, hF0, hA0⟩
    case round =>
      obtain ⟨k, acc, hk, rfl, HA, hI, hBr⟩ := hrel
      clear hF0 hA0
      have hacc : acc.length ≤ 54000 * k := by rw [HA.out]; exact HF.out k
      by_cases hlt : k < n
      · obtain ⟨r, hr⟩ : ∃ r, rs[k]? = some r := ⟨_, List.getElem?_eq_getElem (by rw [HL.out]; exact hlt)⟩
        have hmr : mayR r = true := List.all_eq_true.1 HM.out r (List.mem_of_getElem? hr)
        obtain ⟨ad, q, rfl, zd, e0, e1, r1⟩ := (h1.below hBr (Nat.le_refl _)).at_ hr
        obtain ⟨qA, qn, qc, qK, qm, qd⟩ := q
        simp only at e0 e1
        have hki : (k : Int) < (n : Int) := by omega
        have hk0 : (0 : Int) ≤ (k : Int) := Int.natCast_nonneg _
        have hpl := printR_le hmr
        have HN : Hid (acc ++ printR r = ((rs.take (k + 1)).map printR).flatten) := by
          show _ = _
          rw [List.take_add_one, hr, List.map_append, List.flatten_append, ← HA.out]
          simp
        have Kx := Blk.new wr 65 #[.slice qA qn qc, .slice qK qm qd]
        have hAx := below_al (Below.refl wr.heap.size wr) (.cells #[.slice qA qn qc, .slice qK qm qd] 65)
        have hBA := below_al hBr (.cells #[.slice qA qn qc, .slice qK qm qd] 65)
        have hIA : BldS (wr.alloc (.cells #[.slice qA qn qc, .slice qK qm qd] 65)) w1.heap.size w1.heap.size acc := Lib.IsBuilderF.alloc hI _
        have cp := printRule_any ⟨qA, qn, qc, qK, qm, qd⟩ r hmr (wr.alloc (.cells #[.slice qA qn qc, .slice qK qm qd] 65)) (hT1.at_ hBA) (r1.below (hAx.mono hBr.size) (Nat.le_trans hBr.size hAx.size))
        simp only at cp
        obtain ⟨y0, y1⟩ := blk2 Kx
        clear HA hr hmr r1
        generalize printR r = t at *
        have cw := write_t w1.heap.size acc t (toB t) rfl (by omega)
        go_wp2_with (first
          | (go_at_call 41; (with_reducible refine cp.mono ?_); rintro e w4 ⟨rfl, hb4⟩
             have hB4 := below_next hBA hb4
             have hI4 := hIA.next hb4)
          | (go_at_call 40; (with_reducible refine (cw _ hI4 hB4.size).mono ?_); rintro e w5 ⟨rfl, hI5, hb5⟩))
        go_roundw
        case rel => exact ⟨k + 1, acc ++ t, by omega, by go_num, HN, hI5, hB4.trans hb5⟩
        case measure => simp [intOf]; omega
      · obtain rfl : k = n := by omega
        have HE : Hid (printS rs = acc) := by
          show _ = _
          rw [HX.out, HA.out, List.take_of_length_le (by rw [HL.out]; exact Nat.le_refl _)]
        clear HA HX
        go_wp2_with (go_at_call 42; (with_reducible refine (string_k _ acc wr hI hBr.size).mono ?_); rintro e w6 ⟨rfl, hb6⟩)
        go_ret
        exact ⟨by rw [HE.out]; rfl, hb1.trans ((hBr.trans hb6).mono hb1.size)⟩
  · have hmf : mayS rs = false := by cases h : mayS rs with
      | true => exact absurd h hmay
      | false => rfl
    rw [hmf] at cm
    have HX : Hid (printS rs = []) := by show _ = _; rw [HP.out, if_neg hmay]
    clear HP hmf hmay hl h hr hT
    go_enter Tryz.func20, Tryz.ntmps20
    go_wp2_with (go_at_call 18; (with_reducible refine cm.mono ?_); rintro e w1 ⟨rfl, hb1⟩)
    go_ret
    exact ⟨by rw [HX.out]; rfl, hb1⟩
end Sht
end Go.Proofs.YtdfcahdipalmkaaGreatDoor
