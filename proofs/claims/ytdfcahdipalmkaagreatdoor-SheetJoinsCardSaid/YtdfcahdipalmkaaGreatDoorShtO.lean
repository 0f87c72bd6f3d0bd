/- Law 10's own: rules of the document's, of those that came in. Conditions: lists are no longer than what can be reached. -/
import Derived.Test.YtdfcahdipalmkaaGreatDoorShtI
import Derived.Test.YtdfcahdipalmkaaGreatDoorOpenSels
namespace Go.Proofs.YtdfcahdipalmkaaGreatDoor
open Go.ChangeShapes Go.WideShapes Go.ChangeAt Go.RowKit Go.Shelf
namespace Sht
open Sel
open RowG (Row)
/-- A selector's copy: its parts in a row of the call's own, what they hold below B0. -/
def SlO (w : World) (B0 base : Nat) (c : XC) (x : Slr) : Prop := (∃ ss : List SC, Row w base 71 5 scC (.slice c.A c.n c.c) ss ∧ ss.length = x.parts.length ∧ ∀ (i : Nat) (s : SC) (p : Sim), ss[i]? = some s → x.parts[i]? = some p → ScR w B0 s p) ∧ BLR w B0 c.K c.m x.close
theorem SlO.kt {w w' : World} {B0 base : Nat} {c : XC} {x : Slr} (h : SlO w B0 base c x) (hb : Below B0 w w') (k : KT w w' 71) : SlO w' B0 base c x := by
  obtain ⟨⟨ss, h1, h2, h3⟩, h4⟩ := h
  exact ⟨⟨ss, row_kt h1 k, h2, fun i s p a b => (h3 i s p a b).below hb (Nat.le_refl _)⟩, h4.below hb (Nat.le_refl _)⟩
theorem SlO.reads {w : World} {B0 base : Nat} {c : XC} {x : Slr} (h : SlO w B0 base c x) (hB : B0 ≤ w.heap.size) : SlR w w.heap.size c x := by
  obtain ⟨⟨ss, h1, h2, h3⟩, h4⟩ := h
  obtain ⟨h5, h6⟩ := h1.reads
  rw [← h6] at h5
  have hr := Below.refl B0 w
  exact ⟨⟨ss, h5, h2, fun i s p a b => (h3 i s p a b).below hr hB⟩, h4.below hr hB⟩
def XsO (w : World) (B0 base : Nat) (v : Value) (xs : List Slr) : Prop := ∃ cs : List XC, Row w base 62 2 xcC v cs ∧ cs.length = xs.length ∧ ∀ (i : Nat) (c : XC) (x : Slr), cs[i]? = some c → xs[i]? = some x → SlO w B0 base c x
theorem XsO.kt {w w' : World} {B0 base : Nat} {v : Value} {xs : List Slr} (h : XsO w B0 base v xs) (hb : Below B0 w w') (k0 : KT w w' 62) (k : KT w w' 71) : XsO w' B0 base v xs := by
  obtain ⟨cs, h1, h2, h3⟩ := h
  exact ⟨cs, row_kt h1 k0, h2, fun i c x a b => (h3 i c x a b).kt hb k⟩
theorem SlO.less {w : World} {B0 base b : Nat} {c : XC} {x : Slr} (h : SlO w B0 base c x) (hb : b ≤ base) : SlO w B0 b c x := by
  obtain ⟨⟨ss, h1, h2, h3⟩, h4⟩ := h
  exact ⟨⟨ss, row_less h1 hb, h2, h3⟩, h4⟩
theorem XsO.less {w : World} {B0 base b : Nat} {v : Value} {xs : List Slr} (h : XsO w B0 base v xs) (hb : b ≤ base) : XsO w B0 b v xs := by
  obtain ⟨cs, h1, h2, h3⟩ := h
  exact ⟨cs, row_less h1 hb, h2, fun i c x a d => (h3 i c x a d).less hb⟩
theorem XsO.form {w : World} {B0 base : Nat} {v : Value} {xs : List Slr} (h : XsO w B0 base v xs) : ∃ A c, v = .slice A xs.length c := by
  obtain ⟨cs, h1, h2, -⟩ := h
  rw [← h2]
  exact h1.form
theorem XsO.nil (w : World) (B0 base : Nat) : XsO w B0 base (.slice none 0 0) [] := ⟨[], RowG.Row.nil _ _ _ _ _, rfl, fun i c p h => by simp at h⟩
theorem XsO.more {w w' : World} {B0 base : Nat} {v' : Value} {xs : List Slr} {cs : List XC} {c : XC} {x : Slr} (h3 : ∀ (i : Nat) (c : XC) (x : Slr), cs[i]? = some c → xs[i]? = some x → SlO w B0 base c x) (h2 : cs.length = xs.length) (hrow : Row w' base 62 2 xcC v' (cs ++ [c])) (hb : Below B0 w w') (k : KT w w' 71) (hc : SlO w B0 base c x) : XsO w' B0 base v' (xs ++ [x]) := by
  refine ⟨cs ++ [c], hrow, by rw [List.length_append, List.length_append, h2]; rfl, fun i d q hd hq => ?_⟩
  by_cases hi : i < cs.length
  · rw [List.getElem?_append_left hi] at hd
    rw [List.getElem?_append_left (by omega)] at hq
    exact (h3 i d q hd hq).kt hb k
  · rw [List.getElem?_append_right (by omega)] at hd hq
    by_cases e : i = cs.length
    · subst e
      rw [Nat.sub_self] at hd
      rw [h2, Nat.sub_self] at hq
      have hd : c = d := by simpa using hd
      have hq : x = q := by simpa using hq
      subst hd
      subst hq
      exact hc.kt hb k
    · rw [List.getElem?_eq_none (by simp; omega)] at hd
      cases hd
def RuO (w : World) (B0 base : Nat) (c : RC) (r : Rul) : Prop := XsO w B0 base (.slice c.A c.n c.c) r.sels ∧ DeL w base (.slice c.K c.m c.d) r.decls
theorem RuO.kt {w w' : World} {B0 base : Nat} {c : RC} {r : Rul} (h : RuO w B0 base c r) (hb : Below B0 w w') (k0 : KT w w' 62) (k : KT w w' 71) (k2 : KT w w' 85) : RuO w' B0 base c r := ⟨h.1.kt hb k0 k, row_kt h.2 k2⟩
def RsO (w : World) (B0 base : Nat) (v : Value) (rs : List Rul) : Prop := ∃ cs : List RC, Row w base 57 2 rcC v cs ∧ cs.length = rs.length ∧ ∀ (i : Nat) (c : RC) (r : Rul), cs[i]? = some c → rs[i]? = some r → RuO w B0 base c r
theorem RsO.below {w w' : World} {B0 base : Nat} {v : Value} {rs : List Rul} (h : RsO w B0 base v rs) (hB : B0 ≤ w.heap.size) (hb : Below w.heap.size w w') : RsO w' B0 base v rs := by
  obtain ⟨cs, h1, h2, h3⟩ := h
  exact ⟨cs, row_kt h1 (.below hb _), h2, fun i c x a b => (h3 i c x a b).kt (hb.mono hB) (.below hb _) (.below hb _) (.below hb _)⟩
theorem RsO.nil (w : World) (B0 base : Nat) : RsO w B0 base (.slice none 0 0) [] := ⟨[], RowG.Row.nil _ _ _ _ _, rfl, fun i c p h => by simp at h⟩
theorem RsO.form {w : World} {B0 base : Nat} {v : Value} {rs : List Rul} (h : RsO w B0 base v rs) : ∃ A c, v = .slice A rs.length c := by
  obtain ⟨cs, h1, h2, -⟩ := h
  rw [← h2]
  exact h1.form
theorem RsO.more {w w' : World} {B0 base : Nat} {v' : Value} {rs : List Rul} {cs : List RC} {c : RC} {r : Rul} (h3 : ∀ (i : Nat) (c : RC) (r : Rul), cs[i]? = some c → rs[i]? = some r → RuO w B0 base c r) (h2 : cs.length = rs.length) (hrow : Row w' base 57 2 rcC v' (cs ++ [c])) (hb : Below B0 w w') (k0 : KT w w' 62) (k : KT w w' 71) (k2 : KT w w' 85) (hc : RuO w B0 base c r) : RsO w' B0 base v' (rs ++ [r]) := by
  refine ⟨cs ++ [c], hrow, by rw [List.length_append, List.length_append, h2]; rfl, fun i d q hd hq => ?_⟩
  by_cases hi : i < cs.length
  · rw [List.getElem?_append_left hi] at hd
    rw [List.getElem?_append_left (by omega)] at hq
    exact (h3 i d q hd hq).kt hb k0 k k2
  · rw [List.getElem?_append_right (by omega)] at hd hq
    by_cases e : i = cs.length
    · subst e
      rw [Nat.sub_self] at hd
      rw [h2, Nat.sub_self] at hq
      have hd : c = d := by simpa using hd
      have hq : r = q := by simpa using hq
      subst hd
      subst hq
      exact hc.kt hb k0 k k2
    · rw [List.getElem?_eq_none (by simp; omega)] at hd
      cases hd
theorem RsO.reads {w : World} {B0 base n c : Nat} {A : Option Addr} {rs : List Rul} (h : RsO w B0 base (.slice A n c) rs) (hB : B0 ≤ w.heap.size) : RsR w w.heap.size A n rs := by
  obtain ⟨cs, h1, h2, h3⟩ := h
  obtain ⟨h4, h5⟩ := h1.reads
  rw [← h5] at h4
  refine ⟨cs, h4, h2, fun i c p hc hp => ?_⟩
  obtain ⟨⟨xs, q1, q2, q3⟩, q4⟩ := h3 i c p hc hp
  obtain ⟨q5, q6⟩ := q1.reads
  rw [← q6] at q5
  exact ⟨⟨xs, q5, q2, fun i c x a b => (q3 i c x a b).reads hB⟩, DeL.reads q4⟩
theorem info_rslr : (Tryz.prog.info? 62).map (fun i => (i.zero, i.size, i.bytes)) = some (some (.agg #[.slice none 0 0, .slice none 0 0]), 2, 48) := by kernel_rfl
theorem info_rrul : (Tryz.prog.info? 57).map (fun i => (i.zero, i.size, i.bytes)) = some (some (.agg #[.slice none 0 0, .slice none 0 0]), 2, 48) := by kernel_rfl
theorem below_grow {α : Type} {w w' : World} {base B0 k : Nat} {e : TypeId} {enc : α → List Value} {v : Value} {l : List α} (h : Row w base e k enc v l) (hg : w.grownBy w' v.ownBlock) (hb : base ≤ w.heap.size) (h0 : B0 ≤ base) : Below B0 w w' :=
  (Below.refl B0 w).grown hg (Nat.le_trans h0 hb) (fun j hj => Nat.le_trans h0 (World.ownsRow.lt h j hj).1)
theorem below_put (w : World) {B0 : Nat} {p : Addr} (h : B0 ≤ p.block) (v : Value) : Below B0 w (w.setCell p v) := (Below.refl B0 w).setCell h v
/-- Lists of no more than what can be reached. -/
def RulW (r : Rul) : Prop := r.sels.length ≤ 2932031007317 ∧ r.decls.length ≤ 4398046510976 ∧ ∀ x ∈ r.sels, x.parts.length ≤ 1954687338211
set_option maxRecDepth 100000 in
set_option maxHeartbeats 64000000 in
theorem own10_any (A : Option Addr) (n c : Nat) (rs : List Rul) (hn : n ≤ 4000000000000) (hw : ∀ r ∈ rs, RulW r) (w : World) (h : RsR w w.heap.size A n rs) :
    Calls Tryz.prog 10 #[.slice A n c] w fun e w' => (∃ A' n' c', e = .returned (.slice A' n' c') ∧ RsR w' w'.heap.size A' n' (rs.take 201)) ∧ Below w.heap.size w w' := by
  have HL := Lib.hid h.len
  have HW := Lib.hid hw
  clear hw
  go_enter Tryz.func10, Tryz.ntmps10
  go_wp2
  go_loopw [3, 14] (fun vp iv wr => ∃ (k : Nat) (os : List Rul), k ≤ n ∧ k ≤ 201 ∧ iv = .int .i64 k ∧ Hid (os = rs.take k) ∧ Hid (os.length = k) ∧ RsO wr w.heap.size w.heap.size vp os ∧ Below w.heap.size w wr) (fun _ iv _ => n - (intOf iv).toNat)
  case atStart => exact ⟨0, [], Nat.zero_le _, Nat.zero_le _, rfl, rfl, rfl, RsO.nil _ _ _, Below.refl _ _⟩
  case round =>
    obtain ⟨k, os, hk, hk2, rfl, HA, HE, hP, hBr⟩ := hrel
    obtain ⟨Ap, cp, hvp⟩ := hP.form
    rw [HE.out] at hvp
    subst hvp
    have hki2 : (k : Int) ≤ 201 := by omega
    by_cases hlt : k < n
    · have hki : (k : Int) < (n : Int) := by omega
      have hk0 : (0 : Int) ≤ (k : Int) := Int.natCast_nonneg _
      obtain ⟨r, hr⟩ : ∃ r, rs[k]? = some r := ⟨_, List.getElem?_eq_getElem (by rw [HL.out]; exact hlt)⟩
      obtain ⟨ad, ⟨rA, rn, rc, rK, rm, rd⟩, rfl, zd, e0, e1, r1⟩ := (h.below hBr (Nat.le_refl _)).at_ hr
      simp only at e0 e1
      have KR := Blk.new wr 65 #[.slice rA rn rc, .slice rK rm rd]
      have hBR := below_al (Below.refl wr.heap.size wr) (.cells #[.slice rA rn rc, .slice rK rm rd] 65)
      obtain ⟨y0, y1⟩ := blk2 KR
      by_cases h200 : 200 < k
      · have h2i : (200 : Int) < (k : Int) := by omega
        have HT : Hid (os = rs.take 201) := by show _ = _; rw [HA.out, show k = 201 by omega]
        clear HA
        go_wp2
        exact bodyPost_ret (v := .slice Ap k cp) (by simp [results, Tryz.results10, go_sem]) rfl ⟨⟨_, _, _, rfl, by
          rw [← HT.out]
          exact (hP.below hBr.size hBR).reads (Nat.le_trans hBr.size hBR.size)⟩, below_next hBr hBR⟩
      · have h2i : ¬ (200 : Int) < (k : Int) := by omega
        have HN : Hid (os ++ [r] = rs.take (k + 1)) := by show _ = _; rw [List.take_add_one, hr, ← HA.out]; rfl
        obtain ⟨w1, w2, w3⟩ := HW.out r (List.mem_of_getElem? hr)
        clear HA hr
        obtain ⟨xs, ds⟩ := r
        obtain ⟨hX, hD⟩ := r1
        simp only at hX hD w1 w2 w3
        have cd := own_decls rK rm rd ds (by have := hD.1; omega) (wr.alloc (.cells #[.slice rA rn rc, .slice rK rm rd] 65)) (hD.below (hBR.mono hBr.size) (Nat.le_trans hBr.size hBR.size))
        have hXl := hX.len
        have HXL := Lib.hid hXl
        have hrn : rn ≤ 2932031007317 := by omega
        have HW3 := Lib.hid w3
        clear hXl w1 w3
        generalize wr = wo at *
        go_wp2_with (go_at_call 15; (with_reducible refine cd.mono ?_); rintro e w3 ⟨⟨vd, rfl, hd3⟩, hb3⟩
                     obtain ⟨Ad, cpd, rfl⟩ := RowG.Row.form hd3
                     generalize hnd : ds.length = nd at *
                     have hB3 := below_next hBR hb3
                     have KG := Blk.new w3 57 #[.slice none 0 0, .slice Ad nd cpd]
                     have hA3 := below_al (Below.refl w3.heap.size w3) (.cells #[.slice none 0 0, .slice Ad nd cpd] 57)
                     obtain ⟨z0, z1⟩ := blk2 ((KR.next hb3).alloc (.cells #[.slice none 0 0, .slice Ad nd cpd] 57)))
        have hBo := below_next hBr hB3
        have hd4 : DeL (w3.alloc (.cells #[.slice none 0 0, .slice Ad nd cpd] 57)) w.heap.size (.slice Ad nd cpd) ds := row_less (RowG.Row.below hd3 hA3) (below_next hBr hBR).size
        clear hd3 hb3 cd KR
        generalize w3.alloc (.cells #[.slice none 0 0, .slice Ad nd cpd] 57) = w4 at *
        have hle3 := hBo.size
        go_loopw [29] (fun iv wr => ∃ (j : Nat) (v6 : Value) (us : List Slr), j ≤ rn ∧ iv = .int .i64 j ∧ Hid (us = xs.take j) ∧ Hid (us.length = j) ∧ XsO wr w.heap.size w3.heap.size v6 us ∧ Blk wr w3.heap.size 57 #[v6, .slice Ad nd cpd] ∧ DeL wr w.heap.size (.slice Ad nd cpd) ds ∧ Below w3.heap.size w3 wr) (fun iv _ => rn - (intOf iv).toNat)
        case atStart => exact ⟨0, _, [], Nat.zero_le _, rfl, rfl, rfl, XsO.nil _ _ _, KG, hd4, hA3⟩
        case round =>
          obtain ⟨j, v6, us, hj, rfl, HU, HV, hXO, K6, hd6, hB6⟩ := hrel
          clear KG hd4 hA3
          obtain ⟨A6, c6, hv6⟩ := hXO.form
          rw [HV.out] at hv6
          subst hv6
          have hBw := hBo.trans (hB6.mono hle3)
          by_cases hlj : j < rn
          · have hji : (j : Int) < (rn : Int) := by omega
            have hj0 : (0 : Int) ≤ (j : Int) := Int.natCast_nonneg _
            obtain ⟨x, hx⟩ : ∃ x, xs[j]? = some x := ⟨_, List.getElem?_eq_getElem (by rw [HXL.out]; exact hlj)⟩
            obtain ⟨ad2, ⟨xA, xn, xc, xK, xm, xd⟩, rfl, zd2, f0, f1, rx⟩ := (hX.below ((below_next hB3 hB6).mono hBr.size) (Nat.le_refl _)).at_ hx
            simp only at f0 f1
            have HNx : Hid (us ++ [x] = xs.take (j + 1)) := by show _ = _; rw [List.take_add_one, hx, ← HU.out]; rfl
            have hxn : xn ≤ 1954687338211 := by have h1 : x.parts.length = xn := rx.1.len; have := HW3.out x (List.mem_of_getElem? hx); omega
            obtain ⟨⟨scs, hsr, hsl, hsa⟩, hcl⟩ := rx
            simp only at hsr hcl
            have hscl : scs.length = xn := by have := hsr.1; rw [flat_len scC_len] at this; omega
            have HSL := Lib.hid hscl
            have KX := (Blk.new wr 68 #[.slice xA xn xc, .slice xK xm xd]).alloc (.cells #[.slice none 0 0, .slice xK xm xd] 62)
            have KX0 := Blk.new wr 68 #[.slice xA xn xc, .slice xK xm xd]
            have KP := Blk.new (wr.alloc (.cells #[.slice xA xn xc, .slice xK xm xd] 68)) 62 #[.slice none 0 0, .slice xK xm xd]
            rw [size_al] at KP
            have hAX := below_al (below_al (Below.refl wr.heap.size wr) (.cells #[.slice xA xn xc, .slice xK xm xd] 68)) (.cells #[.slice none 0 0, .slice xK xm xd] 62)
            obtain ⟨y0, y1⟩ := blk2 KX
            obtain ⟨y2, y3⟩ := blk2 KX0
            have hR0 : Row ((wr.alloc (.cells #[.slice xA xn xc, .slice xK xm xd] 68)).alloc (.cells #[.slice none 0 0, .slice xK xm xd] 62)) wr.heap.size 71 5 scC (.slice none 0 0) (scs.take 0) := RowG.Row.nil _ _ _ _ _
            clear HU hx hscl KX KX0
            generalize wr = wq at *
            go_wp2
            have hqle : w.heap.size ≤ wq.heap.size := hBw.size
            generalize (wq.alloc (.cells #[.slice xA xn xc, .slice xK xm xd] 68)).alloc (.cells #[.slice none 0 0, .slice xK xm xd] 62) = w5 at *
            go_loopw [39] (fun iv wr => ∃ (i : Nat) (v9 : Value), i ≤ xn ∧ iv = .int .i64 i ∧ Row wr wq.heap.size 71 5 scC v9 (scs.take i) ∧ Blk wr (wq.heap.size + 1) 62 #[v9, .slice xK xm xd] ∧ Below wq.heap.size wq wr) (fun iv _ => xn - (intOf iv).toNat)
            case atStart => exact ⟨0, _, Nat.zero_le _, rfl, hR0, KP, hAX⟩
            case round =>
              obtain ⟨i, v9, hi, rfl, hrow, K9, hB9⟩ := hrel
              clear hR0 KP hAX y0 y1 y2 y3
              obtain ⟨A9, c9, hv9⟩ := hrow.form
              have htk : (scs.take i).length = i := by rw [List.length_take, HSL.out]; omega
              rw [htk] at hv9
              subst hv9
              by_cases hli : i < xn
              · obtain ⟨r, hr⟩ : ∃ r, scs[i]? = some r := ⟨_, List.getElem?_eq_getElem (by rw [HSL.out]; exact hli)⟩
                obtain ⟨ad3, rfl, hb, e0, e1, e2, e3, e4⟩ := sim_of (hsr.below (hB9.mono hqle)) hr
                have hii : (i : Int) < (xn : Int) := by omega
                have i0 : (0 : Int) ≤ (i : Int) := Int.natCast_nonneg _
                have HT : Hid (scs.take i ++ [r] = scs.take (i + 1)) := by show _ = _; rw [List.take_add_one, hr]; rfl
                have hA1 := below_al (Below.refl wr.heap.size wr) (.cells #[.string r.t, .slice r.A r.m r.a, .slice r.K r.n r.d, .bool r.l, .bool r.v] 70)
                have hA : Below wr.heap.size wr ((wr.alloc (.cells #[.string r.t, .slice r.A r.m r.a, .slice r.K r.n r.d, .bool r.l, .bool r.v] 70)).alloc (.cells #[.string r.t, .slice r.A r.m r.a, .slice r.K r.n r.d, .bool r.l, .bool r.v] 71)) := below_al hA1 _
                have hY := hrow.below hA
                obtain ⟨g0, g1⟩ := blk2 (K9.next hA1)
                obtain ⟨g0', g1'⟩ := blk2 (K9.next hA)
                have KG6 := K9.next hA
                have hB10 := below_next hB9 hA
                have hnc : ∀ (j : Nat) (u : Value), (scC r)[j]? = some u → (((wr.alloc (.cells #[.string r.t, .slice r.A r.m r.a, .slice r.K r.n r.d, .bool r.l, .bool r.v] 70)).alloc (.cells #[.string r.t, .slice r.A r.m r.a, .slice r.K r.n r.d, .bool r.l, .bool r.v] 71))).cell? ⟨(wr.alloc (.cells #[.string r.t, .slice r.A r.m r.a, .slice r.K r.n r.d, .bool r.l, .bool r.v] 70)).heap.size, j, none⟩ = some u := RowG.new_cells (wr.alloc (.cells #[.string r.t, .slice r.A r.m r.a, .slice r.K r.n r.d, .bool r.l, .bool r.v] 70)) 71 (scC r)
                rw [size_al] at hnc
                have Ks := Blk.new wr 70 #[.string r.t, .slice r.A r.m r.a, .slice r.K r.n r.d, .bool r.l, .bool r.v]
                obtain ⟨s0, s1, s2, s3, s4⟩ := blk5 Ks
                clear hr
                go_wp2_with (refine RowG.wpList_more _ (by rfl) _ _ 59 (by rfl) 71 scC 5 72 _ info_rsim Tryz.underlying59 rfl (by decide) scC_len scC_one wq.heap.size _ (scs.take i) r (by rfl) (wr.heap.size + 1) _ (by rfl) hY hnc (by simp only [maxLen]; omega) (by omega) hB10.size ?_
                             intro v7 w7 hrow7 hg7 ho7
                             obtain ⟨A7, c7, hv7⟩ := hrow7.form
                             rw [List.length_append, List.length_singleton, htk] at hv7
                             subst hv7
                             have KG7 := blk_kt KG6 (KT.grown (e := 62) hY hg7 (by decide))
                             obtain ⟨g0, g1⟩ := blk2 KG7
                             obtain ⟨f0, f1⟩ := fz2 KG7)
                have hks := KT.set (e := 71) KG7 (by decide) 0 (.slice A7 (i + 1) c7)
                have KG8 := KG7.set_ 0 (.slice A7 (i + 1) c7)
                have hB8 : Below wq.heap.size wq (w7.setCell ⟨wq.heap.size + 1, 0, none⟩ (.slice A7 (i + 1) c7)) := (hB10.grown hg7 hB10.size (fun j hj => (World.ownsRow.lt hY j hj).1)).setCell (Nat.le_succ _) _
                have hrow8 := row_kt hrow7 hks
                rw [HT.out] at hrow8
                go_roundw
                case rel => exact ⟨i + 1, _, by omega, by go_num, hrow8, KG8, hB8⟩
                case measure => simp [intOf]; omega
              · obtain rfl : i = xn := by omega
                have hfull : scs.take i = scs := List.take_of_length_le (by rw [HSL.out]; exact Nat.le_refl _)
                rw [hfull] at hrow
                have hBq := hB9
                have K6r := K6.next hB9
                have hXr := hXO.kt (hB9.mono hqle) (.below hB9 _) (.below hB9 _)
                have hd6r := row_kt hd6 (.below hB9 _)
                have hA9 := below_al (Below.refl wr.heap.size wr) (.cells #[.slice A9 i c9, .slice xK xm xd] 62)
                obtain ⟨g0, g1⟩ := blk2 K9
                obtain ⟨k0, k1⟩ := blk2 K6r
                obtain ⟨k2, k3⟩ := blk2 (K6r.next hA9)
                have hSl : SlO (wr.alloc (.cells #[.slice A9 i c9, .slice xK xm xd] 62)) w.heap.size w3.heap.size ⟨A9, i, c9, xK, xm, xd⟩ x := (SlO.kt (w := wr) ⟨⟨scs, row_less hrow hB6.size, hsl, fun a s p b d => (hsa a s p b d).below (hB9.mono hqle) (Nat.le_refl _)⟩, hcl.below (hB9.mono hqle) (Nat.le_refl _)⟩ (hA9.mono (Nat.le_trans hqle hB9.size)) (.below hA9 _))
                obtain ⟨us2, hrow6, hlen6, hall6⟩ := hXr
                have hY6 := row_kt hrow6 (.below hA9 _)
                have hBA : Below w3.heap.size w3 (wr.alloc (.cells #[.slice A9 i c9, .slice xK xm xd] 62)) := below_next (hB6.trans (hB9.mono hB6.size)) hA9
                have hnc : ∀ (j : Nat) (u : Value), (xcC ⟨A9, i, c9, xK, xm, xd⟩)[j]? = some u → (wr.alloc (.cells #[.slice A9 i c9, .slice xK xm xd] 62)).cell? ⟨wr.heap.size, j, none⟩ = some u := RowG.new_cells wr 62 (xcC ⟨A9, i, c9, xK, xm, xd⟩)
                have hus : us2.length = j := by rw [hlen6, HV.out]
                clear hrow hsr hsa
                go_wp2_with (refine RowG.wpList_more _ (by rfl) _ _ 55 (by rfl) 62 xcC 2 48 _ info_rslr Tryz.underlying55 rfl (by decide) xcC_len xcC_one w3.heap.size _ us2 ⟨A9, i, c9, xK, xm, xd⟩ (by rfl) wr.heap.size _ (by rfl) hY6 hnc (by rw [hus]; simp only [maxLen]; omega) (by rw [hus]; omega) hBA.size ?_
                             intro v7 w7 hrow7 hg7 ho7
                             obtain ⟨A7, c7, hv7⟩ := hrow7.form
                             rw [List.length_append, List.length_singleton, hus] at hv7
                             subst hv7
                             have K67 := blk_kt (K6r.next hA9) (KT.grown (e := 57) hY6 hg7 (by decide))
                             obtain ⟨k0, k1⟩ := blk2 K67
                             obtain ⟨m0, m1⟩ := fz2 K67)
                have hbg : Below w3.heap.size w3 w7 := hBA.grown hg7 hBA.size (fun j hj => (World.ownsRow.lt hY6 j hj).1)
                have hX7 := XsO.more (fun a c y b d => (hall6 a c y b d).kt (hA9.mono (Nat.le_trans hqle hB9.size)) (.below hA9 _)) hlen6 hrow7 (below_grow hY6 hg7 hBA.size hle3) (KT.grown (e := 71) hY6 hg7 (by decide)) hSl
                have hX8 := hX7.kt (below_put w7 (p := ⟨w3.heap.size, 0, none⟩) hle3 (.slice A7 (j + 1) c7)) (KT.set (e := 62) K67 (by decide) 0 (.slice A7 (j + 1) c7)) (KT.set (e := 71) K67 (by decide) 0 (.slice A7 (j + 1) c7))
                have hd8 := row_kt (row_kt (row_kt hd6r (.below hA9 _)) (KT.grown (e := 85) hY6 hg7 (by decide))) (KT.set (e := 85) K67 (by decide) 0 (.slice A7 (j + 1) c7))
                have K68 := K67.set_ 0 (.slice A7 (j + 1) c7)
                have hB8 := below_set hbg (p := ⟨w3.heap.size, 0, none⟩) (Nat.le_refl _) (.slice A7 (j + 1) c7)
                go_roundw
                case rel => exact ⟨j + 1, _, us ++ [x], by omega, by go_num, HNx, by show _ = _; rw [List.length_append, HV.out]; rfl, hX8, K68, hd8, hB8⟩
                case measure => simp [intOf]; omega
          · obtain rfl : j = rn := by omega
            have husx : us = xs := by rw [HU.out, List.take_of_length_le (by rw [HXL.out]; exact Nat.le_refl _)]
            have hBwr := below_next hB3 hB6
            have hPr := hP.below hBr.size hBwr
            have hA6 := below_al (Below.refl wr.heap.size wr) (.cells #[.slice A6 j c6, .slice Ad nd cpd] 57)
            obtain ⟨k0, k1⟩ := blk2 K6
            have hRu : RuO (wr.alloc (.cells #[.slice A6 j c6, .slice Ad nd cpd] 57)) w.heap.size w.heap.size ⟨A6, j, c6, Ad, nd, cpd⟩ ⟨xs, ds⟩ := RuO.kt (w := wr) ⟨by rw [← husx]; exact hXO.less hle3, hd6⟩ (hA6.mono hBw.size) (.below hA6 _) (.below hA6 _) (.below hA6 _)
            obtain ⟨os2, hrowo, hleno, hallo⟩ := hPr
            have hYo := row_kt hrowo (.below hA6 _)
            have hBo6 : Below w.heap.size w (wr.alloc (.cells #[.slice A6 j c6, .slice Ad nd cpd] 57)) := below_next hBw hA6
            have hnc : ∀ (j' : Nat) (u : Value), (rcC ⟨A6, j, c6, Ad, nd, cpd⟩)[j']? = some u → (wr.alloc (.cells #[.slice A6 j c6, .slice Ad nd cpd] 57)).cell? ⟨wr.heap.size, j', none⟩ = some u := RowG.new_cells wr 57 (rcC ⟨A6, j, c6, Ad, nd, cpd⟩)
            have hos : os2.length = k := by rw [hleno, HE.out]
            clear HU hXO hd6
            go_wp2_with (refine RowG.wpList_more _ (by rfl) _ _ 25 (by rfl) 57 rcC 2 48 _ info_rrul Tryz.underlying25 rfl (by decide) rcC_len rcC_one w.heap.size _ os2 ⟨A6, j, c6, Ad, nd, cpd⟩ (by rfl) wr.heap.size _ (by rfl) hYo hnc (by rw [hos]; simp only [maxLen]; omega) (by rw [hos]; omega) hBo6.size ?_
                         intro v7 w7 hrow7 hg7 ho7)
            have hB8 : Below w.heap.size w w7 := hBo6.grown hg7 hBo6.size (fun j hj => (World.ownsRow.lt hYo j hj).1)
            have hO8 := RsO.more (fun a c y b d => (hallo a c y b d).kt (hA6.mono hBw.size) (.below hA6 _) (.below hA6 _) (.below hA6 _)) hleno hrow7 (below_grow hYo hg7 hBo6.size (Nat.le_refl _)) (KT.grown (e := 62) hYo hg7 (by decide)) (KT.grown (e := 71) hYo hg7 (by decide)) (KT.grown (e := 85) hYo hg7 (by decide)) hRu
            go_roundw
            case rel => exact ⟨k + 1, os ++ [Rul.mk xs ds], by omega, by omega, by go_num, HN, by show _ = _; rw [List.length_append, HE.out]; rfl, hO8, hB8⟩
            case measure => simp [intOf]; omega
    · obtain rfl : k = n := by omega
      have HT : Hid (os = rs.take 201) := by show _ = _; rw [HA.out, List.take_of_length_le (by rw [HL.out]; exact Nat.le_refl _), List.take_of_length_le (by rw [HL.out]; exact hk2)]
      go_wp2
      exact bodyPost_ret (v := .slice Ap k cp) (by simp [results, Tryz.results10, go_sem]) rfl ⟨⟨_, _, _, rfl, by rw [← HT.out]; exact hP.reads hBr.size⟩, hBr⟩
end Sht
end Go.Proofs.YtdfcahdipalmkaaGreatDoor
