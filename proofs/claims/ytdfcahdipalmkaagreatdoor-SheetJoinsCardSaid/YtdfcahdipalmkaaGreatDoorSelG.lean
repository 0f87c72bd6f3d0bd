/- slices.Equal of texts and of bools; selector.Same. Conditions: there are not too many parts. -/
import Derived.Test.YtdfcahdipalmkaaGreatDoorSelD
import Derived.Test.YtdfcahdipalmkaaGreatDoorScanTrimC
import Derived.Test.YtdfcahdipalmkaaGreatDoorScanLowC
/- selector's Read. Conditions: the text is not too long. -/
namespace Go.Proofs.YtdfcahdipalmkaaGreatDoor
open Go.ChangeShapes Go.WideShapes Go.ChangeAt Go.RowKit Go.Shelf
namespace Sel
open Tok
open RowG (Row)
/-- What the cells of a part hold. -/
structure SC where
  t : ByteArray
  A : Option Addr
  m : Nat
  a : Nat
  K : Option Addr
  n : Nat
  d : Nat
  l : Bool
  v : Bool
def scC (c : SC) : List Value := [.string c.t, .slice c.A c.m c.a, .slice c.K c.n c.d, .bool c.l, .bool c.v]
theorem scC_len (c : SC) : (scC c).length = 5 := rfl
theorem scC_one (c : SC) : ∀ u ∈ scC c, u.oneCell' = true := by
  intro u hu
  unfold scC at hu
  simp only [List.mem_cons, List.not_mem_nil, or_false] at hu
  rcases hu with rfl | rfl | rfl | rfl | rfl <;> rfl
theorem info_sim : (Tryz.prog.info? 70).map (fun i => (i.zero, i.size, i.bytes)) = some (some (.agg #[.string ⟨#[]⟩, .slice none 0 0, .slice none 0 0, .bool false, .bool false]), 5, 72) := by kernel_rfl
def SIm (w : World) (base : Nat) (c : SC) (p : Sim) : Prop := c.t = toB p.tag ∧ Row w base 9 1 txC (.slice c.A c.m c.a) p.ids ∧ Row w base 9 1 txC (.slice c.K c.n c.d) p.classes ∧ c.l = p.link ∧ c.v = p.visited
def PaL (w : World) (base : Nat) (v : Value) (ps : List Sim) : Prop := ∃ cs : List SC, Row w base 70 5 scC v cs ∧ cs.length = ps.length ∧ ∀ (i : Nat) (c : SC) (p : Sim), cs[i]? = some c → ps[i]? = some p → SIm w base c p
theorem SIm.kt {w w' : World} {base : Nat} {c : SC} {p : Sim} (h : SIm w base c p) (k : KT w w' 9) : SIm w' base c p := ⟨h.1, row_kt h.2.1 k, row_kt h.2.2.1 k, h.2.2.2⟩
theorem PaL.kt {w w' : World} {base : Nat} {v : Value} {ps : List Sim} (h : PaL w base v ps) (k1 : KT w w' 70) (k2 : KT w w' 9) : PaL w' base v ps := by
  obtain ⟨cs, h1, h2, h3⟩ := h
  exact ⟨cs, row_kt h1 k1, h2, fun i c p a b => (h3 i c p a b).kt k2⟩
theorem PaL.next {w w' : World} {base : Nat} {v : Value} {ps : List Sim} (h : PaL w base v ps) (hb : Below w.heap.size w w') : PaL w' base v ps := h.kt (.below hb _) (.below hb _)
theorem PaL.nil (w : World) (base : Nat) : PaL w base (.slice none 0 0) [] := ⟨[], Row.nil _ _ _ _ _, rfl, fun i c p h => by simp at h⟩
theorem PaL.form {w : World} {base : Nat} {v : Value} {ps : List Sim} (h : PaL w base v ps) : ∃ A c, v = .slice A ps.length c := by
  obtain ⟨cs, h1, h2, -⟩ := h
  rw [← h2]
  exact h1.form
theorem PaL.more {w w' : World} {base : Nat} {v' : Value} {ps : List Sim} {cs : List SC} {c : SC} {p : Sim} (h3 : ∀ (i : Nat) (c : SC) (p : Sim), cs[i]? = some c → ps[i]? = some p → SIm w base c p) (h2 : cs.length = ps.length) (hrow : Row w' base 70 5 scC v' (cs ++ [c])) (k : KT w w' 9) (hc : SIm w base c p) : PaL w' base v' (ps ++ [p]) := by
  refine ⟨cs ++ [c], hrow, by rw [List.length_append, List.length_append, h2]; rfl, fun i d q hd hq => ?_⟩
  by_cases hi : i < cs.length
  · rw [List.getElem?_append_left hi] at hd
    rw [List.getElem?_append_left (by omega)] at hq
    exact (h3 i d q hd hq).kt k
  · rw [List.getElem?_append_right (by omega)] at hd hq
    by_cases e : i = cs.length
    · subst e
      rw [Nat.sub_self] at hd
      rw [h2, Nat.sub_self] at hq
      have hd : c = d := by simpa using hd
      have hq : p = q := by simpa using hq
      subst hd
      subst hq
      exact hc.kt k
    · rw [List.getElem?_eq_none (by simp; omega)] at hd
      cases hd
/-- What Read answers. -/
def SelR (w : World) (base : Nat) (x : Option Slr) (e : Ending) : Prop := match x with
  | none => e = .returned (.tuple #[.agg #[.slice none 0 0, .slice none 0 0], .bool false])
  | some x => ∃ vp vb, e = .returned (.tuple #[.agg #[vp, vb], .bool true]) ∧ PaL w base vp x.parts ∧ Row w base 4 1 boC vb x.close
theorem blk2 {w : World} {g : Nat} {t : TypeId} {a b : Value} (h : Blk w g t #[a, b]) : w.cell? ⟨g, 0, none⟩ = some a ∧ w.cell? ⟨g, 1, none⟩ = some b := ⟨h.cell 0, h.cell 1⟩
theorem fz2 {w : World} {g : Nat} {t : TypeId} {a b : Value} (h : Blk w g t #[a, b]) : w.frozen? ⟨g, 0, none⟩ = false ∧ w.frozen? ⟨g, 1, none⟩ = false := ⟨h.frozen 0, h.frozen 1⟩
theorem below_set2 {w E : World} {B g : Nat} (h : Below B w E) (hg : B ≤ g) (a b : Value) : Below B w ((E.setCell ⟨g, 0, none⟩ a).setCell ⟨g, 1, none⟩ b) := (h.setCell hg _).setCell hg _
theorem blk_set2 {w : World} {g : Nat} {t : TypeId} {a0 b0 : Value} (K : Blk w g t #[a0, b0]) (a b : Value) : Blk ((w.setCell ⟨g, 0, none⟩ a).setCell ⟨g, 1, none⟩ b) g t #[a, b] := (K.set_ 0 a).set_ 1 b
theorem kt_set2 {w : World} {g : Nat} {t e : TypeId} {cs : Array Value} (h : Blk w g t cs) (hne : t ≠ e) (a b : Value) : KT w ((w.setCell ⟨g, 0, none⟩ a).setCell ⟨g, 1, none⟩ b) e := (KT.set h hne 0 a).trans (KT.set (h.set_ 0 a) hne 1 b)
theorem allS_snoc {ts : List (List UInt8)} {t : List UInt8} {ps : List Sim} (h : allS ts = some ps) : allS (ts ++ [t]) = match simF t with | none => none | some p => some (ps ++ [p]) := by
  induction ts generalizing ps with
  | nil =>
    injection h with h
    subst h
    show (match simF t with | none => none | some p => match allS [] with | none => none | some ps => some (p :: ps)) = _
    cases simF t <;> rfl
  | cons u us ih =>
    have h : (match simF u with | none => none | some p => match allS us with | none => none | some ps => some (p :: ps)) = some ps := h
    show (match simF u with | none => none | some p => match allS (us ++ [t]) with | none => none | some ps => some (p :: ps)) = _
    cases hu : simF u with
    | none => rw [hu] at h; cases h
    | some p =>
      rw [hu] at h
      cases ha : allS us with
      | none => simp only [ha] at h; cases h
      | some qs =>
        simp only [ha] at h
        injection h with h
        subst h
        simp only [ih ha]
        cases simF t <;> rfl
theorem allS_none {ts : List (List UInt8)} : ∀ {k : Nat}, allS (ts.take k) = none → allS ts = none := by
  induction ts with
  | nil => intro k h; rw [List.take_nil] at h; exact h
  | cons t ts ih =>
    intro k h
    cases k with
    | zero => cases h
    | succ k =>
      rw [List.take_succ_cons] at h
      have h : (match simF t with | none => none | some p => match allS (ts.take k) with | none => none | some ps => some (p :: ps)) = none := h
      show (match simF t with | none => none | some p => match allS ts with | none => none | some ps => some (p :: ps)) = none
      cases ht : simF t with
      | none => rfl
      | some p =>
        rw [ht] at h
        cases ha : allS (ts.take k) with
        | none => simp only [ih ha]
        | some qs => simp only [ha] at h; cases h
theorem tx_of {w : World} {B n k : Nat} {A : Option Addr} {l : List (List UInt8)} {x : List UInt8} (h : Reads w B 1 A n (l.flatMap txC)) (hk : l[k]? = some x) : ∃ ad, A = some ad ∧ ad.block < B ∧ w.cell? (ad.add k) = some (.string (toB x)) := by
  have hl : l.length = n := by have := h.1; rw [flat_len txC_len] at this; omega
  have hkl := (List.getElem?_eq_some_iff.1 hk).1
  obtain ⟨ad, e, hb, hc⟩ := h.2 (by omega)
  have := hc _ _ (flat_at txC_len l k x 0 hk (by decide))
  rw [Nat.mul_one, Nat.add_zero] at this
  exact ⟨ad, e, hb, this⟩
theorem part_small (n : Nat) : ∀ (l : List UInt8) (ts : List (List UInt8)) (cs : List Bool), l.length < n → partP l = some (ts, cs) → ∀ t ∈ ts, t.length ≤ l.length := by
  induction n with
  | zero => intro l ts cs h; omega
  | succ n ih =>
    intro l ts cs hl h
    rw [part_eq] at h
    have htx := txt_le l
    cases hg : gap false (rst l) with
    | none => rw [hg] at h; cases h
    | some x =>
      obtain ⟨k, r⟩ := x
      rw [hg] at h
      cases r with
      | nil =>
        cases k with
        | true => cases h
        | false =>
          injection h with h; injection h with h1 h2
          subst h1
          intro t ht
          rw [List.mem_singleton] at ht
          subst ht
          exact htx
      | cons c r =>
        have hless := gap_less hg
        cases hp : partP (c :: r) with
        | none => simp only [hp] at h; cases h
        | some y =>
          obtain ⟨ts', cs'⟩ := y
          simp only [hp] at h
          injection h with h; injection h with h1 h2
          subst h1
          intro t ht
          rcases List.mem_cons.1 ht with rfl | ht
          · exact htx
          · have := ih (c :: r) ts' cs' (by omega) hp t ht
            omega
set_option maxRecDepth 100000 in
set_option maxHeartbeats 16000000 in
theorem read_any (l : List UInt8) (hl : l.length ≤ 100000) (w : World) :
    Calls Tryz.prog 52 #[.string (toB l)] w fun e w' => SelR w' w.heap.size (readP l) e ∧ Below w.heap.size w w' := by
  have ct := fun w => trim_any (toB l) w (by rw [toB_size]; unfold mostB; omega)
  have hlt := trim_len l
  have clo := fun w => lower_any (toB (trimL l)) w (by rw [toB_size]; unfold mostB; omega)
  have hll := low_len (trimL l)
  have cp := fun w => parted_any (lowL (trimL l)) (by omega) w
  change ∀ w, Calls Tryz.prog 59 #[.string (toB l)] w (fun e w' => e = .returned (.string (toB (trimL l))) ∧ Below w.heap.size w w') at ct
  change ∀ w, Calls Tryz.prog 60 #[.string (toB (trimL l))] w (fun e w' => e = .returned (.string (toB (lowL (trimL l)))) ∧ Below w.heap.size w w') at clo
  have K0 := Blk.new w 68 #[.slice none 0 0, .slice none 0 0]
  have hB0 := below_al (Below.refl w.heap.size w) (.cells #[.slice none 0 0, .slice none 0 0] 68)
  obtain ⟨R, hR⟩ : ∃ R, R = readP l := ⟨_, rfl⟩
  rw [← hR]
  unfold readP readL at hR
  have hpl : ∀ ts cs, partP (lowL (trimL l)) = some (ts, cs) → cs.length + 1 = ts.length := fun ts cs h => part_lens _ _ _ _ (Nat.lt_succ_self _) h
  have HPL := Lib.hid hpl
  have HPS := Lib.hid (fun ts cs h t ht => Nat.le_trans (part_small _ (lowL (trimL l)) ts cs (Nat.lt_succ_self _) h t ht) (show (lowL (trimL l)).length ≤ 100000 by omega))
  have HR := Lib.hid hR
  clear hpl hR hll hlt
  generalize partP (lowL (trimL l)) = x at *
  generalize toB l = S at *
  generalize toB (trimL l) = S1 at *
  generalize toB (lowL (trimL l)) = S2 at *
  have cp2 : ∀ w, Calls Tryz.prog 98 #[.string S2] w fun e w' => (∃ v1 v2, e = .returned (.tuple #[v1, v2, .bool x.isSome]) ∧ ∀ ts cs, x = some (ts, cs) → Row w' w.heap.size 9 1 txC v1 ts ∧ Row w' w.heap.size 4 1 boC v2 cs) ∧ Below w.heap.size w w' := fun w => (cp w).mono (by
    rintro e w' ⟨⟨v1, v2, b, rfl, rfl, h⟩, hb⟩
    exact ⟨⟨v1, v2, rfl, h⟩, hb⟩)
  clear cp
  cases x with
  | none =>
    obtain rfl : R = none := HR.out
    clear HR HPL HPS
    go_enter Tryz.func52, Tryz.ntmps52
    go_wp2_with (first
      | (go_at_call 59; (with_reducible refine (ct _).mono ?_); rintro e w1 ⟨rfl, hb1⟩)
      | (go_at_call 60; (with_reducible refine (clo _).mono ?_); rintro e w2 ⟨rfl, hb2⟩)
      | (go_at_call 98; (with_reducible refine (cp2 _).mono ?_); rintro e w3 ⟨⟨v1, v2, rfl, -⟩, hb3⟩
         have KR := ((K0.next hb1).next hb2).next hb3
         have hB := below_next (below_next (below_next hB0 hb1) hb2) hb3
         obtain ⟨k0, k1⟩ := blk2 KR
         obtain ⟨f0, f1⟩ := fz2 KR))
    have K5 := blk_set2 KR (.slice none 0 0) (.slice none 0 0)
    have B5 := below_set2 hB (Nat.le_refl w.heap.size) (.slice none 0 0) (.slice none 0 0)
    generalize (w3.setCell ⟨w.heap.size, 0, none⟩ (.slice none 0 0)).setCell ⟨w.heap.size, 1, none⟩ (.slice none 0 0) = WF at K5 B5 ⊢
    obtain ⟨r0, r1⟩ := blk2 K5
    exact bodyPost_ret (v := .tuple #[.agg #[.slice none 0 0, .slice none 0 0], .bool false]) (by simp [results, Tryz.results52, go_sem, r0, r1]) rfl ⟨rfl, B5⟩
  | some y =>
    obtain ⟨ts, cs⟩ := y
    have hcl := HPL.out ts cs rfl
    have HTL := Lib.hid (fun t ht => HPS.out ts cs rfl t ht)
    have HR2 : Hid (R = if 8 < ts.length then none else match allS ts with | none => none | some ps => some ⟨ps, cs⟩) := HR.out
    clear HR HPL HPS
    by_cases h8 : 8 < ts.length
    · obtain rfl : R = none := by rw [HR2.out, if_pos h8]
      have h8i : (8 : Int) < (ts.length : Int) := by omega
      clear HR2
      go_enter Tryz.func52, Tryz.ntmps52
      go_wp2_with (first
        | (go_at_call 59; (with_reducible refine (ct _).mono ?_); rintro e w1 ⟨rfl, hb1⟩)
        | (go_at_call 60; (with_reducible refine (clo _).mono ?_); rintro e w2 ⟨rfl, hb2⟩)
        | (go_at_call 98; (with_reducible refine (cp2 _).mono ?_); rintro e w3 ⟨⟨v1, v2, rfl, hr12⟩, hb3⟩
           obtain ⟨hv1, hv2⟩ := hr12 ts cs rfl
           have KR := ((K0.next hb1).next hb2).next hb3
           have hB := below_next (below_next (below_next hB0 hb1) hb2) hb3
           have hz12 : w.heap.size ≤ w2.heap.size := (below_next (below_next hB0 hb1) hb2).size
           have hrt := row_less hv1 hz12
           have hrb := row_less hv2 hz12
           obtain ⟨A1, c1, rfl⟩ := hrt.form
           obtain ⟨A2, c2, rfl⟩ := hrb.form
           obtain ⟨k0, k1⟩ := blk2 KR
           obtain ⟨f0, f1⟩ := fz2 KR))
      have K5 := blk_set2 KR (.slice none 0 0) (.slice none 0 0)
      have B5 := below_set2 hB (Nat.le_refl w.heap.size) (.slice none 0 0) (.slice none 0 0)
      generalize (w3.setCell ⟨w.heap.size, 0, none⟩ (.slice none 0 0)).setCell ⟨w.heap.size, 1, none⟩ (.slice none 0 0) = WF at *
      obtain ⟨r0, r1⟩ := blk2 K5
      exact bodyPost_ret (v := .tuple #[.agg #[.slice none 0 0, .slice none 0 0], .bool false]) (by simp [results, Tryz.results52, go_sem, r0, r1]) rfl ⟨rfl, B5⟩
    have h8i : decide ((8 : Int) < (ts.length : Int)) = false := decide_eq_false (by omega)
    have HR3 : Hid (R = match allS ts with | none => none | some ps => some ⟨ps, cs⟩) := by show _ = _; rw [HR2.out, if_neg h8]
    obtain ⟨M, hM⟩ : ∃ M, M = ts.length := ⟨_, rfl⟩
    have HM := Lib.hid hM
    rw [← hM] at h8i
    have hM8 : M ≤ 8 := by omega
    clear HR2 hM
    go_enter Tryz.func52, Tryz.ntmps52
    go_wp2_with (first
      | (go_at_call 59; (with_reducible refine (ct _).mono ?_); rintro e w1 ⟨rfl, hb1⟩)
      | (go_at_call 60; (with_reducible refine (clo _).mono ?_); rintro e w2 ⟨rfl, hb2⟩)
      | (go_at_call 98; (with_reducible refine (cp2 _).mono ?_); rintro e w3 ⟨⟨v1, v2, rfl, hr12⟩, hb3⟩
         obtain ⟨hv1, hv2⟩ := hr12 ts cs rfl
         have KR := ((K0.next hb1).next hb2).next hb3
         have hB := below_next (below_next (below_next hB0 hb1) hb2) hb3
         have hz12 : w.heap.size ≤ w2.heap.size := (below_next (below_next hB0 hb1) hb2).size
         have hrt := row_less hv1 hz12
         have hrb := row_less hv2 hz12
         obtain ⟨A1, c1, hA1⟩ := hrt.form
         rw [← HM.out] at hA1
         subst hA1
         obtain ⟨A2, c2, rfl⟩ := hrb.form
         obtain ⟨k0, k1⟩ := blk2 KR
         obtain ⟨f0, f1⟩ := fz2 KR))
    have K7 := Blk.new w3 68 #[.slice none 0 0, .slice A2 cs.length c2]
    have KR7 := KR.alloc (.cells #[.slice none 0 0, .slice A2 cs.length c2] 68)
    have hB7 := below_al hB (.cells #[.slice none 0 0, .slice A2 cs.length c2] 68)
    have hrt7 := hrt.alloc (.cells #[.slice none 0 0, .slice A2 cs.length c2] 68)
    have hrb7 := hrb.alloc (.cells #[.slice none 0 0, .slice A2 cs.length c2] 68)
    have hP7 : PaL (w3.alloc (.cells #[.slice none 0 0, .slice A2 cs.length c2] 68)) w.heap.size (.slice none 0 0) [] := PaL.nil _ _
    obtain ⟨g, hg⟩ : ∃ g, g = w3.heap.size := ⟨_, rfl⟩
    have hgl : w.heap.size < g := by have := KR.lt; omega
    rw [← hg] at K7 ⊢
    clear hg KR hB hrt hrb hv1 hv2 k0 k1 f0 f1 hb1 hb2 hb3 ct clo cp2 hr12 hz12 K0 hB0
    generalize w3.alloc (.cells #[.slice none 0 0, .slice A2 cs.length c2] 68) = W3 at *
    generalize hNc : cs.length = Nc at *
    have HNC := Lib.hid hNc
    clear hNc
    go_loopw [32] (fun iv wr => ∃ (k : Nat) (ps : List Sim) (vp : Value), k ≤ M ∧ iv = .int .i64 k ∧ Hid (allS (ts.take k) = some ps) ∧ ps.length = k ∧ PaL wr w.heap.size vp ps ∧ Blk wr g 68 #[vp, .slice A2 Nc c2] ∧ Blk wr w.heap.size 68 #[.slice none 0 0, .slice none 0 0] ∧ Row wr w.heap.size 9 1 txC (.slice A1 M c1) ts ∧ Row wr w.heap.size 4 1 boC (.slice A2 Nc c2) cs ∧ Below w.heap.size w wr) (fun iv _ => M - (intOf iv).toNat)
    case atStart => exact ⟨0, [], _, Nat.zero_le _, rfl, rfl, rfl, hP7, K7, KR7, hrt7, hrb7, hB7⟩
    case round =>
      obtain ⟨k, ps, vp, hk, rfl, HA, hpl, hP, KG, KR, hrt, hrb, hBr⟩ := hrel
      clear hP7 K7 KR7 hrt7 hrb7 hB7
      obtain ⟨Ap, cp, hvp⟩ := hP.form
      rw [hpl] at hvp
      subst hvp
      by_cases hlt : k < M
      · obtain ⟨t, htk⟩ : ∃ t, ts[k]? = some t := ⟨_, List.getElem?_eq_getElem (by rw [← HM.out]; exact hlt)⟩
        have htl : t.length ≤ 100000 := HTL.out t (List.mem_of_getElem? htk)
        have cs1 := readSimple_any t htl wr
        have hrd := hrt.reads.1
        have hki : (k : Int) < (M : Int) := by omega
        have HT1 : Hid (allS (ts.take (k + 1)) = match simF t with | none => none | some p => some (ps ++ [p])) := by
          show _ = _
          rw [List.take_add_one, htk]
          exact allS_snoc HA.out
        obtain ⟨ad, hAd, -, e0⟩ := tx_of hrd htk
        subst hAd
        cases hs : simF t with
        | none =>
          rw [hs] at cs1 HT1
          obtain rfl : R = none := by rw [HR3.out, allS_none HT1.out]
          clear HR3 HT1 HA htk hs hrd
          go_wp2_with (first
            | (go_at_call 99; (with_reducible refine cs1.mono ?_); rintro e w4 ⟨hsr, hb4⟩
               obtain rfl := hsr
               have KR4 := (KR.next hb4).alloc (.cells #[.string ⟨#[]⟩, .slice none 0 0, .slice none 0 0, .bool false, .bool false] 70)
               have hB4 := below_al (below_next hBr hb4) (.cells #[.string ⟨#[]⟩, .slice none 0 0, .slice none 0 0, .bool false, .bool false] 70)
               obtain ⟨k0, k1⟩ := blk2 KR4
               obtain ⟨f0, f1⟩ := fz2 KR4))
          have K5 := blk_set2 KR4 (.slice none 0 0) (.slice none 0 0)
          have B5 := below_set2 hB4 (Nat.le_refl w.heap.size) (.slice none 0 0) (.slice none 0 0)
          generalize ((w4.alloc (.cells #[.string ⟨#[]⟩, .slice none 0 0, .slice none 0 0, .bool false, .bool false] 70)).setCell ⟨w.heap.size, 0, none⟩ (.slice none 0 0)).setCell ⟨w.heap.size, 1, none⟩ (.slice none 0 0) = WF at *
          obtain ⟨r0, r1⟩ := blk2 K5
          exact bodyPost_ret (v := .tuple #[.agg #[.slice none 0 0, .slice none 0 0], .bool false]) (by simp [results, Tryz.results52, go_sem, r0, r1]) rfl ⟨rfl, B5⟩
        | some p =>
          rw [hs] at cs1 HT1
          obtain ⟨cs0, hrow, hcl0, hall⟩ := hP
          clear HA htk hs hrd
          have hpl2 : (ps ++ [p]).length = k + 1 := by rw [List.length_append, List.length_singleton, hpl]
          go_wp2_with (first
            | (go_at_call 99; (with_reducible refine cs1.mono ?_); rintro e w4 ⟨⟨vi, vc, rfl, hri, hrc⟩, hb4⟩
               obtain ⟨Ai, ci, rfl⟩ := hri.form
               obtain ⟨Ac, cc, rfl⟩ := hrc.form
               unfold siV
               have hri6 := ((row_less hri hBr.size).alloc (.cells #[.string (toB p.tag), .slice Ai p.ids.length ci, .slice Ac p.classes.length cc, .bool p.link, .bool p.visited] 70)).alloc (.cells #[.string (toB p.tag), .slice Ai p.ids.length ci, .slice Ac p.classes.length cc, .bool p.link, .bool p.visited] 70)
               have hrc6 := ((row_less hrc hBr.size).alloc (.cells #[.string (toB p.tag), .slice Ai p.ids.length ci, .slice Ac p.classes.length cc, .bool p.link, .bool p.visited] 70)).alloc (.cells #[.string (toB p.tag), .slice Ai p.ids.length ci, .slice Ac p.classes.length cc, .bool p.link, .bool p.visited] 70)
               have hA : Below wr.heap.size wr ((w4.alloc (.cells #[.string (toB p.tag), .slice Ai p.ids.length ci, .slice Ac p.classes.length cc, .bool p.link, .bool p.visited] 70)).alloc (.cells #[.string (toB p.tag), .slice Ai p.ids.length ci, .slice Ac p.classes.length cc, .bool p.link, .bool p.visited] 70)) := below_al (below_al hb4 _) _
               have hY := hrow.below hA
               have KG4 := KG.next hb4
               have KG5 := KG4.alloc (.cells #[.string (toB p.tag), .slice Ai p.ids.length ci, .slice Ac p.classes.length cc, .bool p.link, .bool p.visited] 70)
               obtain ⟨k0, -⟩ := blk2 KG5
               have KG6 := KG.next hA
               have KR6 := KR.next hA
               have hrt6 := hrt.below hA
               have hrb6 := hrb.below hA
               have hB6 := below_next hBr hA
               have hnc : ∀ (j : Nat) (u : Value), (scC ⟨toB p.tag, Ai, p.ids.length, ci, Ac, p.classes.length, cc, p.link, p.visited⟩)[j]? = some u → ((w4.alloc (.cells #[.string (toB p.tag), .slice Ai p.ids.length ci, .slice Ac p.classes.length cc, .bool p.link, .bool p.visited] 70)).alloc (.cells #[.string (toB p.tag), .slice Ai p.ids.length ci, .slice Ac p.classes.length cc, .bool p.link, .bool p.visited] 70)).cell? ⟨(w4.alloc (.cells #[.string (toB p.tag), .slice Ai p.ids.length ci, .slice Ac p.classes.length cc, .bool p.link, .bool p.visited] 70)).heap.size, j, none⟩ = some u := RowG.new_cells (w4.alloc (.cells #[.string (toB p.tag), .slice Ai p.ids.length ci, .slice Ac p.classes.length cc, .bool p.link, .bool p.visited] 70)) 70 (scC ⟨toB p.tag, Ai, p.ids.length, ci, Ac, p.classes.length, cc, p.link, p.visited⟩)
               rw [size_al] at hnc)
            | (refine RowG.wpList_more _ (by rfl) _ _ 66 (by rfl) 70 scC 5 72 _ info_sim Tryz.underlying66 rfl (by decide) scC_len scC_one w.heap.size _ cs0 ⟨toB p.tag, Ai, p.ids.length, ci, Ac, p.classes.length, cc, p.link, p.visited⟩ (by rfl) (w4.heap.size + 1) _ (by rfl) hY hnc (by simp only [maxLen]; omega) (by omega) hB6.size ?_
               intro v7 w7 hrow7 hg7 ho7
               obtain ⟨A7, c7, hv7⟩ := hrow7.form
               rw [List.length_append, List.length_singleton, hcl0, hpl] at hv7
               subst hv7
               have KG7 := blk_kt KG6 (KT.grown (e := 68) hY hg7 (by decide))
               obtain ⟨g0, g1⟩ := blk2 KG7
               obtain ⟨h0, h1⟩ := fz2 KG7))
          have hks := KT.set (e := 9) KG7 (by decide) 0 (.slice A7 (k + 1) c7)
          have hkt := (KT.grown (e := 9) hY hg7 (by decide)).trans hks
          have hkb := (KT.grown (e := 4) hY hg7 (by decide)).trans (KT.set (e := 4) KG7 (by decide) 0 (.slice A7 (k + 1) c7))
          have hP8 := PaL.more (fun i c q a b => (hall i c q a b).kt (.below hA _)) hcl0 (row_kt hrow7 (KT.set (e := 70) KG7 (by decide) 0 (.slice A7 (k + 1) c7))) hkt (show SIm _ w.heap.size ⟨toB p.tag, Ai, p.ids.length, ci, Ac, p.classes.length, cc, p.link, p.visited⟩ p from ⟨rfl, hri6, hrc6, rfl, rfl⟩)
          have KG8 := KG7.set_ 0 (.slice A7 (k + 1) c7)
          have KR8 := blk_setOther (p := ⟨g, 0, none⟩) (blk_kt KR6 (KT.grown (e := 68) hY hg7 (by decide))) (Nat.ne_of_lt hgl) (.slice A7 (k + 1) c7)
          have hB8 : Below w.heap.size w (w7.setCell ⟨g, 0, none⟩ (.slice A7 (k + 1) c7)) := (hB6.grown hg7 hB6.size (fun j hj => (World.ownsRow.lt hY j hj).1)).setCell (Nat.le_of_lt hgl) _
          go_roundw
          case rel => exact ⟨k + 1, ps ++ [p], _, by omega, by go_num, HT1, hpl2, hP8, KG8, KR8, row_kt hrt6 hkt, row_kt hrb6 hkb, hB8⟩
          case measure => simp [intOf]; omega
      · obtain rfl : k = M := by omega
        have hfin : R = some ⟨ps, cs⟩ := by
          have h1 := HA.out
          rw [List.take_of_length_le (by rw [← HM.out]; exact Nat.le_refl _)] at h1
          rw [HR3.out, h1]
        obtain ⟨g0, g1⟩ := blk2 KG
        obtain ⟨k0, k1⟩ := blk2 KR
        obtain ⟨f0, f1⟩ := fz2 KR
        clear HR3 HA
        go_wp2
        have K5 := blk_set2 KR (.slice Ap k cp) (.slice A2 Nc c2)
        have B5 := below_set2 hBr (Nat.le_refl w.heap.size) (.slice Ap k cp) (.slice A2 Nc c2)
        have hP5 := hP.kt (kt_set2 (e := 70) KR (by decide) (.slice Ap k cp) (.slice A2 Nc c2)) (kt_set2 (e := 9) KR (by decide) (.slice Ap k cp) (.slice A2 Nc c2))
        have hb5 := row_kt hrb (kt_set2 (e := 4) KR (by decide) (.slice Ap k cp) (.slice A2 Nc c2))
        generalize (wr.setCell ⟨w.heap.size, 0, none⟩ (.slice Ap k cp)).setCell ⟨w.heap.size, 1, none⟩ (.slice A2 Nc c2) = WF at *
        obtain ⟨r0, r1⟩ := blk2 K5
        exact bodyPost_ret (v := .tuple #[.agg #[.slice Ap k cp, .slice A2 Nc c2], .bool true]) (by simp [results, Tryz.results52, go_sem, r0, r1]) rfl ⟨by rw [hfin]; exact ⟨_, _, rfl, hP5, hb5⟩, B5⟩
end Sel
end Go.Proofs.YtdfcahdipalmkaaGreatDoor
namespace Go.Proofs.YtdfcahdipalmkaaGreatDoor
open Go.ChangeShapes Go.WideShapes Go.ChangeAt Go.RowKit Go.Shelf
namespace Sel
open Tok
open RowG (Row)
/-- A part that lies in memory. -/
def ScR (w : World) (B : Nat) (c : SC) (p : Sim) : Prop := c.t = toB p.tag ∧ (c.m = p.ids.length ∧ Reads w B 1 c.A c.m (p.ids.flatMap txC)) ∧ (c.n = p.classes.length ∧ Reads w B 1 c.K c.n (p.classes.flatMap txC)) ∧ c.l = p.link ∧ c.v = p.visited
/-- Parts that lie in memory. -/
def SLR (w : World) (B : Nat) (A : Option Addr) (n : Nat) (ps : List Sim) : Prop := ∃ cs : List SC, Reads w B 5 A n (cs.flatMap scC) ∧ cs.length = ps.length ∧ ∀ (i : Nat) (c : SC) (p : Sim), cs[i]? = some c → ps[i]? = some p → ScR w B c p
def BLR (w : World) (B : Nat) (A : Option Addr) (n : Nat) (bs : List Bool) : Prop := Reads w B 1 A n (bs.flatMap boC)
theorem ScR.below {w w' : World} {B B' : Nat} {c : SC} {p : Sim} (h : ScR w B c p) (hb : Below B w w') (hB : B ≤ B') : ScR w' B' c p := by
  obtain ⟨h1, ⟨h2, h3⟩, ⟨h4, h5⟩, h6⟩ := h
  exact ⟨h1, ⟨h2, (h3.below hb).more hB⟩, ⟨h4, (h5.below hb).more hB⟩, h6⟩
theorem SLR.below {w w' : World} {B B' n : Nat} {A : Option Addr} {ps : List Sim} (h : SLR w B A n ps) (hb : Below B w w') (hB : B ≤ B') : SLR w' B' A n ps := by
  obtain ⟨cs, h1, h2, h3⟩ := h
  exact ⟨cs, (h1.below hb).more hB, h2, fun i c p a b => (h3 i c p a b).below hb hB⟩
theorem SLR.len {w : World} {B n : Nat} {A : Option Addr} {ps : List Sim} (h : SLR w B A n ps) : ps.length = n := by
  obtain ⟨cs, h1, h2, -⟩ := h
  have := h1.1
  rw [flat_len scC_len] at this
  omega
theorem BLR.len {w : World} {B n : Nat} {A : Option Addr} {bs : List Bool} (h : BLR w B A n bs) : bs.length = n := by
  have := h.1
  rw [flat_len boC_len] at this
  omega
theorem BLR.below {w w' : World} {B B' n : Nat} {A : Option Addr} {bs : List Bool} (h : BLR w B A n bs) (hb : Below B w w') (hB : B ≤ B') : BLR w' B' A n bs := (Reads.below h hb).more hB
theorem PaL.reads {w : World} {base n c : Nat} {A : Option Addr} {ps : List Sim} (h : PaL w base (.slice A n c) ps) : SLR w w.heap.size A n ps ∧ n = ps.length := by
  obtain ⟨cs, h1, h2, h3⟩ := h
  obtain ⟨h4, h5⟩ := h1.reads
  rw [← h5] at h4
  refine ⟨⟨cs, h4, h2, fun i c p hc hp => ?_⟩, by rw [h5, h2]⟩
  obtain ⟨q1, q2, q3, q4, q5⟩ := h3 i c p hc hp
  obtain ⟨r1, r2⟩ := q2.reads
  obtain ⟨r3, r4⟩ := q3.reads
  rw [← r2] at r1
  rw [← r4] at r3
  exact ⟨q1, ⟨r2, r1⟩, ⟨r4, r3⟩, q4, q5⟩
theorem sim_of {w : World} {B n k : Nat} {A : Option Addr} {l : List SC} {r : SC} (h : Reads w B 5 A n (l.flatMap scC)) (hk : l[k]? = some r) :
    ∃ ad, A = some ad ∧ ad.block < B ∧ w.cell? (ad.add (k * 5)) = some (.string r.t) ∧ w.cell? ⟨(ad.add (k * 5)).block, (ad.add (k * 5)).off + 1, none⟩ = some (.slice r.A r.m r.a) ∧
      w.cell? ⟨(ad.add (k * 5)).block, (ad.add (k * 5)).off + 2, none⟩ = some (.slice r.K r.n r.d) ∧ w.cell? ⟨(ad.add (k * 5)).block, (ad.add (k * 5)).off + 3, none⟩ = some (.bool r.l) ∧ w.cell? ⟨(ad.add (k * 5)).block, (ad.add (k * 5)).off + 4, none⟩ = some (.bool r.v) := by
  have hl : l.length = n := by have := h.1; rw [flat_len scC_len] at this; omega
  have hkl := (List.getElem?_eq_some_iff.1 hk).1
  obtain ⟨ad, e, hb, hc⟩ := h.2 (by omega)
  have f0 := flat_at scC_len l k r 0 hk (by decide)
  have f1 := flat_at scC_len l k r 1 hk (by decide)
  have f2 := flat_at scC_len l k r 2 hk (by decide)
  have f3 := flat_at scC_len l k r 3 hk (by decide)
  have f4 := flat_at scC_len l k r 4 hk (by decide)
  refine ⟨ad, e, hb, hc _ _ f0, ?_, ?_, ?_, ?_⟩
  · have := hc _ _ f1; rwa [← add_of_add, add_one] at this
  · have := hc _ _ f2; rwa [← add_of_add, add_one] at this
  · have := hc _ _ f3; rwa [← add_of_add, add_one] at this
  · have := hc _ _ f4; rwa [← add_of_add, add_one] at this
theorem SLR.at_ {w : World} {B n k : Nat} {A : Option Addr} {ps : List Sim} {p : Sim} (h : SLR w B A n ps) (hk : ps[k]? = some p) :
    ∃ (ad : Addr) (iA : Option Addr) (ic : Nat) (cA : Option Addr) (cc : Nat), A = some ad ∧ ad.block < B ∧ w.cell? (ad.add (k * 5)) = some (.string (toB p.tag)) ∧ w.cell? ⟨(ad.add (k * 5)).block, (ad.add (k * 5)).off + 1, none⟩ = some (.slice iA p.ids.length ic) ∧
      w.cell? ⟨(ad.add (k * 5)).block, (ad.add (k * 5)).off + 2, none⟩ = some (.slice cA p.classes.length cc) ∧ w.cell? ⟨(ad.add (k * 5)).block, (ad.add (k * 5)).off + 3, none⟩ = some (.bool p.link) ∧ w.cell? ⟨(ad.add (k * 5)).block, (ad.add (k * 5)).off + 4, none⟩ = some (.bool p.visited) ∧
      Reads w B 1 iA p.ids.length (p.ids.flatMap txC) ∧ Reads w B 1 cA p.classes.length (p.classes.flatMap txC) := by
  have hl := h.len
  obtain ⟨cs, h1, h2, h3⟩ := h
  have hkl := (List.getElem?_eq_some_iff.1 hk).1
  obtain ⟨c, hc⟩ : ∃ c, cs[k]? = some c := ⟨_, List.getElem?_eq_getElem (by omega)⟩
  obtain ⟨q1, ⟨q2, q3⟩, ⟨q4, q5⟩, q6, q7⟩ := h3 k c p hc hk
  obtain ⟨ad, e, hb, e0, e1, e2, e3, e4⟩ := sim_of h1 hc
  rw [q1] at e0
  rw [q2] at e1 q3
  rw [q4] at e2 q5
  rw [q6] at e3
  rw [q7] at e4
  exact ⟨ad, c.A, c.a, c.K, c.d, e, hb, e0, e1, e2, e3, e4, q3, q5⟩
theorem b1_le (b : Bool) : b1 b ≤ 1 := by cases b <;> decide
theorem idx2_0 (l v : Bool) (w : World) : (Instr.index 223 (.agg #[.bool l, .bool v]) (.int .i64 0)).run Tryz.prog w = .ok (.bool l) w := by kernel_rfl
theorem idx2_1 (l v : Bool) (w : World) : (Instr.index 223 (.agg #[.bool l, .bool v]) (.int .i64 1)).run Tryz.prog w = .ok (.bool v) w := by kernel_rfl
set_option maxRecDepth 100000 in
set_option maxHeartbeats 4000000 in
theorem states_any (t : ByteArray) (A K : Option Addr) (m a n d : Nat) (l v : Bool) (w : World) :
    Calls Tryz.prog 165 #[.agg #[.string t, .slice A m a, .slice K n d, .bool l, .bool v]] w fun e w' => e = .returned (.int .i64 ((b1 l + b1 v : Nat) : Int)) ∧ Below w.heap.size w w' := by
  have hB := below_al (Below.refl w.heap.size w) (.cells #[.string t, .slice A m a, .slice K n d, .bool l, .bool v] 70)
  have hi0 := fun w => idx2_0 l v w
  have hi1 := fun w => idx2_1 l v w
  go_enter Tryz.func165, Tryz.ntmps165
  go_wp2
  generalize w.alloc (.cells #[.string t, .slice A m a, .slice K n d, .bool l, .bool v] 70) = W at *
  go_loopw [3, 11] (fun nv iv wr => ∃ k : Nat, k ≤ 2 ∧ iv = .int .i64 k ∧ nv = .int .i64 ((if k = 0 then 0 else if k = 1 then b1 l else b1 l + b1 v : Nat) : Int) ∧ W = wr) (fun _ iv _ => 2 - (intOf iv).toNat)
  case atStart => exact ⟨0, by omega, rfl, rfl, rfl⟩
  case round =>
    obtain ⟨k, hk, rfl, rfl, rfl⟩ := hrel
    rcases (by omega : k = 0 ∨ k = 1 ∨ k = 2) with rfl | rfl | rfl
    · rw [show ((0 : Nat) : Int) = 0 from rfl]
      cases l with
      | true =>
        go_wp2
        go_roundw
        case rel => exact ⟨1, by omega, rfl, rfl, by first | rfl | trivial⟩
        case measure => decide
      | false =>
        go_wp2
        go_roundw
        case rel => exact ⟨1, by omega, rfl, rfl, by first | rfl | trivial⟩
        case measure => decide
    · have h1 : ((if (1 : Nat) = 0 then 0 else if (1 : Nat) = 1 then b1 l else b1 l + b1 v : Nat) : Int) = (b1 l : Int) := rfl
      rw [show ((1 : Nat) : Int) = 1 from rfl, h1]
      have hb0 := b1_le l
      clear h1
      cases v with
      | true =>
        have hn : ((b1 l : Nat) : Int) + 1 = ((b1 l + b1 true : Nat) : Int) := by show _ = (((b1 l) + 1 : Nat) : Int); omega
        have HN := Lib.hid hn
        clear hn
        go_wp2
        go_roundw
        case rel => exact ⟨2, by omega, rfl, by first | (rw [HN.out]; rfl) | (show _ = Value.int .i64 ((b1 l + b1 true : Nat) : Int); rw [← HN.out]), by first | rfl | trivial⟩
        case measure => decide
      | false =>
        go_wp2
        go_roundw
        case rel => exact ⟨2, by omega, rfl, rfl, by first | rfl | trivial⟩
        case measure => decide
    · go_wp2
      go_ret
      exact ⟨rfl, hB⟩
/-- Not too many. -/
def Few (x : List Sim) : Prop := ∀ p ∈ x, p.ids.length ≤ 1000000 ∧ p.classes.length ≤ 1000000
theorem weigh_snoc {ps : List Sim} {k : Nat} {p : Sim} (h : ps[k]? = some p) : ((ps.take (k + 1)).map wS).sum = ((ps.take k).map wS).sum + (10000 * p.ids.length + 100 * (p.classes.length + (b1 p.link + b1 p.visited)) + (if p.tag = [] then 0 else 1)) := by
  rw [List.take_add_one, h]
  simp [wS]
theorem weigh_le {ps : List Sim} (h : Few ps) (k : Nat) : ((ps.take k).map wS).sum ≤ k * 20000000000 := by
  induction k with
  | zero => simp
  | succ k ih =>
    cases hk : ps[k]? with
    | none =>
      have e : ps.take (k + 1) = ps.take k := by rw [List.take_add_one, hk]; simp
      rw [e, Nat.add_mul, Nat.one_mul]
      exact Nat.le_trans ih (Nat.le_add_right _ _)
    | some p =>
      rw [weigh_snoc hk]
      obtain ⟨h1, h2⟩ := h p (List.mem_of_getElem? hk)
      have h3 := b1_le p.link
      have h4 := b1_le p.visited
      have h5 : (if p.tag = [] then 0 else 1) ≤ 1 := by split <;> omega
      generalize ((ps.take k).map wS).sum = X at *
      generalize (if p.tag = [] then 0 else 1) = Y at *
      rw [Nat.add_mul, Nat.one_mul]
      omega
end Sel
end Go.Proofs.YtdfcahdipalmkaaGreatDoor
namespace Go.Proofs.YtdfcahdipalmkaaGreatDoor
open Go.ChangeShapes Go.WideShapes Go.ChangeAt Go.RowKit Go.Shelf
namespace Sel
open Tok
open RowG (Row)
theorem toB_toL (l : List UInt8) : (toB l).toList = l := by rw [ByteArray.toList_eq]; rfl
theorem bo_of {w : World} {B n k : Nat} {A : Option Addr} {l : List Bool} {x : Bool} (h : Reads w B 1 A n (l.flatMap boC)) (hk : l[k]? = some x) : ∃ ad, A = some ad ∧ ad.block < B ∧ w.cell? (ad.add k) = some (.bool x) := by
  have hl : l.length = n := by have := h.1; rw [flat_len boC_len] at this; omega
  have hkl := (List.getElem?_eq_some_iff.1 hk).1
  obtain ⟨ad, e, hb, hc⟩ := h.2 (by omega)
  have := hc _ _ (flat_at boC_len l k x 0 hk (by decide))
  rw [Nat.mul_one, Nat.add_zero] at this
  exact ⟨ad, e, hb, this⟩
set_option maxRecDepth 100000 in
set_option maxHeartbeats 8000000 in
theorem equalS_any (A : Option Addr) (n c : Nat) (A2 : Option Addr) (n2 c2 : Nat) (l m : List (List UInt8)) (hn : n ≤ 1000000) (w : World) (h1 : Reads w w.heap.size 1 A n (l.flatMap txC)) (h2 : Reads w w.heap.size 1 A2 n2 (m.flatMap txC)) :
    Calls Tryz.prog 170 #[.slice A n c, .slice A2 n2 c2] w fun e w' => e = .returned (.bool (decide (l = m))) ∧ Below w.heap.size w w' := by
  have hl : l.length = n := by have := h1.1; rw [flat_len txC_len] at this; omega
  have hm : m.length = n2 := by have := h2.1; rw [flat_len txC_len] at this; omega
  by_cases hnn : n = n2
  · subst hnn
    obtain ⟨R, hR⟩ : ∃ R, R = decide (l = m) := ⟨_, rfl⟩
    rw [← hR]
    have HL := Lib.hid hl
    have HM := Lib.hid hm
    have HR := Lib.hid hR
    clear hl hm hR
    go_enter Tryz.func170, Tryz.ntmps170
    go_wp2
    go_loopw [13] (fun iv wr => ∃ k : Nat, k ≤ n ∧ iv = .int .i64 k ∧ Hid (l.take k = m.take k) ∧ Below w.heap.size w wr) (fun iv _ => n - (intOf iv).toNat)
    case atStart => exact ⟨0, Nat.zero_le _, rfl, rfl, Below.refl _ _⟩
    case round =>
      obtain ⟨k, hk, rfl, HK, hBr⟩ := hrel
      by_cases hlt : k < n
      · obtain ⟨x, hx⟩ : ∃ x, l[k]? = some x := ⟨_, List.getElem?_eq_getElem (by rw [HL.out]; exact hlt)⟩
        obtain ⟨y, hy⟩ : ∃ y, m[k]? = some y := ⟨_, List.getElem?_eq_getElem (by rw [HM.out]; exact hlt)⟩
        obtain ⟨a1, rfl, -, k1⟩ := tx_of (h1.below hBr) hx
        obtain ⟨a2, rfl, -, k2⟩ := tx_of (h2.below hBr) hy
        have hki : (k : Int) < (n : Int) := by omega
        have hk0 : (0 : Int) ≤ (k : Int) := Int.natCast_nonneg _
        by_cases hxy : x = y
        · have hq : ((toB x).toList == (toB y).toList) = true := by rw [lit_eq, toB_toL]; simp [hxy]
          have HK2 : Hid (l.take (k + 1) = m.take (k + 1)) := by show _ = _; rw [List.take_add_one, List.take_add_one, HK.out, hx, hy, hxy]
          clear hx hy h1 h2 HK hxy
          go_upto_region 6 with (fail)
          go_quiet (fail)
          go_wp2
          go_roundw
          case rel => exact ⟨k + 1, by omega, by go_num, HK2, below_dr hBr nq⟩
          case measure => simp [intOf]; omega
        · have hq : ((toB x).toList == (toB y).toList) = false := by rw [lit_eq, toB_toL]; simp [hxy]
          obtain rfl : R = false := by
            rw [HR.out]
            refine decide_eq_false (fun e => hxy ?_)
            rw [e, hy] at hx
            exact (Option.some.inj hx).symm
          clear hx hy h1 h2 HK hxy
          go_upto_region 6 with (fail)
          go_quiet (fail)
          go_wp2
          go_ret
          exact ⟨rfl, below_dr hBr nq⟩
      · obtain rfl : k = n := by omega
        obtain rfl : R = true := by
          rw [HR.out]
          have := HK.out
          rw [List.take_of_length_le (by rw [HL.out]; exact Nat.le_refl _), List.take_of_length_le (by rw [HM.out]; exact Nat.le_refl _)] at this
          exact decide_eq_true this
        clear HK
        go_wp2
        go_ret
        exact ⟨rfl, hBr⟩
  · have hne : decide (l = m) = false := decide_eq_false (fun e => hnn (by rw [← hl, ← hm, e]))
    rw [hne]
    have hb : ((n : Int) == (n2 : Int)) = false := by rw [beq_eq_false_iff_ne]; omega
    clear hl hm hnn hne h1 h2
    go_enter Tryz.func170, Tryz.ntmps170
    go_wp2
    go_ret
    exact ⟨rfl, Below.refl _ _⟩
set_option maxRecDepth 100000 in
set_option maxHeartbeats 8000000 in
theorem equalB_any (A : Option Addr) (n c : Nat) (A2 : Option Addr) (n2 c2 : Nat) (l m : List Bool) (hn : n ≤ 1000000) (w : World) (h1 : Reads w w.heap.size 1 A n (l.flatMap boC)) (h2 : Reads w w.heap.size 1 A2 n2 (m.flatMap boC)) :
    Calls Tryz.prog 130 #[.slice A n c, .slice A2 n2 c2] w fun e w' => e = .returned (.bool (decide (l = m))) ∧ Below w.heap.size w w' := by
  have hl : l.length = n := by have := h1.1; rw [flat_len boC_len] at this; omega
  have hm : m.length = n2 := by have := h2.1; rw [flat_len boC_len] at this; omega
  by_cases hnn : n = n2
  · subst hnn
    obtain ⟨R, hR⟩ : ∃ R, R = decide (l = m) := ⟨_, rfl⟩
    rw [← hR]
    have HL := Lib.hid hl
    have HM := Lib.hid hm
    have HR := Lib.hid hR
    clear hl hm hR
    go_enter Tryz.func130, Tryz.ntmps130
    go_wp2
    go_loopw [13] (fun iv wr => ∃ k : Nat, k ≤ n ∧ iv = .int .i64 k ∧ Hid (l.take k = m.take k) ∧ Below w.heap.size w wr) (fun iv _ => n - (intOf iv).toNat)
    case atStart => exact ⟨0, Nat.zero_le _, rfl, rfl, Below.refl _ _⟩
    case round =>
      obtain ⟨k, hk, rfl, HK, hBr⟩ := hrel
      by_cases hlt : k < n
      · obtain ⟨x, hx⟩ : ∃ x, l[k]? = some x := ⟨_, List.getElem?_eq_getElem (by rw [HL.out]; exact hlt)⟩
        obtain ⟨y, hy⟩ : ∃ y, m[k]? = some y := ⟨_, List.getElem?_eq_getElem (by rw [HM.out]; exact hlt)⟩
        obtain ⟨a1, rfl, -, k1⟩ := bo_of (h1.below hBr) hx
        obtain ⟨a2, rfl, -, k2⟩ := bo_of (h2.below hBr) hy
        have hki : (k : Int) < (n : Int) := by omega
        have hk0 : (0 : Int) ≤ (k : Int) := Int.natCast_nonneg _
        by_cases hxy : x = y
        · have hq : (x == y) = true := by simp [hxy]
          have HK2 : Hid (l.take (k + 1) = m.take (k + 1)) := by show _ = _; rw [List.take_add_one, List.take_add_one, HK.out, hx, hy, hxy]
          clear hx hy h1 h2 HK hxy
          go_upto_region 6 with (fail)
          go_quiet (fail)
          go_wp2
          go_roundw
          case rel => exact ⟨k + 1, by omega, by go_num, HK2, below_dr hBr nq⟩
          case measure => simp [intOf]; omega
        · have hq : (x == y) = false := by simp [hxy]
          obtain rfl : R = false := by
            rw [HR.out]
            refine decide_eq_false (fun e => hxy ?_)
            rw [e, hy] at hx
            exact (Option.some.inj hx).symm
          clear hx hy h1 h2 HK hxy
          go_upto_region 6 with (fail)
          go_quiet (fail)
          go_wp2
          go_ret
          exact ⟨rfl, below_dr hBr nq⟩
      · obtain rfl : k = n := by omega
        obtain rfl : R = true := by
          rw [HR.out]
          have := HK.out
          rw [List.take_of_length_le (by rw [HL.out]; exact Nat.le_refl _), List.take_of_length_le (by rw [HM.out]; exact Nat.le_refl _)] at this
          exact decide_eq_true this
        clear HK
        go_wp2
        go_ret
        exact ⟨rfl, hBr⟩
  · have hne : decide (l = m) = false := decide_eq_false (fun e => hnn (by rw [← hl, ← hm, e]))
    rw [hne]
    have hb : ((n : Int) == (n2 : Int)) = false := by rw [beq_eq_false_iff_ne]; omega
    clear hl hm hnn hne h1 h2
    go_enter Tryz.func130, Tryz.ntmps130
    go_wp2
    go_ret
    exact ⟨rfl, Below.refl _ _⟩
set_option maxRecDepth 100000 in
set_option maxHeartbeats 16000000 in
theorem same1_any (p q : Sim) (pA pK qA qK : Option Addr) (pc pd qc qd : Nat) (hpf : p.ids.length ≤ 1000000 ∧ p.classes.length ≤ 1000000) (w : World) (h1 : Reads w w.heap.size 1 pA p.ids.length (p.ids.flatMap txC)) (h2 : Reads w w.heap.size 1 pK p.classes.length (p.classes.flatMap txC)) (h3 : Reads w w.heap.size 1 qA q.ids.length (q.ids.flatMap txC)) (h4 : Reads w w.heap.size 1 qK q.classes.length (q.classes.flatMap txC)) :
    Calls Tryz.prog 129 #[.agg #[.string (toB p.tag), .slice pA p.ids.length pc, .slice pK p.classes.length pd, .bool p.link, .bool p.visited], .agg #[.string (toB q.tag), .slice qA q.ids.length qc, .slice qK q.classes.length qd, .bool q.link, .bool q.visited]] w fun e w' => e = .returned (.bool (decide (p = q))) ∧ Below w.heap.size w w' := by
  have hB := below_al (below_al (Below.refl w.heap.size w) (.cells #[.string (toB p.tag), .slice pA p.ids.length pc, .slice pK p.classes.length pd, .bool p.link, .bool p.visited] 70)) (.cells #[.string (toB q.tag), .slice qA q.ids.length qc, .slice qK q.classes.length qd, .bool q.link, .bool q.visited] 70)
  have K1 := (Blk.new w 70 #[.string (toB p.tag), .slice pA p.ids.length pc, .slice pK p.classes.length pd, .bool p.link, .bool p.visited]).alloc (.cells #[.string (toB q.tag), .slice qA q.ids.length qc, .slice qK q.classes.length qd, .bool q.link, .bool q.visited] 70)
  have K2 := Blk.new (w.alloc (.cells #[.string (toB p.tag), .slice pA p.ids.length pc, .slice pK p.classes.length pd, .bool p.link, .bool p.visited] 70)) 70 #[.string (toB q.tag), .slice qA q.ids.length qc, .slice qK q.classes.length qd, .bool q.link, .bool q.visited]
  rw [size_al] at K2
  have ci := fun W (hb : Below w.heap.size w W) => equalS_any pA p.ids.length pc qA q.ids.length qc p.ids q.ids hpf.1 W ((h1.below hb).more hb.size) ((h3.below hb).more hb.size)
  have ck := fun W (hb : Below w.heap.size w W) => equalS_any pK p.classes.length pd qK q.classes.length qd p.classes q.classes hpf.2 W ((h2.below hb).more hb.size) ((h4.below hb).more hb.size)
  have u0 : ((toB p.tag).toList == (toB q.tag).toList) = decide (p.tag = q.tag) := by rw [lit_eq, toB_toL]
  have hR : decide (p = q) = (decide (p.tag = q.tag) && (p.link == q.link) && (p.visited == q.visited) && decide (p.ids = q.ids) && decide (p.classes = q.classes)) := by
    obtain ⟨a1, a2, a3, a4, a5⟩ := p
    obtain ⟨b1, b2, b3, b4, b5⟩ := q
    simp only [Sim.mk.injEq]
    by_cases e1 : a1 = b1 <;> by_cases e2 : a2 = b2 <;> by_cases e3 : a3 = b3 <;> cases a4 <;> cases b4 <;> cases a5 <;> cases b5 <;> simp [e1, e2, e3]
  rw [hR]
  clear hR h1 h2 h3 h4
  generalize hx0 : decide (p.tag = q.tag) = x0 at *
  generalize decide (p.ids = q.ids) = x3 at *
  generalize decide (p.classes = q.classes) = x4 at *
  obtain ⟨pt, pi, pk, pl, pv⟩ := p
  obtain ⟨qt, qi, qk, ql, qv⟩ := q
  simp only at *
  clear hx0
  generalize pi.length = a1 at *
  generalize pk.length = a2 at *
  generalize qi.length = a3 at *
  generalize qk.length = a4 at *
  generalize toB pt = tp at *
  generalize toB qt = tq at *
  generalize hx1 : (pl == ql) = x1 at *
  generalize hx2 : (pv == qv) = x2 at *
  go_enter Tryz.func129, Tryz.ntmps129
  cases x0 with
  | false =>
    clear ci ck hx1 hx2
    go_wp2
    go_ret
    exact ⟨rfl, hB⟩
  | true =>
  cases x1 with
  | false =>
    clear ci ck hx2
    go_wp2
    go_ret
    exact ⟨rfl, hB⟩
  | true =>
  cases x2 with
  | false =>
    clear ci ck
    go_wp2
    go_ret
    exact ⟨rfl, hB⟩
  | true =>
  have ci0 := ci _ hB
  cases x3 with
  | false =>
    go_wp2_with (first
      | (go_at_call 170; (with_reducible refine ci0.mono ?_); rintro e w3 ⟨rfl, hb3⟩))
    go_ret
    exact ⟨rfl, below_next hB hb3⟩
  | true =>
    go_wp2_with (first
      | (go_at_call 170; (with_reducible refine ci0.mono ?_); rintro e w3 ⟨rfl, hb3⟩
         have hB3 := below_next hB hb3
         have ck0 := ck w3 hB3
         have K13 := (K1.next hb3).cell 2
         have K23 := (K2.next hb3).cell 2
         simp only [List.getElem?_toArray, List.getElem?_cons_zero, List.getElem?_cons_succ] at K13 K23)
      | (go_at_call 170; (with_reducible refine ck0.mono ?_); rintro e w4 ⟨rfl, hb4⟩))
    go_ret
    exact ⟨by cases x4 <;> rfl, below_next hB3 hb4⟩
set_option maxRecDepth 100000 in
set_option maxHeartbeats 16000000 in
theorem equalF_any (A : Option Addr) (n c : Nat) (A2 : Option Addr) (n2 c2 : Nat) (ps qs : List Sim) (hn : n ≤ 1000000) (hf : Few ps) (w : World) (h1 : SLR w w.heap.size A n ps) (h2 : SLR w w.heap.size A2 n2 qs) :
    Calls Tryz.prog 128 #[.slice A n c, .slice A2 n2 c2, .func (.func 129) #[] #[]] w fun e w' => e = .returned (.bool (decide (ps = qs))) ∧ Below w.heap.size w w' := by
  have hl := h1.len
  have hm := h2.len
  by_cases hnn : n = n2
  · subst hnn
    obtain ⟨R, hR⟩ : ∃ R, R = decide (ps = qs) := ⟨_, rfl⟩
    rw [← hR]
    have HL := Lib.hid hl
    have HM := Lib.hid hm
    have HR := Lib.hid hR
    have HF := Lib.hid hf
    clear hl hm hR hf
    go_enter Tryz.func128, Tryz.ntmps128
    go_wp2
    go_loopw [17] (fun iv wr => ∃ k : Nat, k ≤ n ∧ iv = .int .i64 k ∧ Hid (ps.take k = qs.take k) ∧ Below w.heap.size w wr) (fun iv _ => n - (intOf iv).toNat)
    case atStart => exact ⟨0, Nat.zero_le _, rfl, rfl, Below.refl _ _⟩
    case round =>
      obtain ⟨k, hk, rfl, HK, hBr⟩ := hrel
      by_cases hlt : k < n
      · obtain ⟨p, hp⟩ : ∃ p, ps[k]? = some p := ⟨_, List.getElem?_eq_getElem (by rw [HL.out]; exact hlt)⟩
        obtain ⟨q, hq⟩ : ∃ q, qs[k]? = some q := ⟨_, List.getElem?_eq_getElem (by rw [HM.out]; exact hlt)⟩
        obtain ⟨ad, pA, pc, pK, pd, rfl, hb1, e0, e1, e2, e3, e4, r1, r2⟩ := (h1.below hBr (Nat.le_refl _)).at_ hp
        obtain ⟨ad2, qA, qc, qK, qd, rfl, hb2, g0, g1, g2, g3, g4, r3, r4⟩ := (h2.below hBr (Nat.le_refl _)).at_ hq
        have hpf := HF.out p (List.mem_of_getElem? hp)
        have hki : (k : Int) < (n : Int) := by omega
        have hk0 : (0 : Int) ≤ (k : Int) := Int.natCast_nonneg _
        have hww := hBr.size
        have hA1 := below_al (Below.refl wr.heap.size wr) (.cells #[.string (toB p.tag), .slice pA p.ids.length pc, .slice pK p.classes.length pd, .bool p.link, .bool p.visited] 70)
        have hA2 := below_al hA1 (.cells #[.string (toB q.tag), .slice qA q.ids.length qc, .slice qK q.classes.length qd, .bool q.link, .bool q.visited] 70)
        have hxl : (ad2.add (k * 5)).block < wr.heap.size := by rw [block_of_add]; omega
        have g0' := (hA1.cell (p := ad2.add (k * 5)) hxl).trans g0
        have g1' := (hA1.cell (p := ⟨(ad2.add (k * 5)).block, (ad2.add (k * 5)).off + 1, none⟩) hxl).trans g1
        have g2' := (hA1.cell (p := ⟨(ad2.add (k * 5)).block, (ad2.add (k * 5)).off + 2, none⟩) hxl).trans g2
        have g3' := (hA1.cell (p := ⟨(ad2.add (k * 5)).block, (ad2.add (k * 5)).off + 3, none⟩) hxl).trans g3
        have g4' := (hA1.cell (p := ⟨(ad2.add (k * 5)).block, (ad2.add (k * 5)).off + 4, none⟩) hxl).trans g4
        have hK1 := (Blk.new wr 70 #[.string (toB p.tag), .slice pA p.ids.length pc, .slice pK p.classes.length pd, .bool p.link, .bool p.visited]).alloc (.cells #[.string (toB q.tag), .slice qA q.ids.length qc, .slice qK q.classes.length qd, .bool q.link, .bool q.visited] 70)
        have y := blk5 hK1
        have cs := same1_any p q pA pK qA qK pc pd qc qd hpf ((wr.alloc (.cells #[.string (toB p.tag), .slice pA p.ids.length pc, .slice pK p.classes.length pd, .bool p.link, .bool p.visited] 70)).alloc (.cells #[.string (toB q.tag), .slice qA q.ids.length qc, .slice qK q.classes.length qd, .bool q.link, .bool q.visited] 70))
          ((r1.below (hA2.mono hww)).more (Nat.le_trans hww hA2.size)) ((r2.below (hA2.mono hww)).more (Nat.le_trans hww hA2.size)) ((r3.below (hA2.mono hww)).more (Nat.le_trans hww hA2.size)) ((r4.below (hA2.mono hww)).more (Nat.le_trans hww hA2.size))
        have hB2 := below_next hBr hA2
        by_cases hpq : p = q
        · have HK2 : Hid (ps.take (k + 1) = qs.take (k + 1)) := by show _ = _; rw [List.take_add_one, List.take_add_one, HK.out, hp, hq, hpq]
          rw [decide_eq_true hpq] at cs
          clear hp hq HK r1 r2 r3 r4 hpq
          obtain ⟨y0, y1, y2, y3, y4⟩ := y
          go_wp2_with (first
            | (go_at_call 129; (with_reducible refine cs.mono ?_); rintro e w5 ⟨rfl, hb5⟩))
          go_roundw
          case rel => exact ⟨k + 1, by omega, by go_num, HK2, below_next hB2 hb5⟩
          case measure => simp [intOf]; omega
        · obtain rfl : R = false := by
            rw [HR.out]
            refine decide_eq_false (fun e => hpq ?_)
            rw [e, hq] at hp
            exact (Option.some.inj hp).symm
          rw [decide_eq_false hpq] at cs
          clear hp hq HK r1 r2 r3 r4 hpq
          obtain ⟨y0, y1, y2, y3, y4⟩ := y
          go_wp2_with (first
            | (go_at_call 129; (with_reducible refine cs.mono ?_); rintro e w5 ⟨rfl, hb5⟩))
          go_ret
          exact ⟨rfl, below_next hB2 hb5⟩
      · obtain rfl : k = n := by omega
        obtain rfl : R = true := by
          rw [HR.out]
          have := HK.out
          rw [List.take_of_length_le (by rw [HL.out]; exact Nat.le_refl _), List.take_of_length_le (by rw [HM.out]; exact Nat.le_refl _)] at this
          exact decide_eq_true this
        clear HK
        go_wp2
        go_ret
        exact ⟨rfl, hBr⟩
  · have hne : decide (ps = qs) = false := decide_eq_false (fun e => hnn (by rw [← hl, ← hm, e]))
    rw [hne]
    have hb : ((n : Int) == (n2 : Int)) = false := by rw [beq_eq_false_iff_ne]; omega
    clear hl hm hnn hne h1 h2
    go_enter Tryz.func128, Tryz.ntmps128
    go_wp2
    go_ret
    exact ⟨rfl, Below.refl _ _⟩
set_option maxRecDepth 100000 in
set_option maxHeartbeats 8000000 in
theorem same_any (A K A2 K2 : Option Addr) (n c m d n2 c2 m2 d2 : Nat) (x y : Slr) (hn : n ≤ 1000000) (hm : m ≤ 1000000) (hf : Few x.parts) (w : World) (h1 : SLR w w.heap.size A n x.parts) (h2 : SLR w w.heap.size A2 n2 y.parts) (h3 : BLR w w.heap.size K m x.close) (h4 : BLR w w.heap.size K2 m2 y.close) :
    Calls Tryz.prog 92 #[.agg #[.slice A n c, .slice K m d], .agg #[.slice A2 n2 c2, .slice K2 m2 d2]] w fun e w' => e = .returned (.bool (decide (x = y))) ∧ Below w.heap.size w w' := by
  have hB := below_al (below_al (Below.refl w.heap.size w) (.cells #[.slice A n c, .slice K m d] 68)) (.cells #[.slice A2 n2 c2, .slice K2 m2 d2] 68)
  have K1 := (Blk.new w 68 #[.slice A n c, .slice K m d]).alloc (.cells #[.slice A2 n2 c2, .slice K2 m2 d2] 68)
  have K2' := Blk.new (w.alloc (.cells #[.slice A n c, .slice K m d] 68)) 68 #[.slice A2 n2 c2, .slice K2 m2 d2]
  rw [size_al] at K2'
  have ce := equalF_any A n c A2 n2 c2 x.parts y.parts hn hf _ (h1.below hB hB.size) (h2.below hB hB.size)
  have cb := fun W (hb : Below w.heap.size w W) => equalB_any K m d K2 m2 d2 x.close y.close hm W (h3.below hb hb.size) (h4.below hb hb.size)
  have hR : decide (x = y) = (decide (x.parts = y.parts) && decide (x.close = y.close)) := by
    obtain ⟨a, b⟩ := x
    obtain ⟨a', b'⟩ := y
    simp only [Slr.mk.injEq]
    by_cases e1 : a = a' <;> by_cases e2 : b = b' <;> simp [e1, e2]
  rw [hR]
  clear hR h1 h2 h3 h4
  generalize decide (x.parts = y.parts) = x0 at *
  generalize decide (x.close = y.close) = x1 at *
  go_enter Tryz.func92, Tryz.ntmps92
  cases x0 with
  | false =>
    go_wp2_with (first
      | (go_at_call 128; (with_reducible refine ce.mono ?_); rintro e w3 ⟨rfl, hb3⟩))
    go_ret
    exact ⟨rfl, below_next hB hb3⟩
  | true =>
    go_wp2_with (first
      | (go_at_call 128; (with_reducible refine ce.mono ?_); rintro e w3 ⟨rfl, hb3⟩
         have hB3 := below_next hB hb3
         have cb3 := cb w3 hB3
         have z1 := (K1.next hb3).cell 1
         have z2 := (K2'.next hb3).cell 1
         simp only [List.getElem?_toArray, List.getElem?_cons_zero, List.getElem?_cons_succ] at z1 z2)
      | (go_at_call 130; (with_reducible refine cb3.mono ?_); rintro e w4 ⟨rfl, hb4⟩))
    go_ret
    exact ⟨by cases x1 <;> rfl, below_next hB3 hb4⟩
end Sel
end Go.Proofs.YtdfcahdipalmkaaGreatDoor
