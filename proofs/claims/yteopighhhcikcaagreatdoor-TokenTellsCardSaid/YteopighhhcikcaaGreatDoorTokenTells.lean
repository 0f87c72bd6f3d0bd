/- TokenTells' walk: what token answers is as the document says. Conditions: none beyond the row's own. -/
import Derived.Test.YteopighhhcikcaaGreatDoorRtG
import Derived.Test.YteopighhhcikcaaGreatDoorTokG
import Derived.Test.YteopighhhcikcaaGreatDoorTokK
import Derived.Test.YteopighhhcikcaaGreatDoorTokMath4
/- What the reference's Read needs: its tokens in a row of the call's own, and its loop's mathematics. Conditions: none. -/
namespace Go.Proofs.YteopighhhcikcaaGreatDoor
open Go.ChangeShapes Go.WideShapes Go.ChangeAt Go.RowKit
namespace Rt
open Tok Rep
open RowG (Row)
def TksR (w : World) (base : Nat) (v : Value) (ts : List T) : Prop := ∃ cs : List TC, Row w base 42 4 tcC v cs ∧ cs.length = ts.length ∧ ∀ (i : Nat) (c : TC) (t : T), cs[i]? = some c → ts[i]? = some t → TkV w base (tcV c) t
theorem TksR.next {w w' : World} {base : Nat} {v : Value} {ts : List T} (h : TksR w base v ts) (hb : Below w.heap.size w w') : TksR w' base v ts := by
  obtain ⟨cs, h1, h2, h3⟩ := h
  exact ⟨cs, h1.below hb, h2, fun i c t hc ht => (h3 i c t hc ht).next hb⟩
theorem TksR.form {w : World} {base : Nat} {v : Value} {ts : List T} (h : TksR w base v ts) : ∃ A c, v = .slice A ts.length c := by
  obtain ⟨cs, h1, h2, -⟩ := h
  obtain ⟨A, c, e⟩ := h1.form
  exact ⟨A, c, by rw [e, h2]⟩
theorem TksR.nil (w : World) (base : Nat) : TksR w base (.slice none 0 0) [] := ⟨[], Row.nil _ _ _ _ _, rfl, fun i c t h => by simp at h⟩
theorem at_rtok : 41 ≠ 42 := by decide
theorem tkR_grown {w w' : World} {base base' : Nat} {v v' : Value} {t : T} {cs : List TC} (h : TkV w base v t) (h' : Row w base' 42 4 tcC v' cs) (hg : w.grownBy w' v'.ownBlock) : TkV w' base v t := by
  obtain ⟨A, c, e, h⟩ := h
  exact ⟨A, c, e, row_grown h h' at_rtok hg⟩
/-- One more token. -/
theorem tksR_more {w w' : World} {base : Nat} {v v' : Value} {ts : List T} {cs : List TC} {c : TC} {t : T} (h : Row w base 42 4 tcC v cs) (hl : cs.length = ts.length) (ha : ∀ (i : Nat) (c : TC) (t : T), cs[i]? = some c → ts[i]? = some t → TkV w base (tcV c) t)
    (ht : TkV w base (tcV c) t) (h' : Row w' base 42 4 tcC v' (cs ++ [c])) (hg : w.grownBy w' v.ownBlock) : TksR w' base v' (ts ++ [t]) := by
  refine ⟨cs ++ [c], h', by simp [hl], fun i c1 t1 hc1 ht1 => ?_⟩
  by_cases hi : i < cs.length
  · rw [List.getElem?_append_left hi] at hc1
    rw [List.getElem?_append_left (by omega)] at ht1
    exact tkR_grown (ha i c1 t1 hc1 ht1) h hg
  · rw [List.getElem?_append_right (by omega)] at hc1
    rw [List.getElem?_append_right (by omega)] at ht1
    have hz : i - cs.length = 0 := by
      have := (List.getElem?_eq_some_iff.1 hc1).1
      simp at this; omega
    rw [hz] at hc1
    rw [← hl, hz] at ht1
    obtain rfl : c = c1 := by simpa using hc1
    obtain rfl : t = t1 := by simpa using ht1
    exact tkR_grown ht h hg
/-- Each of them, when one more has come. -/
theorem tksR_all {w w' : World} {base : Nat} {v : Value} {ts : List T} {cs : List TC} {c : TC} {t : T} (h : Row w base 42 4 tcC v cs) (hl : cs.length = ts.length) (ha : ∀ (i : Nat) (c : TC) (t : T), cs[i]? = some c → ts[i]? = some t → TkV w base (tcV c) t)
    (ht : TkV w base (tcV c) t) (hg : w.grownBy w' v.ownBlock) : ∀ (i : Nat) (c' : TC) (t' : T), (cs ++ [c])[i]? = some c' → (ts ++ [t])[i]? = some t' → TkV w' base (tcV c') t' := by
  intro i c1 t1 hc1 ht1
  by_cases hi : i < cs.length
  · rw [List.getElem?_append_left hi] at hc1
    rw [List.getElem?_append_left (by omega)] at ht1
    exact tkR_grown (ha i c1 t1 hc1 ht1) h hg
  · rw [List.getElem?_append_right (by omega)] at hc1
    rw [List.getElem?_append_right (by omega)] at ht1
    have hz : i - cs.length = 0 := by
      have := (List.getElem?_eq_some_iff.1 hc1).1
      simp at this; omega
    rw [hz] at hc1
    rw [← hl, hz] at ht1
    obtain rfl : c = c1 := by simpa using hc1
    obtain rfl : t = t1 := by simpa using ht1
    exact tkR_grown ht h hg
/-- What stands between two places. -/
def mid (l : List UInt8) (f a : Nat) : List UInt8 := (l.drop f).take (a - f)
theorem mid_same (l : List UInt8) (a : Nat) : mid l a a = [] := by unfold mid; rw [Nat.sub_self, List.take_zero]
theorem mid_next {l : List UInt8} {f a : Nat} (h : f ≤ a) (ha : a < l.length) : mid l f (a + 1) = mid l f a ++ [l[a]] := by
  unfold mid
  rw [show a + 1 - f = (a - f) + 1 by omega, List.take_add_one, List.getElem?_drop, show f + (a - f) = a by omega, List.getElem?_eq_getElem ha]
  rfl
theorem mid_len {l : List UInt8} {f a : Nat} (ha : a ≤ l.length) : (mid l f a).length = a - f := by unfold mid; rw [List.length_take, List.length_drop]; omega
theorem txt_none (l : List UInt8) (a : Nat) : txtP (mid l a a) = [] := by rw [mid_same]; rfl
theorem txt_some {l : List UInt8} {f a : Nat} (h : f < a) (ha : a ≤ l.length) : txtP (mid l f a) = [⟨3, [], tellL (mid l f a), []⟩] := by
  unfold txtP
  rw [if_neg]
  intro e
  have := mid_len (f := f) ha
  rw [e, List.length_nil] at this
  omega
theorem read_miss {l : List UInt8} {f a : Nat} (h : f ≤ a) (ha : a < l.length) (hm : firstP (l.drop a) = none) : readF (mid l f a) (l.drop a) = readF (mid l f (a + 1)) (l.drop (a + 1)) := by
  rw [mid_next h ha]
  have hd := List.drop_eq_getElem_cons ha
  rw [hd] at hm ⊢
  rw [readF_miss hm]
theorem read_hit {l : List UInt8} {f a P : Nat} {t : T} (hm : firstP (l.drop a) = some (t, l.drop P)) : readF (mid l f a) (l.drop a) = txtP (mid l f a) ++ t :: readF (mid l P P) (l.drop P) := by
  rw [readF_hit hm, mid_same]
theorem read_done {l : List UInt8} {f : Nat} : readF (mid l f l.length) (l.drop l.length) = txtP (mid l f l.length) := by rw [List.drop_length, readF_nil]
theorem first_open {D : List UInt8} {x : T × List UInt8} (h : openP D = some x) : firstP D = some x := by unfold firstP; rw [h]
theorem shut_kind {D b : List UInt8} {t : T} (h : shutP D = some (t, b)) : ∃ N, t = ⟨2, N, [], []⟩ := by
  unfold shutP at h
  split at h
  · split at h
    · cases h
    · rename_i n r _
      split at h
      · cases h
      · injection h with h
        injection h with h _
        exact ⟨n, h.symm⟩
  · cases h
theorem first_shut {D : List UInt8} (h : openP D = none) : firstP D = shutP D := by unfold firstP; rw [h]
theorem mid_ext (l : List UInt8) {f a : Nat} (h : f ≤ a) : (toB l).extract f a = toB (mid l f a) := by
  have := ext_toB l f (a - f)
  rwa [show f + (a - f) = a by omega] at this
end Rt
end Go.Proofs.YteopighhhcikcaaGreatDoor
/- The reference's Read. Conditions: texts up to 4000 bytes. -/
namespace Go.Proofs.YteopighhhcikcaaGreatDoor
open Go.ChangeShapes Go.WideShapes Go.ChangeAt Go.RowKit
namespace Rt
open Tok Rep
open RowG (Row)
set_option maxRecDepth 100000 in
set_option maxHeartbeats 16000000 in
theorem read_any (l : List UInt8) (hl : l.length ≤ 4000) (w : World) :
    Calls Tryz.prog 17 #[.string (toB l)] w fun e w' => (∃ v, e = .returned (.tuple #[v, .int .i64 0]) ∧ TksR w' w.heap.size v (readP l)) ∧ Below w.heap.size w w' := by
  have hsz : (toB l).size = l.length := toB_size l
  have HOP := Lib.hid (fun a h w => opening_any l a (by omega) h w)
  have HCL := Lib.hid (fun a h w => closing_any l a (by omega) h w)
  have HT := Lib.hid (fun f a (h : a ≤ l.length) w => tell_any (mid l f a) (by rw [mid_len h]; omega) w)
  have HEX := Lib.hid (fun f a h => @mid_ext l f a h)
  obtain ⟨R, hR⟩ : ∃ R, R = readP l := ⟨_, rfl⟩
  rw [← hR]
  have HR0 : Hid (R = [] ++ readF (mid l 0 0) (l.drop 0)) := by show R = _; rw [hR, mid_same]; rfl
  have hY0 : TksR (w.alloc (.cells #[] 42)) w.heap.size (.slice (some ⟨w.heap.size, 0, none⟩) 0 0) [] := ⟨[], World.ownsRow_made w #[] 0 (Nat.le_refl _) (Nat.zero_le _) rfl, rfl, fun i c t h => by simp at h⟩
  have hB0 := below_al (Below.refl w.heap.size w) (.cells #[] 42)
  have hd4 : decide ((4000 : Int) < (l.length : Int)) = false := decide_eq_false (by omega)
  clear hR
  generalize toB l = s at *
  go_enter Tryz.func17, Tryz.ntmps17
  go_wp2
  go_loopw [4, 5, 6] (fun ov fv av wr => ∃ (f a : Nat) (acc : List T), fv = .int .i64 f ∧ av = .int .i64 a ∧ (f ≤ a ∧ a ≤ l.length ∧ acc.length ≤ 2 * f) ∧ TksR wr w.heap.size ov acc ∧ Below w.heap.size w wr ∧ Hid (R = acc ++ readF (mid l f a) (l.drop a))) (fun _ _ av _ => l.length + 1 - (intOf av).toNat)
  case atStart => exact ⟨0, 0, [], rfl, rfl, ⟨Nat.le_refl _, Nat.zero_le _, Nat.le_refl _⟩, hY0, hB0, HR0.out⟩
  case round =>
    obtain ⟨f, a, acc, rfl, rfl, ⟨hfa, hal, hac⟩, ⟨cs, hrow, hcl, hall⟩, hB, HR⟩ := hrel
    clear hY0 hB0 HR0
    obtain ⟨A0, c0, rfl⟩ := hrow.form
    obtain ⟨m0, hm0⟩ : ∃ m, m = cs.length := ⟨_, rfl⟩
    rw [← hm0] at hrow ⊢
    have HM0 := Lib.hid hm0
    have HCLN := Lib.hid hcl
    have HALL := Lib.hid hall
    have hm0l : m0 ≤ 8000 := by omega
    clear hm0 hcl hall
    have KB := Blk.new wr 42 #[.int .i64 0, .string ⟨#[]⟩, .string ⟨#[]⟩, .slice none 0 0]
    have hBx := below_al hB (.cells #[.int .i64 0, .string ⟨#[]⟩, .string ⟨#[]⟩, .slice none 0 0] 42)
    have hrowx := hrow.alloc (.cells #[.int .i64 0, .string ⟨#[]⟩, .string ⟨#[]⟩, .slice none 0 0] 42)
    have hzx : (wr.alloc (.cells #[.int .i64 0, .string ⟨#[]⟩, .string ⟨#[]⟩, .slice none 0 0] 42)).heap.size = wr.heap.size + 1 := size_al _ _
    have hwr := hB.size
    have hale : (a : Int) ≤ (l.length : Int) := by omega
    have ha0 : (0 : Int) ≤ (a : Int) := Int.natCast_nonneg _
    have hf0 : (0 : Int) ≤ (f : Int) := Int.natCast_nonneg _
    have hfai : (f : Int) ≤ (a : Int) := by omega
    by_cases hend : a = l.length
    · subst hend
      have d1 : decide ((l.length : Int) < (l.length : Int)) = false := decide_eq_false (by omega)
      have d2 : decide (l.length < l.length) = false := decide_eq_false (by omega)
      have d3 : ((l.length : Int) == (l.length : Int)) = true := beq_self_eq_true _
      by_cases hff : f = l.length
      · have HRR : Hid (R = acc) := by show R = _; rw [HR.out, read_done, hff, txt_none, List.append_nil]
        have e1 : decide ((f : Int) < (l.length : Int)) = false := decide_eq_false (by omega)
        have e2 : decide (f < l.length) = false := decide_eq_false (by omega)
        clear HR hff
        go_wp2
        go_ret2
        refine ⟨⟨_, rfl, ?_⟩, hBx⟩
        rw [HRR.out]
        exact TksR.next ⟨cs, hrow, HCLN.out, HALL.out⟩ (below_al (Below.refl _ _) _)
      · have e1 : (f : Int) < (l.length : Int) := by omega
        have e2 : f < l.length := by omega
        have HRR : Hid (R = acc ++ [⟨3, [], tellL (mid l f l.length), []⟩]) := by show R = _; rw [HR.out, read_done, txt_some e2 (Nat.le_refl _)]
        have hext := HEX.out f l.length hfa
        have ct := HT.out f l.length (Nat.le_refl _)
        generalize tellL (mid l f l.length) = tt at *
        generalize toB (mid l f l.length) = tmid at *
        obtain ⟨tv, htv⟩ : ∃ tv, tv = toB tt := ⟨_, rfl⟩
        rw [← htv] at ct
        have HTV := Lib.hid htv
        clear HR hff htv
        go_wp2_with (first
          | (go_at_call 23; (with_reducible refine (ct _).mono ?_); rintro e wb ⟨rfl, hbb⟩
             have hBb := below_next hBx hbb
             have hrb := (hrowx.below hbb).alloc (.cells #[.int .i64 3, .string ⟨#[]⟩, .string tv, .slice none 0 0] 42)
             have hBc := below_al hBb (.cells #[.int .i64 3, .string ⟨#[]⟩, .string tv, .slice none 0 0] 42)
             have hnc := RowG.new_cells wb 42 (tcC ⟨3, ⟨#[]⟩, tv, none, 0, 0⟩)
             have hzc : (wb.alloc (.cells #[.int .i64 3, .string ⟨#[]⟩, .string tv, .slice none 0 0] 42)).heap.size = wb.heap.size + 1 := size_al _ _
             have hsb := hbb.size)
          | (at_builtin; go_loud (refine RowG.wpList_more _ (by rfl) _ _ 27 (by rfl) 42 tcC 4 64 _ Tok.info_rt Tryz.underlying27 rfl (by decide) tcC_len tcC_one w.heap.size _ cs ⟨3, ⟨#[]⟩, tv, none, 0, 0⟩ (by rfl) wb.heap.size _ (by rfl) hrb hnc (by have := HM0.out; simp only [maxLen]; omega) (by have := HM0.out; omega) (by omega) ?_)
             intro v5 w5 hrow5 hg5 _))
        go_ret2
        refine ⟨⟨_, rfl, ?_⟩, hBc.grown hg5 hBc.size (fun k hk => (World.ownsRow.lt hrb k hk).1)⟩
        rw [HRR.out]
        have hch := below_al (below_next (below_al (Below.refl wr.heap.size wr) (.cells #[.int .i64 0, .string ⟨#[]⟩, .string ⟨#[]⟩, .slice none 0 0] 42)) hbb) (.cells #[.int .i64 3, .string ⟨#[]⟩, .string tv, .slice none 0 0] 42)
        exact tksR_more hrb HCLN.out (fun i c t hc ht => (HALL.out i c t hc ht).next hch) ⟨none, 0, by rw [HTV.out]; rfl, Row.nil _ _ _ _ _⟩ hrow5 hg5
    · have halt : a < l.length := by omega
      have halti : (a : Int) < (l.length : Int) := by omega
      have co := HOP.out a halt
      have cc := HCL.out a halt
      cases hO : openP (l.drop a) with
      | none =>
        have co2 : ∀ w1, Calls Tryz.prog 54 #[.string s, .int .i64 a] w1 fun e w' => e = .returned (.tuple #[.agg #[.int .i64 0, .string ⟨#[]⟩, .string ⟨#[]⟩, .slice none 0 0], .int .i64 0]) ∧ Below w1.heap.size w1 w' := fun w1 => (co w1).mono (by
          rintro e w' ⟨⟨v, P, rfl, h | ⟨t, -, -, h, -⟩⟩, hb⟩
          · obtain ⟨rfl, rfl, -⟩ := h
            exact ⟨rfl, hb⟩
          · rw [hO] at h; cases h)
        cases hS : shutP (l.drop a) with
        | none =>
          have cc2 : ∀ w1, Calls Tryz.prog 55 #[.string s, .int .i64 a] w1 fun e w' => (∃ (K : Int) (N : List UInt8), e = .returned (.tuple #[.agg #[.int .i64 K, .string (toB N), .string ⟨#[]⟩, .slice none 0 0], .int .i64 0])) ∧ Below w1.heap.size w1 w' := fun w1 => (cc w1).mono (by
            rintro e w' ⟨⟨K, N, P, rfl, h | ⟨-, -, -, h⟩⟩, hb⟩
            · obtain ⟨rfl, -⟩ := h
              exact ⟨⟨K, N, rfl⟩, hb⟩
            · rw [hS] at h; cases h)
          have HR2 : Hid (R = acc ++ readF (mid l f (a + 1)) (l.drop (a + 1))) := by show R = _; rw [HR.out, read_miss hfa halt (by rw [first_shut hO, hS])]
          clear HR hO hS co cc
          have hBw0 := below_al (Below.refl wr.heap.size wr) (.cells #[.int .i64 0, .string ⟨#[]⟩, .string ⟨#[]⟩, .slice none 0 0] 42)
          go_wp2_with (first
            | (go_at_call 54; (with_reducible refine (co2 _).mono ?_); rintro e w1 ⟨rfl, hb1⟩
               have K1 := KB.next hb1
               obtain ⟨x0, x1, x2, x3⟩ := blk4 K1
               have y0 := K1.frozen 0
               have y1 := K1.frozen 1
               have y2 := K1.frozen 2
               have y3 := K1.frozen 3
               have hBw1 := below_next hBw0 hb1)
            | (go_at_call 55; (with_reducible refine (cc2 _).mono ?_); rintro e w2 ⟨⟨K, N, rfl⟩, hb2⟩
               have K2 : Blk w2 wr.heap.size 42 #[.int .i64 0, .string ⟨#[]⟩, .string ⟨#[]⟩, .slice none 0 0] := ((((K1.set_ 0 (.int .i64 0)).set_ 1 (.string ⟨#[]⟩)).set_ 2 (.string ⟨#[]⟩)).set_ 3 (.slice none 0 0)).next hb2
               obtain ⟨p0, p1, p2, p3⟩ := blk4 K2
               have q0 := K2.frozen 0
               have q1 := K2.frozen 1
               have q2 := K2.frozen 2
               have q3 := K2.frozen 3
               have hBw1s : Below wr.heap.size wr ((((w1.setCell ⟨wr.heap.size, 0, none⟩ (.int .i64 0)).setCell ⟨wr.heap.size, 1, none⟩ (.string ⟨#[]⟩)).setCell ⟨wr.heap.size, 2, none⟩ (.string ⟨#[]⟩)).setCell ⟨wr.heap.size, 3, none⟩ (.slice none 0 0)) := (((hBw1.setCell (Nat.le_refl _) _).setCell (Nat.le_refl _) _).setCell (Nat.le_refl _) _).setCell (Nat.le_refl _) _
               have hBw2 := below_next hBw1s hb2))
          go_roundw
          case rel =>
            have hBf := fun (u0 u1 u2 u3 : Value) => (((hBw2.setCell (p := ⟨wr.heap.size, 0, none⟩) (Nat.le_refl _) u0).setCell (p := ⟨wr.heap.size, 1, none⟩) (Nat.le_refl _) u1).setCell (p := ⟨wr.heap.size, 2, none⟩) (Nat.le_refl _) u2).setCell (p := ⟨wr.heap.size, 3, none⟩) (Nat.le_refl _) u3
            exact ⟨f, a + 1, acc, rfl, by go_num, ⟨by omega, by omega, hac⟩, TksR.next ⟨cs, hrow, HCLN.out, HALL.out⟩ (hBf _ _ _ _), below_next hB (hBf _ _ _ _), HR2⟩
          case measure => simp [intOf]; omega
        | some x =>
          obtain ⟨t1, b1⟩ := x
          obtain ⟨N1, hN1⟩ := shut_kind hS
          subst hN1
          have cc2 : ∀ w1, Calls Tryz.prog 55 #[.string s, .int .i64 a] w1 fun e w' => (∃ P : Nat, e = .returned (.tuple #[.agg #[.int .i64 2, .string (toB N1), .string ⟨#[]⟩, .slice none 0 0], .int .i64 P]) ∧ a < P ∧ P ≤ l.length ∧ b1 = l.drop P) ∧ Below w1.heap.size w1 w' := fun w1 => (cc w1).mono (by
            rintro e w' ⟨⟨K, N, P, rfl, h | ⟨h1, h2, rfl, h⟩⟩, hb⟩
            · rw [hS] at h; cases h.2
            · rw [hS] at h
              injection h with h
              injection h with ha hbb
              injection ha with _ ha
              subst ha
              exact ⟨⟨P, rfl, h1, h2, hbb⟩, hb⟩)
          have hhit := fun P (h : b1 = l.drop P) => read_hit (l := l) (f := f) (a := a) (P := P) (t := ⟨2, N1, [], []⟩) (by rw [first_shut hO, hS, h])
          have HHIT := Lib.hid hhit
          clear co cc hO hS hhit
          obtain ⟨tn, htn⟩ : ∃ x, x = toB N1 := ⟨_, rfl⟩
          rw [← htn] at cc2
          have HTN := Lib.hid htn
          clear htn
          have hBw0 := below_al (Below.refl wr.heap.size wr) (.cells #[.int .i64 0, .string ⟨#[]⟩, .string ⟨#[]⟩, .slice none 0 0] 42)
          by_cases hff : f = a
          · have e1 : decide ((f : Int) < (a : Int)) = false := decide_eq_false (by omega)
            have e2 : decide (f < a) = false := decide_eq_false (by omega)
            have e3 : ((a : Int) == (l.length : Int)) = false := by rw [beq_eq_false_iff_ne]; omega
            have HFF := Lib.hid hff
            clear hff
            go_wp2_with (first
              | (go_at_call 54; (with_reducible refine (co2 _).mono ?_); rintro e w1 ⟨rfl, hb1⟩
                 have K1 := KB.next hb1
                 obtain ⟨x0, x1, x2, x3⟩ := blk4 K1
                 have y0 := K1.frozen 0
                 have y1 := K1.frozen 1
                 have y2 := K1.frozen 2
                 have y3 := K1.frozen 3
                 have hBw1 := below_next hBw0 hb1)
              | (go_at_call 55; (with_reducible refine (cc2 _).mono ?_); rintro e w2 ⟨⟨P1, rfl, hP1, hP2, hb1e⟩, hb2⟩
                 have z1 : ((P1 : Int) == 0) = false := by rw [beq_eq_false_iff_ne]; omega
                 have K2 : Blk w2 wr.heap.size 42 #[.int .i64 0, .string ⟨#[]⟩, .string ⟨#[]⟩, .slice none 0 0] := ((((K1.set_ 0 (.int .i64 0)).set_ 1 (.string ⟨#[]⟩)).set_ 2 (.string ⟨#[]⟩)).set_ 3 (.slice none 0 0)).next hb2
                 obtain ⟨p0, p1, p2, p3⟩ := blk4 K2
                 have q0 := K2.frozen 0
                 have q1 := K2.frozen 1
                 have q2 := K2.frozen 2
                 have q3 := K2.frozen 3
                 have hlt2 := K2.lt
                 have hBw1s : Below wr.heap.size wr ((((w1.setCell ⟨wr.heap.size, 0, none⟩ (.int .i64 0)).setCell ⟨wr.heap.size, 1, none⟩ (.string ⟨#[]⟩)).setCell ⟨wr.heap.size, 2, none⟩ (.string ⟨#[]⟩)).setCell ⟨wr.heap.size, 3, none⟩ (.slice none 0 0)) := (((hBw1.setCell (Nat.le_refl _) _).setCell (Nat.le_refl _) _).setCell (Nat.le_refl _) _).setCell (Nat.le_refl _) _
                 have hBw2 := below_next hBw1s hb2
                 have hBwS : Below wr.heap.size wr (((((w2.setCell ⟨wr.heap.size, 0, none⟩ (.int .i64 2)).setCell ⟨wr.heap.size, 1, none⟩ (.string tn)).setCell ⟨wr.heap.size, 2, none⟩ (.string ⟨#[]⟩)).setCell ⟨wr.heap.size, 3, none⟩ (.slice none 0 0))) := (((hBw2.setCell (Nat.le_refl _) _).setCell (Nat.le_refl _) _).setCell (Nat.le_refl _) _).setCell (Nat.le_refl _) _
                 have hrow4 := (hrow.below hBwS).alloc (.cells #[.int .i64 2, .string tn, .string ⟨#[]⟩, .slice none 0 0] 42)
                 have hnc := RowG.new_cells (((((w2.setCell ⟨wr.heap.size, 0, none⟩ (.int .i64 2)).setCell ⟨wr.heap.size, 1, none⟩ (.string tn)).setCell ⟨wr.heap.size, 2, none⟩ (.string ⟨#[]⟩)).setCell ⟨wr.heap.size, 3, none⟩ (.slice none 0 0))) 42 (tcC ⟨2, tn, ⟨#[]⟩, none, 0, 0⟩)
                 simp only [size_set_] at hnc
                 have hz4 : ((((((w2.setCell ⟨wr.heap.size, 0, none⟩ (.int .i64 2)).setCell ⟨wr.heap.size, 1, none⟩ (.string tn)).setCell ⟨wr.heap.size, 2, none⟩ (.string ⟨#[]⟩)).setCell ⟨wr.heap.size, 3, none⟩ (.slice none 0 0))).alloc (.cells #[.int .i64 2, .string tn, .string ⟨#[]⟩, .slice none 0 0] 42)).heap.size = w2.heap.size + 1 := by rw [size_al]; simp only [size_set_])
              | (at_builtin; go_loud (refine RowG.wpList_more _ (by rfl) _ _ 27 (by rfl) 42 tcC 4 64 _ Tok.info_rt Tryz.underlying27 rfl (by decide) tcC_len tcC_one w.heap.size _ cs ⟨2, tn, ⟨#[]⟩, none, 0, 0⟩ (by rfl) w2.heap.size _ (by rfl) hrow4 hnc (by have := HM0.out; simp only [maxLen]; omega) (by have := HM0.out; omega) (by omega) ?_)
                 intro v5 w5 hrow5 hg5 _))
            go_roundw
            case rel =>
              have htkS : TkV (((((w2.setCell ⟨wr.heap.size, 0, none⟩ (.int .i64 2)).setCell ⟨wr.heap.size, 1, none⟩ (.string tn)).setCell ⟨wr.heap.size, 2, none⟩ (.string ⟨#[]⟩)).setCell ⟨wr.heap.size, 3, none⟩ (.slice none 0 0))) w.heap.size (tcV ⟨2, tn, ⟨#[]⟩, none, 0, 0⟩) (⟨2, N1, [], []⟩ : T) := ⟨none, 0, by rw [HTN.out]; rfl, Row.nil _ _ _ _ _⟩
              have hBn := below_al hBwS (.cells #[.int .i64 2, .string tn, .string ⟨#[]⟩, .slice none 0 0] 42)
              have hBg := below_next hB hBn
              have htk := htkS.next (below_al (Below.refl _ _) (.cells #[.int .i64 2, .string tn, .string ⟨#[]⟩, .slice none 0 0] 42))
              have hR2 : R = (acc ++ [(⟨2, N1, [], []⟩ : T)]) ++ readF (mid l P1 P1) (l.drop P1) := by
                rw [HR.out, HHIT.out P1 hb1e, HFF.out, txt_none]
                simp
              exact ⟨P1, P1, acc ++ [(⟨2, N1, [], []⟩ : T)], rfl, rfl, ⟨Nat.le_refl _, hP2, by rw [List.length_append, List.length_singleton]; omega⟩, tksR_more hrow4 HCLN.out (fun i c t hc ht => (HALL.out i c t hc ht).next hBn) htk hrow5 hg5, hBg.grown hg5 hBg.size (fun k hk => (World.ownsRow.lt hrow4 k hk).1), hR2⟩
            case measure => simp [intOf]; omega
          · have e1 : (f : Int) < (a : Int) := by omega
            have e2 : f < a := by omega
            have e3 : ((a : Int) == (l.length : Int)) = false := by rw [beq_eq_false_iff_ne]; omega
            have HRR : Hid (∀ P, b1 = l.drop P → R = ((acc ++ [⟨3, [], tellL (mid l f a), []⟩]) ++ [(⟨2, N1, [], []⟩ : T)]) ++ readF (mid l P P) (l.drop P)) := by
              intro P hP
              show R = _
              rw [HR.out, HHIT.out P hP, txt_some e2 hal]
              simp
            have hext := HEX.out f a hfa
            have ct := HT.out f a hal
            generalize tellL (mid l f a) = tt at *
            generalize toB (mid l f a) = tmid at *
            obtain ⟨tv, htv⟩ : ∃ tv, tv = toB tt := ⟨_, rfl⟩
            rw [← htv] at ct
            have HTV := Lib.hid htv
            obtain ⟨m5, hm5⟩ : ∃ m, m = m0 + 1 := ⟨_, rfl⟩
            have HM5 := Lib.hid hm5
            have hm5l : m5 ≤ 8001 := by omega
            clear HR HHIT hff htv hm5
            go_wp2_with (first
              | (go_at_call 54; (with_reducible refine (co2 _).mono ?_); rintro e w1 ⟨rfl, hb1⟩
                 have K1 := KB.next hb1
                 obtain ⟨x0, x1, x2, x3⟩ := blk4 K1
                 have y0 := K1.frozen 0
                 have y1 := K1.frozen 1
                 have y2 := K1.frozen 2
                 have y3 := K1.frozen 3
                 have hBw1 := below_next hBw0 hb1)
              | (go_at_call 55; (with_reducible refine (cc2 _).mono ?_); rintro e w2 ⟨⟨P1, rfl, hP1, hP2, hb1e⟩, hb2⟩
                 have z1 : ((P1 : Int) == 0) = false := by rw [beq_eq_false_iff_ne]; omega
                 have K2 : Blk w2 wr.heap.size 42 #[.int .i64 0, .string ⟨#[]⟩, .string ⟨#[]⟩, .slice none 0 0] := ((((K1.set_ 0 (.int .i64 0)).set_ 1 (.string ⟨#[]⟩)).set_ 2 (.string ⟨#[]⟩)).set_ 3 (.slice none 0 0)).next hb2
                 obtain ⟨p0, p1, p2, p3⟩ := blk4 K2
                 have q0 := K2.frozen 0
                 have q1 := K2.frozen 1
                 have q2 := K2.frozen 2
                 have q3 := K2.frozen 3
                 have hlt2 := K2.lt
                 have hBw1s : Below wr.heap.size wr ((((w1.setCell ⟨wr.heap.size, 0, none⟩ (.int .i64 0)).setCell ⟨wr.heap.size, 1, none⟩ (.string ⟨#[]⟩)).setCell ⟨wr.heap.size, 2, none⟩ (.string ⟨#[]⟩)).setCell ⟨wr.heap.size, 3, none⟩ (.slice none 0 0)) := (((hBw1.setCell (Nat.le_refl _) _).setCell (Nat.le_refl _) _).setCell (Nat.le_refl _) _).setCell (Nat.le_refl _) _
                 have hBw2 := below_next hBw1s hb2
                 have hBwS : Below wr.heap.size wr (((((w2.setCell ⟨wr.heap.size, 0, none⟩ (.int .i64 2)).setCell ⟨wr.heap.size, 1, none⟩ (.string tn)).setCell ⟨wr.heap.size, 2, none⟩ (.string ⟨#[]⟩)).setCell ⟨wr.heap.size, 3, none⟩ (.slice none 0 0))) := (((hBw2.setCell (Nat.le_refl _) _).setCell (Nat.le_refl _) _).setCell (Nat.le_refl _) _).setCell (Nat.le_refl _) _
                 have KS : Blk (((((w2.setCell ⟨wr.heap.size, 0, none⟩ (.int .i64 2)).setCell ⟨wr.heap.size, 1, none⟩ (.string tn)).setCell ⟨wr.heap.size, 2, none⟩ (.string ⟨#[]⟩)).setCell ⟨wr.heap.size, 3, none⟩ (.slice none 0 0))) wr.heap.size 42 #[.int .i64 2, .string tn, .string ⟨#[]⟩, .slice none 0 0] := ((((K2.set_ 0 (.int .i64 2)).set_ 1 (.string tn)).set_ 2 (.string ⟨#[]⟩)).set_ 3 (.slice none 0 0)))
              | (go_at_call 23; (with_reducible refine (ct _).mono ?_); rintro e wb ⟨rfl, hbb⟩
                 have KT := (KS.next hbb).alloc (.cells #[.int .i64 3, .string ⟨#[]⟩, .string tv, .slice none 0 0] 42)
                 have hrb := ((hrow.below hBwS).below hbb).alloc (.cells #[.int .i64 3, .string ⟨#[]⟩, .string tv, .slice none 0 0] 42)
                 have hBc := below_al (below_next (below_next hB hBwS) hbb) (.cells #[.int .i64 3, .string ⟨#[]⟩, .string tv, .slice none 0 0] 42)
                 have hnc := RowG.new_cells wb 42 (tcC ⟨3, ⟨#[]⟩, tv, none, 0, 0⟩)
                 have hzc : (wb.alloc (.cells #[.int .i64 3, .string ⟨#[]⟩, .string tv, .slice none 0 0] 42)).heap.size = wb.heap.size + 1 := size_al _ _)
              | (at_builtin; (refine RowG.wpList_more _ (by rfl) _ _ 27 (by rfl) 42 tcC 4 64 _ Tok.info_rt Tryz.underlying27 rfl (by decide) tcC_len tcC_one w.heap.size _ cs ⟨3, ⟨#[]⟩, tv, none, 0, 0⟩ (by rfl) wb.heap.size _ (by rfl) hrb hnc (by have := HM0.out; simp only [maxLen]; omega) (by have := HM0.out; omega) hBc.size ?_)
                 intro v5 w5 hrow5 hg5 _
                 obtain ⟨A5, c5, hv5⟩ := hrow5.form
                 have hlen5 : (cs ++ [(⟨3, ⟨#[]⟩, tv, none, 0, 0⟩ : TC)]).length = m5 := by rw [List.length_append, List.length_singleton, HM5.out, HM0.out]
                 rw [hlen5] at hv5
                 subst hv5
                 have K5 := KT.grown hg5 (fun e => by have := (World.ownsRow.lt hrow _ e.symm).2; omega)
                 obtain ⟨s0, s1, s2, s3⟩ := blk4 K5
                 have t10 := K5.frozen 0
                 have t11 := K5.frozen 1
                 have t12 := K5.frozen 2
                 have t13 := K5.frozen 3
                 have hlt5 := K5.lt
                 have hB5 := hBc.grown hg5 hBc.size (fun k hk => (World.ownsRow.lt hrb k hk).1)
                 have hrow6 := hrow5.alloc (.cells #[.int .i64 2, .string tn, .string ⟨#[]⟩, .slice none 0 0] 42)
                 have hB6 := below_al hB5 (.cells #[.int .i64 2, .string tn, .string ⟨#[]⟩, .slice none 0 0] 42)
                 have hnc6 := RowG.new_cells w5 42 (tcC ⟨2, tn, ⟨#[]⟩, none, 0, 0⟩)
                 have HL5 := Lib.hid hlen5
                 clear hlen5
                 have hz6 : (w5.alloc (.cells #[.int .i64 2, .string tn, .string ⟨#[]⟩, .slice none 0 0] 42)).heap.size = w5.heap.size + 1 := size_al _ _)
              | (at_builtin; go_loud (refine RowG.wpList_more _ (by rfl) _ _ 27 (by rfl) 42 tcC 4 64 _ Tok.info_rt Tryz.underlying27 rfl (by decide) tcC_len tcC_one w.heap.size _ (cs ++ [⟨3, ⟨#[]⟩, tv, none, 0, 0⟩]) ⟨2, tn, ⟨#[]⟩, none, 0, 0⟩ (by rfl) w5.heap.size _ (by rfl) hrow6 hnc6 (by rw [HL5.out]; simp only [maxLen]; omega) (by rw [HL5.out]; omega) hB6.size ?_)
                 intro v7 w7 hrow7 hg7 _))
            go_roundw
            case rel =>
              have htkS : TkV (((((w2.setCell ⟨wr.heap.size, 0, none⟩ (.int .i64 2)).setCell ⟨wr.heap.size, 1, none⟩ (.string tn)).setCell ⟨wr.heap.size, 2, none⟩ (.string ⟨#[]⟩)).setCell ⟨wr.heap.size, 3, none⟩ (.slice none 0 0))) w.heap.size (tcV ⟨2, tn, ⟨#[]⟩, none, 0, 0⟩) (⟨2, N1, [], []⟩ : T) := ⟨none, 0, by rw [HTN.out]; rfl, Row.nil _ _ _ _ _⟩
              have htkb := (htkS.next hbb).next (below_al (Below.refl _ _) (.cells #[.int .i64 3, .string ⟨#[]⟩, .string tv, .slice none 0 0] 42))
              have htk5 := tkR_grown htkb hrb hg5
              have htk6 := htk5.next (below_al (Below.refl _ _) (.cells #[.int .i64 2, .string tn, .string ⟨#[]⟩, .slice none 0 0] 42))
              have hch := below_al (below_next hBwS hbb) (.cells #[.int .i64 3, .string ⟨#[]⟩, .string tv, .slice none 0 0] 42)
              have hall5 := tksR_all hrb HCLN.out (fun i c t hc ht => (HALL.out i c t hc ht).next hch) (c := (⟨3, ⟨#[]⟩, tv, none, 0, 0⟩ : TC)) (t := (⟨3, [], tt, []⟩ : T)) ⟨none, 0, by rw [HTV.out]; rfl, Row.nil _ _ _ _ _⟩ hg5
              have hlen6 : (cs ++ [(⟨3, ⟨#[]⟩, tv, none, 0, 0⟩ : TC)]).length = (acc ++ [(⟨3, [], tt, []⟩ : T)]).length := by rw [List.length_append, List.length_append, HCLN.out]; rfl
              exact ⟨P1, P1, (acc ++ [(⟨3, [], tt, []⟩ : T)]) ++ [(⟨2, N1, [], []⟩ : T)], rfl, rfl, ⟨Nat.le_refl _, hP2, by simp only [List.length_append, List.length_singleton]; omega⟩, tksR_more hrow6 hlen6 (fun i c t hc ht => (hall5 i c t hc ht).next (below_al (Below.refl _ _) (.cells #[.int .i64 2, .string tn, .string ⟨#[]⟩, .slice none 0 0] 42))) htk6 hrow7 hg7, hB6.grown hg7 hB6.size (fun k hk => (World.ownsRow.lt hrow6 k hk).1), HRR.out P1 hb1e⟩
            case measure => simp [intOf]; omega
      | some x =>
        obtain ⟨t1, b1⟩ := x
        have co2 : ∀ w1, Calls Tryz.prog 54 #[.string s, .int .i64 a] w1 fun e w' => (∃ (P : Nat) (A1 : Option Addr) (m1 c1 : Nat), e = .returned (.tuple #[.agg #[.int .i64 (t1.kind : Int), .string (toB t1.name), .string (toB t1.text), .slice A1 m1 c1], .int .i64 P]) ∧ a < P ∧ P ≤ l.length ∧ b1 = l.drop P ∧ m1 = t1.attrs.length ∧ Row w' w1.heap.size 41 2 atC (.slice A1 m1 c1) t1.attrs) ∧ Below w1.heap.size w1 w' := fun w1 => (co w1).mono (by
          rintro e w' ⟨⟨v, P, rfl, h | ⟨t, h1, h2, h, A, c, rfl, h4⟩⟩, hb⟩
          · rw [hO] at h; cases h.2.2
          · rw [hO] at h
            injection h with h
            injection h with ha hbb
            subst ha
            exact ⟨⟨P, A, _, c, rfl, h1, h2, hbb, rfl, h4⟩, hb⟩)
        have hhit := fun P (h : b1 = l.drop P) => read_hit (l := l) (f := f) (a := a) (P := P) (t := t1) (first_open (by rw [hO, h]))
        have HHIT := Lib.hid hhit
        clear co cc hO hhit
        obtain ⟨tn, htn⟩ : ∃ x, x = toB t1.name := ⟨_, rfl⟩
        obtain ⟨tx, htx⟩ : ∃ x, x = toB t1.text := ⟨_, rfl⟩
        rw [← htn, ← htx] at co2
        have HTN := Lib.hid htn
        have HTX := Lib.hid htx
        clear htn htx
        have hBw0 := below_al (Below.refl wr.heap.size wr) (.cells #[.int .i64 0, .string ⟨#[]⟩, .string ⟨#[]⟩, .slice none 0 0] 42)
        by_cases hff : f = a
        · have e1 : decide ((f : Int) < (a : Int)) = false := decide_eq_false (by omega)
          have e2 : decide (f < a) = false := decide_eq_false (by omega)
          have e3 : ((a : Int) == (l.length : Int)) = false := by rw [beq_eq_false_iff_ne]; omega
          have HFF := Lib.hid hff
          clear hff
          go_wp2_with (first
            | (go_at_call 54; (with_reducible refine (co2 _).mono ?_); rintro e w1 ⟨⟨P1, A1, m1, c1, rfl, hP1, hP2, hb1e, hm1, hrw1⟩, hb1⟩
               have z1 : ((P1 : Int) == 0) = false := by rw [beq_eq_false_iff_ne]; omega
               have HM1 := Lib.hid hm1
               clear hm1
               have K1 := KB.next hb1
               obtain ⟨x0, x1, x2, x3⟩ := blk4 K1
               have y0 := K1.frozen 0
               have y1 := K1.frozen 1
               have y2 := K1.frozen 2
               have y3 := K1.frozen 3
               have hlt1 := K1.lt
               have hBw1 := below_next hBw0 hb1
               have hBwS : Below wr.heap.size wr ((((w1.setCell ⟨wr.heap.size, 0, none⟩ (.int .i64 (t1.kind : Int))).setCell ⟨wr.heap.size, 1, none⟩ (.string tn)).setCell ⟨wr.heap.size, 2, none⟩ (.string tx)).setCell ⟨wr.heap.size, 3, none⟩ (.slice A1 m1 c1)) := (((hBw1.setCell (Nat.le_refl _) _).setCell (Nat.le_refl _) _).setCell (Nat.le_refl _) _).setCell (Nat.le_refl _) _
               have hrow4 := (hrow.below hBwS).alloc (.cells #[.int .i64 (t1.kind : Int), .string tn, .string tx, .slice A1 m1 c1] 42)
               have hnc := RowG.new_cells ((((w1.setCell ⟨wr.heap.size, 0, none⟩ (.int .i64 (t1.kind : Int))).setCell ⟨wr.heap.size, 1, none⟩ (.string tn)).setCell ⟨wr.heap.size, 2, none⟩ (.string tx)).setCell ⟨wr.heap.size, 3, none⟩ (.slice A1 m1 c1)) 42 (tcC ⟨t1.kind, tn, tx, A1, m1, c1⟩)
               simp only [size_set_] at hnc
               have hz4 : (((((w1.setCell ⟨wr.heap.size, 0, none⟩ (.int .i64 (t1.kind : Int))).setCell ⟨wr.heap.size, 1, none⟩ (.string tn)).setCell ⟨wr.heap.size, 2, none⟩ (.string tx)).setCell ⟨wr.heap.size, 3, none⟩ (.slice A1 m1 c1)).alloc (.cells #[.int .i64 (t1.kind : Int), .string tn, .string tx, .slice A1 m1 c1] 42)).heap.size = w1.heap.size + 1 := by rw [size_al]; simp only [size_set_])
            | (at_builtin; go_loud (refine RowG.wpList_more _ (by rfl) _ _ 27 (by rfl) 42 tcC 4 64 _ Tok.info_rt Tryz.underlying27 rfl (by decide) tcC_len tcC_one w.heap.size _ cs ⟨t1.kind, tn, tx, A1, m1, c1⟩ (by rfl) w1.heap.size _ (by rfl) hrow4 hnc (by have := HM0.out; simp only [maxLen]; omega) (by have := HM0.out; omega) (by omega) ?_)
               intro v5 w5 hrow5 hg5 _))
          go_roundw
          case rel =>
            have hBn := below_al hBwS (.cells #[.int .i64 (t1.kind : Int), .string tn, .string tx, .slice A1 m1 c1] 42)
            have hBg := below_next hB hBn
            have hlow : ∀ k, (⟨wr.heap.size, k, none⟩ : Addr).block < wr.heap.size + 1 := fun _ => Nat.lt_succ_self _
            rw [hzx] at hrw1
            have htk : TkV _ w.heap.size (tcV ⟨t1.kind, tn, tx, A1, m1, c1⟩) t1 := ⟨A1, c1, by rw [← HM1.out, ← HTN.out, ← HTX.out]; rfl, by
              rw [← HM1.out]
              exact row_less ((row_low (row_low (row_low (row_low hrw1 (hlow 0) (.int .i64 (t1.kind : Int))) (hlow 1) (.string tn)) (hlow 2) (.string tx)) (hlow 3) (.slice A1 m1 c1)).alloc (.cells #[.int .i64 (t1.kind : Int), .string tn, .string tx, .slice A1 m1 c1] 42)) (by omega)⟩
            have hR2 : R = (acc ++ [t1]) ++ readF (mid l P1 P1) (l.drop P1) := by
              rw [HR.out, HHIT.out P1 hb1e, HFF.out, txt_none]
              simp
            exact ⟨P1, P1, acc ++ [t1], rfl, rfl, ⟨Nat.le_refl _, hP2, by rw [List.length_append, List.length_singleton]; omega⟩, tksR_more hrow4 HCLN.out (fun i c t hc ht => (HALL.out i c t hc ht).next hBn) htk hrow5 hg5, hBg.grown hg5 hBg.size (fun k hk => (World.ownsRow.lt hrow4 k hk).1), hR2⟩
          case measure => simp [intOf]; omega
        · have e1 : (f : Int) < (a : Int) := by omega
          have e2 : f < a := by omega
          have e3 : ((a : Int) == (l.length : Int)) = false := by rw [beq_eq_false_iff_ne]; omega
          have HRR : Hid (∀ P, b1 = l.drop P → R = ((acc ++ [⟨3, [], tellL (mid l f a), []⟩]) ++ [t1]) ++ readF (mid l P P) (l.drop P)) := by
            intro P hP
            show R = _
            rw [HR.out, HHIT.out P hP, txt_some e2 hal]
            simp
          have hext := HEX.out f a hfa
          have ct := HT.out f a hal
          generalize tellL (mid l f a) = tt at *
          generalize toB (mid l f a) = tmid at *
          obtain ⟨tv, htv⟩ : ∃ tv, tv = toB tt := ⟨_, rfl⟩
          rw [← htv] at ct
          have HTV := Lib.hid htv
          obtain ⟨m5, hm5⟩ : ∃ m, m = m0 + 1 := ⟨_, rfl⟩
          have HM5 := Lib.hid hm5
          have hm5l : m5 ≤ 8001 := by omega
          clear HR HHIT hff htv hm5
          go_wp2_with (first
            | (go_at_call 54; (with_reducible refine (co2 _).mono ?_); rintro e w1 ⟨⟨P1, A1, m1, c1, rfl, hP1, hP2, hb1e, hm1, hrw1⟩, hb1⟩
               have z1 : ((P1 : Int) == 0) = false := by rw [beq_eq_false_iff_ne]; omega
               have HM1 := Lib.hid hm1
               clear hm1
               have K1 := KB.next hb1
               obtain ⟨x0, x1, x2, x3⟩ := blk4 K1
               have y0 := K1.frozen 0
               have y1 := K1.frozen 1
               have y2 := K1.frozen 2
               have y3 := K1.frozen 3
               have hlt1 := K1.lt
               have hBw1 := below_next hBw0 hb1
               have hBwS : Below wr.heap.size wr (((((w1.setCell ⟨wr.heap.size, 0, none⟩ (.int .i64 (t1.kind : Int))).setCell ⟨wr.heap.size, 1, none⟩ (.string tn)).setCell ⟨wr.heap.size, 2, none⟩ (.string tx)).setCell ⟨wr.heap.size, 3, none⟩ (.slice A1 m1 c1))) := (((hBw1.setCell (Nat.le_refl _) _).setCell (Nat.le_refl _) _).setCell (Nat.le_refl _) _).setCell (Nat.le_refl _) _
               have KS : Blk (((((w1.setCell ⟨wr.heap.size, 0, none⟩ (.int .i64 (t1.kind : Int))).setCell ⟨wr.heap.size, 1, none⟩ (.string tn)).setCell ⟨wr.heap.size, 2, none⟩ (.string tx)).setCell ⟨wr.heap.size, 3, none⟩ (.slice A1 m1 c1))) wr.heap.size 42 #[.int .i64 (t1.kind : Int), .string tn, .string tx, .slice A1 m1 c1] := ((((K1.set_ 0 (.int .i64 (t1.kind : Int))).set_ 1 (.string tn)).set_ 2 (.string tx)).set_ 3 (.slice A1 m1 c1)))
            | (go_at_call 23; (with_reducible refine (ct _).mono ?_); rintro e wb ⟨rfl, hbb⟩
               have KT := (KS.next hbb).alloc (.cells #[.int .i64 3, .string ⟨#[]⟩, .string tv, .slice none 0 0] 42)
               have hrb := ((hrow.below hBwS).below hbb).alloc (.cells #[.int .i64 3, .string ⟨#[]⟩, .string tv, .slice none 0 0] 42)
               have hBc := below_al (below_next (below_next hB hBwS) hbb) (.cells #[.int .i64 3, .string ⟨#[]⟩, .string tv, .slice none 0 0] 42)
               have hnc := RowG.new_cells wb 42 (tcC ⟨3, ⟨#[]⟩, tv, none, 0, 0⟩)
               have hzc : (wb.alloc (.cells #[.int .i64 3, .string ⟨#[]⟩, .string tv, .slice none 0 0] 42)).heap.size = wb.heap.size + 1 := size_al _ _)
            | (at_builtin; (refine RowG.wpList_more _ (by rfl) _ _ 27 (by rfl) 42 tcC 4 64 _ Tok.info_rt Tryz.underlying27 rfl (by decide) tcC_len tcC_one w.heap.size _ cs ⟨3, ⟨#[]⟩, tv, none, 0, 0⟩ (by rfl) wb.heap.size _ (by rfl) hrb hnc (by have := HM0.out; simp only [maxLen]; omega) (by have := HM0.out; omega) hBc.size ?_)
               intro v5 w5 hrow5 hg5 _
               obtain ⟨A5, c5, hv5⟩ := hrow5.form
               have hlen5 : (cs ++ [(⟨3, ⟨#[]⟩, tv, none, 0, 0⟩ : TC)]).length = m5 := by rw [List.length_append, List.length_singleton, HM5.out, HM0.out]
               rw [hlen5] at hv5
               subst hv5
               have K5 := KT.grown hg5 (fun e => by have := (World.ownsRow.lt hrow _ e.symm).2; omega)
               obtain ⟨s0, s1, s2, s3⟩ := blk4 K5
               have t10 := K5.frozen 0
               have t11 := K5.frozen 1
               have t12 := K5.frozen 2
               have t13 := K5.frozen 3
               have hlt5 := K5.lt
               have hB5 := hBc.grown hg5 hBc.size (fun k hk => (World.ownsRow.lt hrb k hk).1)
               have hrow6 := hrow5.alloc (.cells #[.int .i64 (t1.kind : Int), .string tn, .string tx, .slice A1 m1 c1] 42)
               have hB6 := below_al hB5 (.cells #[.int .i64 (t1.kind : Int), .string tn, .string tx, .slice A1 m1 c1] 42)
               have hnc6 := RowG.new_cells w5 42 (tcC ⟨t1.kind, tn, tx, A1, m1, c1⟩)
               have HL5 := Lib.hid hlen5
               clear hlen5
               have hz6 : (w5.alloc (.cells #[.int .i64 (t1.kind : Int), .string tn, .string tx, .slice A1 m1 c1] 42)).heap.size = w5.heap.size + 1 := size_al _ _)
            | (at_builtin; go_loud (refine RowG.wpList_more _ (by rfl) _ _ 27 (by rfl) 42 tcC 4 64 _ Tok.info_rt Tryz.underlying27 rfl (by decide) tcC_len tcC_one w.heap.size _ (cs ++ [⟨3, ⟨#[]⟩, tv, none, 0, 0⟩]) ⟨t1.kind, tn, tx, A1, m1, c1⟩ (by rfl) w5.heap.size _ (by rfl) hrow6 hnc6 (by rw [HL5.out]; simp only [maxLen]; omega) (by rw [HL5.out]; omega) hB6.size ?_)
               intro v7 w7 hrow7 hg7 _))
          go_roundw
          case rel =>
            have hlow : ∀ k, (⟨wr.heap.size, k, none⟩ : Addr).block < wr.heap.size + 1 := fun _ => Nat.lt_succ_self _
            rw [hzx] at hrw1
            have htkS : TkV (((((w1.setCell ⟨wr.heap.size, 0, none⟩ (.int .i64 (t1.kind : Int))).setCell ⟨wr.heap.size, 1, none⟩ (.string tn)).setCell ⟨wr.heap.size, 2, none⟩ (.string tx)).setCell ⟨wr.heap.size, 3, none⟩ (.slice A1 m1 c1))) w.heap.size (tcV ⟨t1.kind, tn, tx, A1, m1, c1⟩) t1 := ⟨A1, c1, by rw [← HM1.out, ← HTN.out, ← HTX.out]; rfl, by rw [← HM1.out]; exact row_less (row_low (row_low (row_low (row_low hrw1 (hlow 0) (.int .i64 (t1.kind : Int))) (hlow 1) (.string tn)) (hlow 2) (.string tx)) (hlow 3) (.slice A1 m1 c1)) (by omega)⟩
            have htkb := (htkS.next hbb).next (below_al (Below.refl _ _) (.cells #[.int .i64 3, .string ⟨#[]⟩, .string tv, .slice none 0 0] 42))
            have htk5 := tkR_grown htkb hrb hg5
            have htk6 := htk5.next (below_al (Below.refl _ _) (.cells #[.int .i64 (t1.kind : Int), .string tn, .string tx, .slice A1 m1 c1] 42))
            have hch := below_al (below_next hBwS hbb) (.cells #[.int .i64 3, .string ⟨#[]⟩, .string tv, .slice none 0 0] 42)
            have hall5 := tksR_all hrb HCLN.out (fun i c t hc ht => (HALL.out i c t hc ht).next hch) (c := (⟨3, ⟨#[]⟩, tv, none, 0, 0⟩ : TC)) (t := (⟨3, [], tt, []⟩ : T)) ⟨none, 0, by rw [HTV.out]; rfl, Row.nil _ _ _ _ _⟩ hg5
            have hlen6 : (cs ++ [(⟨3, ⟨#[]⟩, tv, none, 0, 0⟩ : TC)]).length = (acc ++ [(⟨3, [], tt, []⟩ : T)]).length := by rw [List.length_append, List.length_append, HCLN.out]; rfl
            exact ⟨P1, P1, (acc ++ [(⟨3, [], tt, []⟩ : T)]) ++ [t1], rfl, rfl, ⟨Nat.le_refl _, hP2, by simp only [List.length_append, List.length_singleton]; omega⟩, tksR_more hrow6 hlen6 (fun i c t hc ht => (hall5 i c t hc ht).next (below_al (Below.refl _ _) (.cells #[.int .i64 (t1.kind : Int), .string tn, .string tx, .slice A1 m1 c1] 42))) htk6 hrow7 hg7, hB6.grown hg7 hB6.size (fun k hk => (World.ownsRow.lt hrow6 k hk).1), HRR.out P1 hb1e⟩
          case measure => simp [intOf]; omega
end Rt
end Go.Proofs.YteopighhhcikcaaGreatDoor
/- The reference's Read over 4000 bytes; its tokens told as a list that lies in memory; what both Reads answer. Conditions: texts up to 5000 bytes. -/
namespace Go.Proofs.YteopighhhcikcaaGreatDoor
open Go.ChangeShapes Go.WideShapes Go.ChangeAt Go.RowKit
namespace Rt
open Tok Rep
open RowG (Row)
theorem TksR.tr {w : World} {base : Nat} {v : Value} {ts : List T} (h : TksR w base v ts) : ∃ A c, v = .slice A ts.length c ∧ TR w w.heap.size A ts.length ts := by
  obtain ⟨cs, h1, h2, h3⟩ := h
  obtain ⟨A, c, rfl⟩ := h1.form
  exact ⟨A, c, by rw [h2], cs, by rw [← h2]; exact h1.reads.1, h2, fun i c t hc ht => tcR_of (h3 i c t hc ht)⟩
theorem tr_nil (w : World) (B : Nat) : TR w B none 0 [] := ⟨[], ⟨rfl, fun h => absurd h (Nat.lt_irrefl 0)⟩, rfl, fun i c t h => by simp at h⟩
theorem read_long (s : ByteArray) (w : World) (h : 4000 < s.size) : Calls Tryz.prog 17 #[.string s] w fun e w' => e = .returned (.tuple #[.slice none 0 0, .int .i64 3]) ∧ w = w' := by
  have h' : (4000 : Int) < (s.size : Int) := by omega
  go_enter Tryz.func17, Tryz.ntmps17
  go_wp2
  go_ret2
  exact ⟨rfl, rfl⟩
/-- What either Read answers. -/
def RdR (ts : List T) (x : Int) (e : Ending) (w' : World) : Prop := ∃ A c, e = .returned (.tuple #[.slice A ts.length c, .int .i64 x]) ∧ TR w' w'.heap.size A ts.length ts
theorem both_read (l : List UInt8) (hl : l.length ≤ 5000) : ∃ (ts : List T) (x : Int), ts.length ≤ 1000000 ∧ (∀ t ∈ ts, t.attrs.length ≤ 1000000) ∧
    (∀ w, Calls Tryz.prog 16 #[.string (toB l)] w fun e w' => RdR ts x e w' ∧ Below w.heap.size w w') ∧
    (∀ w, Calls Tryz.prog 17 #[.string (toB l)] w fun e w' => RdR ts x e w' ∧ Below w.heap.size w w') := by
  have hz : (toB l).size = l.length := toB_size l
  by_cases h : l.length ≤ 4000
  · have hc := readP_cnt l
    refine ⟨readP l, 0, by omega, fun t ht => by have := hc.2 t ht; omega, fun w => (Tok.read_any l h w).mono ?_, fun w => (Rt.read_any l h w).mono ?_⟩
    · rintro e w' ⟨v, rfl, hT, hb⟩
      obtain ⟨A, c, rfl, hT2⟩ := hT.tr
      exact ⟨⟨A, c, rfl, hT2⟩, hb⟩
    · rintro e w' ⟨⟨v, rfl, hT⟩, hb⟩
      obtain ⟨A, c, rfl, hT2⟩ := hT.tr
      exact ⟨⟨A, c, rfl, hT2⟩, hb⟩
  · refine ⟨[], 3, by simp, fun t ht => by simp at ht, fun w => (Tok.read_long _ w (by omega)).mono ?_, fun w => (Rt.read_long _ w (by omega)).mono ?_⟩
    · rintro e w' ⟨rfl, rfl⟩
      exact ⟨⟨none, 0, rfl, tr_nil _ _⟩, Below.refl _ _⟩
    · rintro e w' ⟨rfl, rfl⟩
      exact ⟨⟨none, 0, rfl, tr_nil _ _⟩, Below.refl _ _⟩
end Rt
end Go.Proofs.YteopighhhcikcaaGreatDoor
namespace Go.Proofs.YteopighhhcikcaaGreatDoor
open Go.ChangeShapes Go.WideShapes Go.ChangeAt Go.RowKit
namespace tokenTells
open Tok
set_option maxRecDepth 100000 in
set_option maxHeartbeats 8000000 in
theorem walk (s : ByteArray) (_hs : s.size ≤ maxLen) (q : Bool) (w : World) : Calls Tryz.prog 3 #[.string s, .bool q] w fun e w' => e = .returned (.bool true) ∧ Below w.heap.size w w' := by
  have ca := awakeT_any w
  by_cases hl : 5000 < s.size
  · have hl' : (5000 : Int) < (s.size : Int) := by omega
    go_enter Tryz.func3, Tryz.ntmps3
    go_wp2_with (go_at_call 15; (with_reducible refine ca.mono ?_); rintro e w1 ⟨rfl, hB1⟩)
    go_ret
    exact ⟨rfl, hB1⟩
  · obtain ⟨l, rfl⟩ : ∃ l, s = toB l := ⟨s.data.toList, bytes_inj rfl⟩
    have hz : (toB l).size = l.length := toB_size l
    have hl1 : l.length ≤ 5000 := by omega
    have hd : decide ((5000 : Int) < ((toB l).size : Int)) = false := decide_eq_false (by omega)
    obtain ⟨ts, x, hts, hat, cr, cr2⟩ := Rt.both_read l hl1
    have cn := fun w => Tok.name_any l (by unfold maxLen; omega) w
    have cn2 := fun w => Rt.name_any l hl1 w
    have ct := fun w => Rep.tell_any l (by omega) w
    have ct2 := fun w => Rt.tell_any l hl1 w
    have cs := fun w => Sg.sign_any l q (by omega) w
    have cs2 := fun w => Rt.sign_any l q hl1 w
    have cow := fun A c w h => ownT_any A ts.length c ts hts w h
    have csm : ∀ A c A2 c2 w B (_ : TR w B A ts.length ts) (_ : TR w B A2 ts.length ts), Calls Tryz.prog 18 #[.slice A ts.length c, .slice A2 ts.length c2] w fun e w' => e = .returned (.bool true) ∧ ∃ q, w' = w.drewN q := fun A c A2 c2 w B h1 h2 => (sameT_any A ts.length c ts A2 ts.length c2 ts hts hat w B h1 h2).mono (by
      rintro e w' ⟨rfl, q, rfl⟩
      exact ⟨by rw [decide_eq_true rfl], q, rfl⟩)
    clear hts hat hz hl hl1
    generalize nameB l = nb at *
    generalize toB (Rep.tellL l) = tt at *
    generalize toB (signL q l) = sg at *
    generalize toB l = S at *
    go_enter Tryz.func3, Tryz.ntmps3
    go_wp2_with (first
      | (go_at_call 15; (with_reducible refine ca.mono ?_); rintro e w1 ⟨rfl, hB1⟩)
      | (go_at_call 16; (with_reducible refine (cr _).mono ?_); rintro e w2 ⟨⟨A2, c2, rfl, hT2⟩, hb2⟩
         have hB2 := below_next hB1 hb2)
      | (go_at_call 17; (with_reducible refine (cr2 _).mono ?_); rintro e w3 ⟨⟨A3, c3, rfl, hT3⟩, hb3⟩
         have hB3 := below_next hB2 hb3
         have hT23 := hT2.next hb3)
      | (go_at_call 19; (with_reducible refine (cow _ _ _ hT23).mono ?_); rintro e w4 ⟨A4, c4, rfl, hT4, hb4⟩
         have hB4 := below_next hB3 hb4
         have hT34 := hT3.next hb4)
      | (go_at_call 18; (with_reducible refine (csm _ _ _ _ _ _ hT4 hT34).mono ?_); rintro e w5 ⟨rfl, q5, rfl⟩
         have hB5 := below_dr hB4 q5)
      | (go_at_call 20; (with_reducible refine (cn _).mono ?_); rintro e w6 ⟨rfl, hb6⟩
         have hB6 := below_next hB5 hb6)
      | (go_at_call 21; (with_reducible refine (cn2 _).mono ?_); rintro e w7 ⟨rfl, hb7⟩
         have hB7 := below_next hB6 hb7)
      | (go_at_call 22; (with_reducible refine (ct _).mono ?_); rintro e w8 ⟨rfl, hb8⟩
         have hB8 := below_next hB7 hb8)
      | (go_at_call 23; (with_reducible refine (ct2 _).mono ?_); rintro e w9 ⟨rfl, hb9⟩
         have hB9 := below_next hB8 hb9)
      | (go_at_call 24; (with_reducible refine (cs _).mono ?_); rintro e w10 ⟨rfl, hb10⟩
         have hB10 := below_next hB9 hb10)
      | (go_at_call 25; (with_reducible refine (cs2 _).mono ?_); rintro e w11 ⟨rfl, rfl⟩))
    go_ret
    exact ⟨rfl, hB10⟩
end tokenTells
end Go.Proofs.YteopighhhcikcaaGreatDoor
