/- token's readAttr and readAttrs over bytes that lie in memory. Conditions: the bytes lie in memory, and are not too many. -/
import Derived.Test.YteopighhhcikcaaGreatDoorTokD
import Derived.Test.YteopighhhcikcaaGreatDoorRowG
import Derived.Deep.Cut
import Derived.Deep.CutRange
import Derived.Deep.DeepCutAuto
namespace Go.Proofs.YteopighhhcikcaaGreatDoor
open Go.ChangeShapes Go.WideShapes Go.ChangeAt Go.RowKit
namespace Tok
open Rep (tellL)
open RowG (Row)
theorem toB_toList (l : List UInt8) : (toB l).toList = l := by rw [ByteArray.toList_eq]; rfl
theorem Lf.far {w : World} {g o : Nat} {l : List UInt8} (h : Lf w g o l) {p : Addr} (hp : g ≠ p.block) (v : Value) : Lf (w.setCell p v) g o l :=
  ⟨by simpa using h.1, fun j c hc => (World.cell?_setCell_other _ p ⟨g, o + j, none⟩ _ (fun e => hp (by rw [e]))).trans (h.2 j c hc)⟩
theorem LfV.lt {w : World} {g : Nat} {v : Value} {l : List UInt8} (h : LfV w g v l) : g < w.heap.size := by
  obtain ⟨o, c, -, -, h⟩ := h
  exact h.1
theorem LfV.via {B : Nat} {w w1 w2 : World} {g : Nat} {v : Value} {l : List UInt8} (h : LfV w1 g v l) (h1 : Below B w w1) (h2 : Below B w w2) (hg : g < B) : LfV w2 g v l := by
  obtain ⟨o, c, e, hc, h3⟩ := h
  refine ⟨o, c, e, hc, ?_, fun j c hc => ?_⟩
  · have hw : g < w.heap.size := by
      rcases Nat.lt_or_ge g w.heap.size with q | q
      · exact q
      · have hb := h1.block g hg
        rw [Array.getElem?_eq_none q, Array.getElem?_eq_getElem h3.1] at hb
        cases hb
    have hb := h2.block g hg
    rw [Array.getElem?_eq_getElem hw] at hb
    exact (Array.getElem?_eq_some_iff.1 hb).1
  · exact (h2.cell (p := ⟨g, o + j, none⟩) hg).trans ((h1.cell (p := ⟨g, o + j, none⟩) hg).symm.trans (h3.2 j c hc))
theorem blk2 {w : World} {g : Nat} {t : TypeId} {a b : Value} (h : Blk w g t #[a, b]) : w.cell? ⟨g, 0, none⟩ = some a ∧ w.cell? ⟨g, 1, none⟩ = some b := ⟨h.cell 0, h.cell 1⟩
theorem fz2 {w : World} {g : Nat} {t : TypeId} {cs : Array Value} (h : Blk w g t cs) : w.frozen? ⟨g, 0, none⟩ = false ∧ w.frozen? ⟨g, 1, none⟩ = false := ⟨h.frozen 0, h.frozen 1⟩
/-- What readAttr answers. -/
def AtV (w : World) (g : Nat) (x : Option (At × List UInt8)) (e : Ending) : Prop := match x with
  | none => e = .returned (.tuple #[.agg #[.string ⟨#[]⟩, .string ⟨#[]⟩], .slice none 0 0, .bool false])
  | some (a, r) => ∃ v, e = .returned (.tuple #[.agg #[.string (toB a.1), .string (toB a.2)], v, .bool true]) ∧ LfV w g v r
set_option maxRecDepth 100000 in
set_option maxHeartbeats 4000000 in
theorem readAttr_any (g : Nat) (v : Value) (l : List UInt8) (hl : l.length ≤ 1000000) (w : World) (h : LfV w g v l) :
    Calls Tryz.prog 153 #[v] w fun e w' => AtV w' g (attrP l) e ∧ Below w.heap.size w w' := by
  have hB1 := below_al (Below.refl w.heap.size w) (.cells #[.string ⟨#[]⟩, .string ⟨#[]⟩] 41)
  have h1 := h.next hB1
  have hgw := h.lt
  have K1 := Blk.new w 41 #[.string ⟨#[]⟩, .string ⟨#[]⟩]
  obtain ⟨o, cap, rfl, hc, hL⟩ := h1
  have c1 := countBlanks_any g o l cap hl _ hL
  have hle := bl_le l
  have n0 : (0 : Int) ≤ (bl l : Int) := Int.natCast_nonneg _
  by_cases hz : bl l = 0
  · have hP : attrP l = none := by unfold attrP; rw [if_pos hz]
    rw [hP]
    rw [hz] at c1
    clear hz n0 hle hP h hL
    show Calls _ _ _ _ (fun e w' => e = _ ∧ _)
    go_enter Tryz.func153, Tryz.ntmps153
    go_wp2_with (go_at_call 156; (with_reducible refine c1.mono ?_); rintro e w' ⟨rfl, rfl⟩)
    exact bodyPost_ret (v := .tuple #[.agg #[.string ⟨#[]⟩, .string ⟨#[]⟩], .slice none 0 0, .bool false]) (by simp [results, Tryz.results153, go_sem]) rfl ⟨rfl, hB1⟩
  · have cb := behindV (w := w.alloc (.cells #[.string ⟨#[]⟩, .string ⟨#[]⟩] 41)) (g := g) (v := .slice (some ⟨g, o, none⟩) l.length cap) (l := l) ⟨o, cap, rfl, hc, hL⟩ (bl l) hle
    have cn := fun v w h => readName_any g v (l.drop (bl l)) (by rw [List.length_drop]; unfold maxLen; omega) w h
    have z1 : ((bl l : Int) == 0) = false := by rw [beq_eq_false_iff_ne]; omega
    unfold attrP
    rw [if_neg hz]
    cases hn : nameP (l.drop (bl l)) with
    | none =>
      rw [hn] at cn
      have cn2 : ∀ v w, LfV w g v (l.drop (bl l)) → Calls Tryz.prog 57 #[v] w fun e w' => e = .returned (.tuple #[.string ⟨#[]⟩, .slice none 0 0, .bool false]) ∧ Below w.heap.size w w' := cn
      generalize l.drop (bl l) = q at *
      generalize bl l = n at *
      clear hz hle hn cn h hL
      show Calls _ _ _ _ (fun e w' => e = _ ∧ _)
      go_enter Tryz.func153, Tryz.ntmps153
      go_wp2_with (first
        | (go_at_call 156; (with_reducible refine c1.mono ?_); rintro e w' ⟨rfl, rfl⟩)
        | (go_at_call 52; (with_reducible refine cb.mono ?_); rintro e w3 ⟨⟨v3, rfl, hv3⟩, rfl⟩)
        | (go_at_call 57; (with_reducible refine (cn2 _ _ hv3).mono ?_); rintro e w4 ⟨rfl, hb4⟩
           have K4 := K1.next hb4
           obtain ⟨k0, k1⟩ := blk2 K4
           obtain ⟨f0, f1⟩ := fz2 K4
           have hB4 := below_next hB1 hb4))
      exact bodyPost_ret (v := .tuple #[.agg #[.string ⟨#[]⟩, .string ⟨#[]⟩], .slice none 0 0, .bool false]) (by simp [results, Tryz.results153, go_sem, k0, k1]) rfl ⟨rfl, below_set (below_set hB4 (Nat.le_refl _) _) (Nat.le_refl _) _⟩
    | some x =>
      obtain ⟨nx, r⟩ := x
      rw [hn] at cn
      have cn2 : ∀ v w, LfV w g v (l.drop (bl l)) → Calls Tryz.prog 57 #[v] w fun e w' => (∃ v', e = .returned (.tuple #[.string (toB nx), v', .bool true]) ∧ LfV w' g v' r) ∧ Below w.heap.size w w' := cn
      have hrl := (nameP_len hn).1
      rw [List.length_drop] at hrl
      have cv := fun v w h => readValue_any g v r (by omega) w h
      show Calls _ _ _ _ (fun e w' => (∃ v', e = .returned (.tuple #[.agg #[.string (toB nx), .string (toB (valP r).1)], v', .bool true]) ∧ LfV w' g v' (valP r).2) ∧ _)
      generalize l.drop (bl l) = q at *
      generalize bl l = n at *
      generalize (valP r).1 = vx at *
      generalize (valP r).2 = rr at *
      generalize toB nx = tn at *
      generalize toB vx = tv at *
      clear hz hle hn cn h hL hrl
      go_enter Tryz.func153, Tryz.ntmps153
      go_wp2_with (first
        | (go_at_call 156; (with_reducible refine c1.mono ?_); rintro e w' ⟨rfl, rfl⟩)
        | (go_at_call 52; (with_reducible refine cb.mono ?_); rintro e w3 ⟨⟨v3, rfl, hv3⟩, rfl⟩)
        | (go_at_call 57; (with_reducible refine (cn2 _ _ hv3).mono ?_); rintro e w4 ⟨⟨v4, rfl, hv4⟩, hb4⟩
           have K4 := K1.next hb4
           have hB4 := below_next hB1 hb4)
        | (go_at_call 169; (with_reducible refine (cv _ _ hv4).mono ?_); rintro e w5 ⟨⟨v5, rfl, hv5⟩, hb5⟩
           have K5 := K4.next hb5
           obtain ⟨k0, k1⟩ := blk2 K5
           obtain ⟨f0, f1⟩ := fz2 K5
           have hB5 := below_next hB4 hb5))
      obtain ⟨o5, cp5, rfl, hc5, hL5⟩ := hv5
      refine bodyPost_ret (v := .tuple #[.agg #[.string tn, .string tv], .slice (some ⟨g, o5, none⟩) rr.length cp5, .bool true]) (by simp [results, Tryz.results153, go_sem, k0, k1]) rfl ⟨⟨_, rfl, o5, cp5, rfl, hc5, ?_⟩, below_set (below_set hB5 (Nat.le_refl _) _) (Nat.le_refl _) _⟩
      exact (hL5.far (p := ⟨w.heap.size, 0, none⟩) (Nat.ne_of_lt hgw) _).far (p := ⟨w.heap.size, 1, none⟩) (Nat.ne_of_lt hgw) _
/-- An attribute's cells. -/
def atC (a : At) : List Value := [.string (toB a.1), .string (toB a.2)]
theorem atC_len (a : At) : (atC a).length = 2 := rfl
theorem atC_one (a : At) : ∀ u ∈ atC a, u.oneCell' = true := by
  intro u hu
  simp only [atC, List.mem_cons, List.not_mem_nil, or_false] at hu
  rcases hu with rfl | rfl <;> rfl
theorem flat_len {α : Type} {enc : α → List Value} {k : Nat} (henc : ∀ x, (enc x).length = k) (l : List α) : (l.flatMap enc).length = l.length * k := by
  induction l with
  | nil => simp
  | cons x t ih => rw [List.flatMap_cons, List.length_append, henc, ih, List.length_cons, Nat.succ_mul]; omega
theorem flat_at {α : Type} {enc : α → List Value} {k : Nat} (henc : ∀ x, (enc x).length = k) : ∀ (l : List α) (i : Nat) (x : α) (j : Nat), l[i]? = some x → j < k → (l.flatMap enc)[i * k + j]? = (enc x)[j]? := by
  intro l
  induction l with
  | nil => intro i x j h; cases h
  | cons y t ih =>
    intro i x j h hj
    rw [List.flatMap_cons]
    cases i with
    | zero =>
      rw [List.getElem?_cons_zero] at h
      obtain rfl := Option.some.inj h
      rw [Nat.zero_mul, Nat.zero_add, List.getElem?_append_left (by rw [henc]; exact hj)]
    | succ i =>
      rw [List.getElem?_cons_succ] at h
      rw [List.getElem?_append_right (by rw [henc, Nat.succ_mul]; omega), henc, show (i + 1) * k + j - k = i * k + j by rw [Nat.succ_mul]; omega]
      exact ih i x j h hj
/-- The cells of the attribute number k of a list that lies in memory, as the walk spells them. -/
theorem attr_of {w : World} {B n k : Nat} {A : Option Addr} {l : List At} {r : At} (h : Reads w B 2 A n (l.flatMap atC)) (hk : l[k]? = some r) :
    ∃ ad, A = some ad ∧ ad.block < B ∧ w.cell? (ad.add (k * 2)) = some (.string (toB r.1)) ∧ w.cell? ⟨(ad.add (k * 2)).block, (ad.add (k * 2)).off + 1, none⟩ = some (.string (toB r.2)) := by
  have hl : l.length = n := by have := h.1; rw [flat_len atC_len] at this; omega
  have hkl := (List.getElem?_eq_some_iff.1 hk).1
  obtain ⟨ad, e, hb, hc⟩ := h.2 (by omega)
  have f0 := flat_at atC_len l k r 0 hk (by decide)
  have f1 := flat_at atC_len l k r 1 hk (by decide)
  refine ⟨ad, e, hb, hc _ _ f0, ?_⟩
  have := hc _ _ f1
  rwa [← add_of_add, add_one] at this
set_option maxHeartbeats 4000000 in
set_option maxRecDepth 100000 in
theorem same1_any (x : At) (a : At) (g : Nat) (w : World) (hc : w.cell? ⟨g, 0, none⟩ = some (.string (toB a.1))) (hg : g < w.heap.size) :
    Calls Tryz.prog 155 #[.agg #[.string (toB x.1), .string (toB x.2)], .pointer (some ⟨g, 0, none⟩)] w fun e w' => e = .returned (.bool (x.1 == a.1)) ∧ Below w.heap.size w w' := by
  have ng : g ≠ w.heap.size := Nat.ne_of_lt hg
  go_enter Tryz.func155, Tryz.ntmps155
  go_wp2
  go_ret
  exact ⟨by rw [toB_toList, toB_toList]; rfl, below_al (Below.refl _ _) _⟩
/-- The place of the first attribute of a name. -/
def findA (l : List At) (n : List UInt8) : Int := if l.any (fun b => b.1 == n) then (l.findIdx (fun b => b.1 == n) : Int) else -1
set_option maxHeartbeats 4000000 in
set_option maxRecDepth 100000 in
theorem indexA_any (A : Option Addr) (n c : Nat) (l : List At) (a : At) (g : Nat) (w : World) (hr : Reads w w.heap.size 2 A n (l.flatMap atC)) (hn : n ≤ 1000000) (hc : w.cell? ⟨g, 0, none⟩ = some (.string (toB a.1))) (hg : g < w.heap.size) :
    Calls Tryz.prog 106 #[.slice A n c, .func (.func 155) #[] #[.pointer (some ⟨g, 0, none⟩)]] w fun e w' => (∃ r : Int, e = .returned (.int .i64 r) ∧ decide (0 ≤ r) = l.any (fun b => b.1 == a.1)) ∧ Below w.heap.size w w' := by
  have hlen : l.length = n := by have := hr.1; rw [flat_len atC_len] at this; omega
  obtain ⟨R, hR⟩ : ∃ R, R = l.any (fun b => b.1 == a.1) := ⟨_, rfl⟩
  rw [← hR]
  have HR := Lib.hid hR
  clear hR
  go_enter Tryz.func106, Tryz.ntmps106
  go_wp2
  go_loopw [8] (fun i wr => ∃ k : Nat, k ≤ n ∧ i = .int .i64 k ∧ Hid (∀ (j : Nat) (x : At), j < k → l[j]? = some x → (x.1 == a.1) = false) ∧ Below w.heap.size w wr) (fun i _ => n - (intOf i).toNat)
  case atStart => exact ⟨0, Nat.zero_le _, rfl, fun j x h => absurd h (by omega), Below.refl _ _⟩
  case round =>
    obtain ⟨k, hk, rfl, HK, hBr⟩ := hrel
    by_cases hlt : k < n
    · have hkl : k < l.length := by omega
      obtain ⟨r, hrk⟩ : ∃ r, l[k]? = some r := ⟨l[k], List.getElem?_eq_getElem hkl⟩
      obtain ⟨ad, rfl, hab, e0, e1⟩ := attr_of (hr.below hBr) hrk
      have c1 := fun w0 (hb0 : Below w.heap.size w w0) => same1_any r a g w0 ((hb0.cell (p := ⟨g, 0, none⟩) hg).trans hc) (by have := hb0.size; omega)
      cases hm : (r.1 == a.1) with
      | true =>
        obtain rfl : R = true := by
          rw [HR.out, List.any_eq_true]
          exact ⟨r, List.mem_of_getElem? hrk, hm⟩
        have k0 : (0 : Int) ≤ (k : Int) := Int.natCast_nonneg _
        rw [hm] at c1
        clear hrk hm HK
        go_wp2_with (go_at_call 155; (with_reducible refine (c1 _ hBr).mono ?_); rintro e w1 ⟨rfl, hb⟩; have hB1 := below_next hBr hb)
        go_ret
        exact ⟨⟨_, rfl, decide_eq_true k0⟩, hB1⟩
      | false =>
        have HK' : Hid (∀ (j : Nat) (x : At), j < k + 1 → l[j]? = some x → (x.1 == a.1) = false) := by
          intro j x hj hx
          by_cases e : j = k
          · subst e
            rw [hrk] at hx
            injection hx with hx
            subst hx
            exact hm
          · exact HK.out j x (by omega) hx
        rw [hm] at c1
        clear hrk hm HK
        go_wp2_with (go_at_call 155; (with_reducible refine (c1 _ hBr).mono ?_); rintro e w1 ⟨rfl, hb⟩; have hB1 := below_next hBr hb)
        go_roundw
        case rel => exact ⟨k + 1, by omega, by go_num, HK', hB1⟩
        case measure => simp [intOf]; omega
    · obtain rfl : k = n := by omega
      obtain rfl : R = false := by
        rw [HR.out, List.any_eq_false]
        intro x hx
        obtain ⟨j, hj, e⟩ := List.getElem_of_mem hx
        have := HK.out j x (by omega) (by rw [List.getElem?_eq_getElem hj, e])
        rw [this]; decide
      go_wp2
      go_ret
      exact ⟨⟨-1, rfl, rfl⟩, hBr⟩
set_option maxHeartbeats 4000000 in
set_option maxRecDepth 100000 in
theorem containsA_any (A : Option Addr) (n c : Nat) (l : List At) (a : At) (g : Nat) (w : World) (hr : Reads w w.heap.size 2 A n (l.flatMap atC)) (hn : n ≤ 1000000) (hc : w.cell? ⟨g, 0, none⟩ = some (.string (toB a.1))) (hg : g < w.heap.size) :
    Calls Tryz.prog 154 #[.slice A n c, .func (.func 155) #[] #[.pointer (some ⟨g, 0, none⟩)]] w fun e w' => e = .returned (.bool (l.any (fun b => b.1 == a.1))) ∧ Below w.heap.size w w' := by
  have c1 := indexA_any A n c l a g w hr hn hc hg
  generalize l.any (fun b => b.1 == a.1) = R at *
  clear hr hc
  go_enter Tryz.func154, Tryz.ntmps154
  go_wp2_with (go_at_call 106; (with_reducible refine c1.mono ?_); rintro e w1 ⟨⟨r, rfl, hR⟩, hb⟩)
  go_ret
  exact ⟨rfl, hb⟩
def sizeV : Value → Nat
  | .slice _ n _ => n
  | _ => 0
theorem LfV.sizeV {w : World} {g : Nat} {v : Value} {l : List UInt8} (h : LfV w g v l) : sizeV v = l.length := by
  obtain ⟨o, c, rfl, -, -⟩ := h
  rfl
theorem info_at : (Tryz.prog.info? 41).map (fun i => (i.zero, i.size, i.bytes)) = some (some (.agg #[.string ⟨#[]⟩, .string ⟨#[]⟩]), 2, 32) := by kernel_rfl
set_option maxRecDepth 100000 in
set_option maxHeartbeats 8000000 in
theorem readAttrs_any (g : Nat) (v : Value) (l : List UInt8) (hl : l.length ≤ 1000000) (w : World) (h : LfV w g v l) :
    Calls Tryz.prog 136 #[v] w fun e w' => (∃ va vl, e = .returned (.tuple #[va, vl]) ∧ Row w' w.heap.size 41 2 atC va (attrsP [] l).1 ∧ LfV w' g vl (attrsP [] l).2) ∧ Below w.heap.size w w' := by
  have hgw := h.lt
  have hR0 := Row.nil w w.heap.size 41 2 atC
  obtain ⟨R, hR⟩ : ∃ R, R = attrsP [] l := ⟨_, rfl⟩
  rw [← hR]
  have HR : Hid (attrsP [] l = R) := hR.symm
  clear hR
  have hB0 := Below.refl w.heap.size w
  go_enter Tryz.func136, Tryz.ntmps136
  go_wp2
  go_loopw [0, 4] (fun lv av wr => ∃ (l' : List UInt8) (ats : List At), LfV wr g lv l' ∧ Row wr w.heap.size 41 2 atC av ats ∧ Below w.heap.size w wr ∧ Hid (attrsP ats l' = R) ∧ ats.length + l'.length ≤ l.length) (fun lv _ _ => sizeV lv)
  case atStart => exact ⟨l, [], h, hR0, hB0, HR, by simp⟩
  case round =>
    obtain ⟨l', ats, hv, hrow, hBr, HA, hlen⟩ := hrel
    clear hR0 hB0 HR h
    have ca := readAttr_any g u0 l' (by omega) wr hv
    have hsz := hv.sizeV
    cases hat : attrP l' with
    | none =>
      rw [hat] at ca
      have ca2 : Calls Tryz.prog 153 #[u0] wr fun e w' => e = .returned (.tuple #[.agg #[.string ⟨#[]⟩, .string ⟨#[]⟩], .slice none 0 0, .bool false]) ∧ Below wr.heap.size wr w' := ca
      have hP := attrsP_none (ats := ats) hat
      have HP : Hid ((ats, l') = R) := by rw [← hP]; exact HA.out
      clear ca hat hP HA
      go_wp2_with (go_at_call 153; (with_reducible refine ca2.mono ?_); rintro e w2 ⟨rfl, hb2⟩)
      go_ret2
      obtain rfl := HP.out
      exact ⟨⟨_, _, rfl, (hrow.below hb2).alloc _, (hv.next hb2).next (below_al (Below.refl _ _) _)⟩, below_al (below_next hBr hb2) _⟩
    | some x =>
      obtain ⟨a, r⟩ := x
      rw [hat] at ca
      have ca2 : Calls Tryz.prog 153 #[u0] wr fun e w' => (∃ v, e = .returned (.tuple #[.agg #[.string (toB a.1), .string (toB a.2)], v, .bool true]) ∧ LfV w' g v r) ∧ Below wr.heap.size wr w' := ca
      have hlt := attrP_len hat
      have hP := attrsP_some (ats := ats) hat
      have HP : Hid (attrsP (addA ats a) r = R) := by rw [← hP]; exact HA.out
      obtain ⟨A, c, rfl⟩ := hrow.form
      have hal : ats.length ≤ 1000000 := by omega
      have cc := fun (w2 : World) (hr : Reads w2 w2.heap.size 2 A ats.length (ats.flatMap atC)) (g : Nat) hc hg => containsA_any A ats.length c ats a g w2 hr hal hc hg
      clear ca hat hP HA
      cases hany : ats.any (fun b => b.1 == a.1) with
      | true =>
        have hadd : addA ats a = ats := by unfold addA; rw [if_pos hany]
        rw [hadd] at HP
        simp only [hany] at cc
        clear hadd hany
        go_wp2_with (first
          | (go_at_call 153; (with_reducible refine ca2.mono ?_); rintro e w2 ⟨⟨v2, rfl, hv2⟩, hb2⟩
             have hB2 := below_next hBr hb2
             have hb3 := below_al (Below.refl w2.heap.size w2) (.cells #[.string (toB a.1), .string (toB a.2)] 41)
             have hrow3 := (hrow.below hb2).below hb3
             have hv3 := hv2.next hb3
             have k0 := (Blk.new w2 41 #[.string (toB a.1), .string (toB a.2)]).cell 0
             have c3 := cc _ hrow3.reads.1 w2.heap.size k0 (by rw [size_al]; exact Nat.lt_succ_self _))
          | (go_at_call 154; (with_reducible refine c3.mono ?_); rintro e w4 ⟨rfl, hb4⟩))
        go_roundw
        case rel => exact ⟨r, ats, hv3.next hb4, hrow3.below hb4, below_next (below_next hB2 hb3) hb4, HP, by omega⟩
        case measure => rw [hsz, hv2.sizeV]; omega
      | false =>
        have hadd : addA ats a = ats ++ [a] := by unfold addA; rw [if_neg (by rw [hany]; decide)]
        rw [hadd] at HP
        simp only [hany] at cc
        clear hadd hany
        go_wp2_with (first
          | (go_at_call 153; (with_reducible refine ca2.mono ?_); rintro e w2 ⟨⟨v2, rfl, hv2⟩, hb2⟩
             have hB2 := below_next hBr hb2
             have hb3 := below_al (Below.refl w2.heap.size w2) (.cells #[.string (toB a.1), .string (toB a.2)] 41)
             have hrow3 := (hrow.below hb2).below hb3
             have hv3 := hv2.next hb3
             have K3 := Blk.new w2 41 #[.string (toB a.1), .string (toB a.2)]
             have c3 := cc _ hrow3.reads.1 w2.heap.size (K3.cell 0) (by rw [size_al]; exact Nat.lt_succ_self _))
          | (go_at_call 154; (with_reducible refine c3.mono ?_); rintro e w4 ⟨rfl, hb4⟩
             obtain ⟨k0, k1⟩ := blk2 (K3.next hb4)
             have hrow4 := (hrow3.below hb4).alloc (.cells #[.string (toB a.1), .string (toB a.2)] 41)
             have hB4 := below_next (below_next hB2 hb3) hb4
             have hB5 := below_al hB4 (.cells #[.string (toB a.1), .string (toB a.2)] 41))
          | (refine RowG.wpList_more _ (by rfl) _ _ 36 (by rfl) 41 atC 2 32 _ info_at Tryz.underlying36 rfl (by decide) atC_len atC_one w.heap.size _ ats a (by rfl) w4.heap.size _ (by rfl) hrow4 (RowG.new_cells w4 41 (atC a)) (by simp only [maxLen]; omega) (by omega) hB5.size ?_
             intro v5 w5 hrow5 hg5 _))
        go_roundw
        case rel => exact ⟨r, ats ++ [a], hv2.via hB2 (RowG.below_row hB5 hrow4 hg5) hgw, hrow5, RowG.below_row hB5 hrow4 hg5, HP, by rw [List.length_append, List.length_singleton]; omega⟩
        case measure => rw [hsz, hv2.sizeV]; omega
end Tok
end Go.Proofs.YteopighhhcikcaaGreatDoor
