/- selector's List. Conditions: the text is not too long. -/
import Derived.Test.YthacboofbbfmlaaGreatDoorSelG
import Derived.Test.YthacboofbbfmlaaGreatDoorScanSplitC
namespace Go.Proofs.YthacboofbbfmlaaGreatDoor
open Go.ChangeShapes Go.WideShapes Go.ChangeAt Go.RowKit Go.Shelf
namespace Sel
open Tok
open RowG (Row)
/-- What the cells of a selector hold. -/
structure XC where
  A : Option Addr
  n : Nat
  c : Nat
  K : Option Addr
  m : Nat
  d : Nat
def xcC (x : XC) : List Value := [.slice x.A x.n x.c, .slice x.K x.m x.d]
theorem xcC_len (c : XC) : (xcC c).length = 2 := rfl
theorem xcC_one (c : XC) : ∀ u ∈ xcC c, u.oneCell' = true := by
  intro u hu
  unfold xcC at hu
  simp only [List.mem_cons, List.not_mem_nil, or_false] at hu
  rcases hu with rfl | rfl <;> rfl
theorem info_slr : (Tryz.prog.info? 25).map (fun i => (i.zero, i.size, i.bytes)) = some (some (.agg #[.slice none 0 0, .slice none 0 0]), 2, 48) := by kernel_rfl
def SXm (w : World) (base : Nat) (c : XC) (x : Slr) : Prop := PaL w base (.slice c.A c.n c.c) x.parts ∧ Row w base 4 1 boC (.slice c.K c.m c.d) x.close
/-- Selectors that the call itself has laid. -/
def XsL (w : World) (base : Nat) (v : Value) (xs : List Slr) : Prop := ∃ cs : List XC, Row w base 25 2 xcC v cs ∧ cs.length = xs.length ∧ ∀ (i : Nat) (c : XC) (x : Slr), cs[i]? = some c → xs[i]? = some x → SXm w base c x
theorem SXm.kt {w w' : World} {base : Nat} {c : XC} {x : Slr} (h : SXm w base c x) (k1 : KT w w' 53) (k2 : KT w w' 9) (k3 : KT w w' 4) : SXm w' base c x := ⟨h.1.kt k1 k2, row_kt h.2 k3⟩
theorem XsL.kt {w w' : World} {base : Nat} {v : Value} {xs : List Slr} (h : XsL w base v xs) (k0 : KT w w' 25) (k1 : KT w w' 53) (k2 : KT w w' 9) (k3 : KT w w' 4) : XsL w' base v xs := by
  obtain ⟨cs, h1, h2, h3⟩ := h
  exact ⟨cs, row_kt h1 k0, h2, fun i c x a b => (h3 i c x a b).kt k1 k2 k3⟩
theorem XsL.next {w w' : World} {base : Nat} {v : Value} {xs : List Slr} (h : XsL w base v xs) (hb : Below w.heap.size w w') : XsL w' base v xs := h.kt (.below hb _) (.below hb _) (.below hb _) (.below hb _)
theorem PaL.less {w : World} {base b : Nat} {v : Value} {ps : List Sim} (h : PaL w base v ps) (hb : b ≤ base) : PaL w b v ps := by
  obtain ⟨cs, h1, h2, h3⟩ := h
  exact ⟨cs, row_less h1 hb, h2, fun i c x a d => by
    obtain ⟨q1, q2, q3, q4, q5⟩ := h3 i c x a d
    exact ⟨q1, row_less q2 hb, row_less q3 hb, q4, q5⟩⟩
theorem XsL.less {w : World} {base b : Nat} {v : Value} {xs : List Slr} (h : XsL w base v xs) (hb : b ≤ base) : XsL w b v xs := by
  obtain ⟨cs, h1, h2, h3⟩ := h
  exact ⟨cs, row_less h1 hb, h2, fun i c x a d => ⟨(h3 i c x a d).1.less hb, row_less (h3 i c x a d).2 hb⟩⟩
theorem XsL.nil (w : World) (base : Nat) : XsL w base (.slice none 0 0) [] := ⟨[], Row.nil _ _ _ _ _, rfl, fun i c p h => by simp at h⟩
theorem XsL.form {w : World} {base : Nat} {v : Value} {xs : List Slr} (h : XsL w base v xs) : ∃ A c, v = .slice A xs.length c := by
  obtain ⟨cs, h1, h2, -⟩ := h
  rw [← h2]
  exact h1.form
theorem XsL.more {w w' : World} {base : Nat} {v' : Value} {xs : List Slr} {cs : List XC} {c : XC} {x : Slr} (h3 : ∀ (i : Nat) (c : XC) (x : Slr), cs[i]? = some c → xs[i]? = some x → SXm w base c x) (h2 : cs.length = xs.length) (hrow : Row w' base 25 2 xcC v' (cs ++ [c])) (k1 : KT w w' 53) (k2 : KT w w' 9) (k3 : KT w w' 4) (hc : SXm w base c x) : XsL w' base v' (xs ++ [x]) := by
  refine ⟨cs ++ [c], hrow, by rw [List.length_append, List.length_append, h2]; rfl, fun i d q hd hq => ?_⟩
  by_cases hi : i < cs.length
  · rw [List.getElem?_append_left hi] at hd
    rw [List.getElem?_append_left (by omega)] at hq
    exact (h3 i d q hd hq).kt k1 k2 k3
  · rw [List.getElem?_append_right (by omega)] at hd hq
    by_cases e : i = cs.length
    · subst e
      rw [Nat.sub_self] at hd
      rw [h2, Nat.sub_self] at hq
      have hd : c = d := by simpa using hd
      have hq : x = q := by simpa using hq
      subst hd
      subst hq
      exact hc.kt k1 k2 k3
    · rw [List.getElem?_eq_none (by simp; omega)] at hd
      cases hd
theorem go_snoc {ts : List (List UInt8)} {t : List UInt8} {ps : List Slr} (h : listP.go ts = some ps) : listP.go (ts ++ [t]) = match readP t with | none => none | some p => some (ps ++ [p]) := by
  induction ts generalizing ps with
  | nil =>
    have h : some [] = some ps := h
    injection h with h
    subst h
    show (match readP t with | none => none | some p => match listP.go [] with | none => none | some ps => some (p :: ps)) = _
    cases readP t <;> rfl
  | cons u us ih =>
    have h : (match readP u with | none => none | some p => match listP.go us with | none => none | some ps => some (p :: ps)) = some ps := h
    show (match readP u with | none => none | some p => match listP.go (us ++ [t]) with | none => none | some ps => some (p :: ps)) = _
    cases hu : readP u with
    | none => rw [hu] at h; cases h
    | some p =>
      rw [hu] at h
      cases ha : listP.go us with
      | none => simp only [ha] at h; cases h
      | some qs =>
        simp only [ha] at h
        injection h with h
        subst h
        simp only [ih ha]
        cases readP t <;> rfl
theorem go_none {ts : List (List UInt8)} : ∀ {k : Nat}, listP.go (ts.take k) = none → listP.go ts = none := by
  induction ts with
  | nil => intro k h; rw [List.take_nil] at h; exact h
  | cons t ts ih =>
    intro k h
    cases k with
    | zero => cases h
    | succ k =>
      rw [List.take_succ_cons] at h
      have h : (match readP t with | none => none | some p => match listP.go (ts.take k) with | none => none | some ps => some (p :: ps)) = none := h
      show (match readP t with | none => none | some p => match listP.go ts with | none => none | some ps => some (p :: ps)) = none
      cases ht : readP t with
      | none => rfl
      | some p =>
        rw [ht] at h
        cases ha : listP.go (ts.take k) with
        | none => simp only [ih ha]
        | some qs => simp only [ha] at h; cases h
theorem parts_small (p : UInt8 → Bool) : ∀ (l : List UInt8), (partsAt p l).length ≤ l.length + 1 ∧ ∀ x ∈ partsAt p l, x.length ≤ l.length
  | [] => ⟨by simp [partsAt], fun x hx => by simp [partsAt] at hx; subst hx; simp⟩
  | c :: t => by
    obtain ⟨h1, h2⟩ := parts_small p t
    unfold partsAt
    split
    · refine ⟨by simp only [List.length_cons]; omega, fun x hx => ?_⟩
      rcases List.mem_cons.1 hx with rfl | hx
      · simp
      · have := h2 x hx
        simp only [List.length_cons]; omega
    · split
      · exact ⟨by simp, fun x hx => by simp at hx; subst hx; simp⟩
      · rename_i h r e
        rw [e] at h1 h2
        refine ⟨by simp only [List.length_cons] at *; omega, fun x hx => ?_⟩
        rcases List.mem_cons.1 hx with rfl | hx
        · have := h2 h List.mem_cons_self
          simp only [List.length_cons]; omega
        · have := h2 x (List.mem_cons_of_mem _ hx)
          simp only [List.length_cons]; omega
theorem split_small (sep : UInt8) (l : List UInt8) : (splitF sep l).length ≤ l.length + 1 ∧ ∀ x ∈ splitF sep l, x.length ≤ l.length := by
  obtain ⟨h1, h2⟩ := parts_small (· == sep) l
  refine ⟨by unfold splitF; rw [List.length_map]; exact h1, fun x hx => ?_⟩
  unfold splitF at hx
  obtain ⟨y, hy, rfl⟩ := List.mem_map.1 hx
  exact Nat.le_trans (trim_len y) (h2 y hy)
theorem strs_flat (l : List (List UInt8)) : strs l = l.flatMap txC := by
  induction l with
  | nil => rfl
  | cons a l ih =>
    show Value.string (toB a) :: strs l = [Value.string (toB a)] ++ l.flatMap txC
    rw [ih]
    rfl
/-- What List answers. -/
def ListR (w : World) (base : Nat) (x : Option (List Slr)) (e : Ending) : Prop := match x with
  | none => e = .returned (.tuple #[.slice none 0 0, .bool false])
  | some xs => ∃ v, e = .returned (.tuple #[v, .bool true]) ∧ XsL w base v xs
set_option maxRecDepth 100000 in
set_option maxHeartbeats 16000000 in
theorem list_any (l : List UInt8) (hl : l.length ≤ 100000) (w : World) :
    Calls Tryz.prog 9 #[.string (toB l)] w fun e w' => ListR w' w.heap.size (listP.go (splitF 44 l)) e ∧ Below w.heap.size w w' := by
  have cs := partsS.split_any (toB l) 44 w (by rw [toB_size]; unfold mostB; omega)
  change Calls Tryz.prog 27 #[.string (toB l), .int .u8 44] w (fun e w' => ∃ A n c, e = .returned (.slice A n c) ∧ Reads w' w'.heap.size 1 A n (strs (splitF 44 l)) ∧ Below w.heap.size w w') at cs
  rw [strs_flat] at cs
  obtain ⟨hs1, hs2⟩ := split_small 44 l
  obtain ⟨R, hR⟩ : ∃ R, R = listP.go (splitF 44 l) := ⟨_, rfl⟩
  rw [← hR]
  have HR := Lib.hid hR
  have HTL : Hid (∀ x ∈ splitF 44 l, x.length ≤ 100000) := fun x hx => Nat.le_trans (hs2 x hx) hl
  have hM : (splitF 44 l).length ≤ 100001 := by omega
  clear hR hs1 hs2
  generalize splitF 44 l = ts at *
  go_enter Tryz.func9, Tryz.ntmps9
  go_wp2_with (go_at_call 27; (with_reducible refine cs.mono ?_); rintro e w1 ⟨A1, M, c1, rfl, hrt, hb1⟩)
  have hMl : ts.length = M := by have := hrt.1; rw [flat_len txC_len] at this; omega
  have hM5 : M ≤ 100001 := by omega
  have HM := Lib.hid hMl
  clear hMl hM cs
  go_loopw [4, 12] (fun vp iv wr => ∃ (k : Nat) (xs : List Slr), k ≤ M ∧ iv = .int .i64 k ∧ Hid (listP.go (ts.take k) = some xs) ∧ xs.length = k ∧ XsL wr w1.heap.size vp xs ∧ Below w1.heap.size w1 wr) (fun _ iv _ => M - (intOf iv).toNat)
  case atStart => exact ⟨0, [], Nat.zero_le _, rfl, rfl, rfl, XsL.nil _ _, Below.refl _ _⟩
  case round =>
    obtain ⟨k, xs, hk, rfl, HA, hpl, hP, hB1⟩ := hrel
    have hBr := below_next hb1 hB1
    obtain ⟨Ap, cp, hvp⟩ := hP.form
    rw [hpl] at hvp
    subst hvp
    by_cases hlt : k < M
    · obtain ⟨t, htk⟩ : ∃ t, ts[k]? = some t := ⟨_, List.getElem?_eq_getElem (by rw [HM.out]; exact hlt)⟩
      have htl : t.length ≤ 100000 := HTL.out t (List.mem_of_getElem? htk)
      have cr := read_any t htl wr
      have hki : (k : Int) < (M : Int) := by omega
      have HT1 : Hid (listP.go (ts.take (k + 1)) = match readP t with | none => none | some p => some (xs ++ [p])) := by
        show _ = _
        rw [List.take_add_one, htk]
        exact go_snoc HA.out
      obtain ⟨ad, hAd, -, e0⟩ := tx_of (hrt.below hB1) htk
      subst hAd
      cases hs : readP t with
      | none =>
        rw [hs] at cr HT1
        obtain rfl : R = none := by rw [HR.out, go_none HT1.out]
        clear HR HT1 HA htk hs
        go_wp2_with (go_at_call 7; (with_reducible refine cr.mono ?_); rintro e w4 ⟨hsr, hb4⟩; obtain rfl := hsr)
        exact bodyPost_ret (v := .tuple #[.slice none 0 0, .bool false]) (by simp [results, Tryz.results9, go_sem]) rfl ⟨rfl, below_al (below_next hBr hb4) _⟩
      | some x =>
        rw [hs] at cr HT1
        obtain ⟨cs0, hrow, hcl0, hall⟩ := hP
        clear HA htk hs
        have hpl2 : (xs ++ [x]).length = k + 1 := by rw [List.length_append, List.length_singleton, hpl]
        go_wp2_with (first
          | (go_at_call 7; (with_reducible refine cr.mono ?_); rintro e w4 ⟨⟨vi, vc, rfl, hri, hrc⟩, hb4⟩
             obtain ⟨Ai, ci, rfl⟩ := hri.form
             obtain ⟨Ac, cc, rfl⟩ := hrc.form
             generalize hni : x.parts.length = ni at *
             generalize hnc : x.close.length = nc at *
             have hA4 : Below w4.heap.size w4 ((w4.alloc (.cells #[.slice Ai ni ci, .slice Ac nc cc] 25)).alloc (.cells #[.slice Ai ni ci, .slice Ac nc cc] 25)) := below_al (below_al (Below.refl _ _) _) _
             have hA : Below wr.heap.size wr ((w4.alloc (.cells #[.slice Ai ni ci, .slice Ac nc cc] 25)).alloc (.cells #[.slice Ai ni ci, .slice Ac nc cc] 25)) := below_al (below_al hb4 _) _
             have hSX : SXm ((w4.alloc (.cells #[.slice Ai ni ci, .slice Ac nc cc] 25)).alloc (.cells #[.slice Ai ni ci, .slice Ac nc cc] 25)) w1.heap.size ⟨Ai, ni, ci, Ac, nc, cc⟩ x := ⟨(PaL.less hri hB1.size).next hA4, (row_less hrc hB1.size).below hA4⟩
             have hY := hrow.below hA
             have hB6 := below_next hB1 hA
             have hncl : ∀ (j : Nat) (u : Value), (xcC ⟨Ai, ni, ci, Ac, nc, cc⟩)[j]? = some u → ((w4.alloc (.cells #[.slice Ai ni ci, .slice Ac nc cc] 25)).alloc (.cells #[.slice Ai ni ci, .slice Ac nc cc] 25)).cell? ⟨(w4.alloc (.cells #[.slice Ai ni ci, .slice Ac nc cc] 25)).heap.size, j, none⟩ = some u := RowG.new_cells (w4.alloc (.cells #[.slice Ai ni ci, .slice Ac nc cc] 25)) 25 (xcC ⟨Ai, ni, ci, Ac, nc, cc⟩)
             rw [size_al] at hncl)
          | (refine RowG.wpList_more _ (by rfl) _ _ 36 (by rfl) 25 xcC 2 48 _ info_slr Tryz.underlying36 rfl (by decide) xcC_len xcC_one w1.heap.size _ cs0 ⟨Ai, ni, ci, Ac, nc, cc⟩ (by rfl) (w4.heap.size + 1) _ (by rfl) hY hncl (by simp only [maxLen]; omega) (by omega) hB6.size ?_
             intro v7 w7 hrow7 hg7 ho7
             have hk7 : ∀ (e : TypeId), 25 ≠ e → KT ((w4.alloc (.cells #[.slice Ai ni ci, .slice Ac nc cc] 25)).alloc (.cells #[.slice Ai ni ci, .slice Ac nc cc] 25)) w7 e := fun e he => KT.grown (e := e) hY hg7 he
             have hP8 := XsL.more (fun i c q a b => (hall i c q a b).kt (.below hA _) (.below hA _) (.below hA _)) hcl0 hrow7 (hk7 _ (by decide)) (hk7 _ (by decide)) (hk7 _ (by decide)) hSX
             have hB8 : Below w1.heap.size w1 w7 := hB6.grown hg7 hB6.size (fun j hj => (World.ownsRow.lt hY j hj).1)))
        go_roundw
        case rel => exact ⟨k + 1, xs ++ [x], by omega, by go_num, HT1, hpl2, hP8, hB8⟩
        case measure => simp [intOf]; omega
    · obtain rfl : k = M := by omega
      have hfin : R = some xs := by
        have h1 := HA.out
        rw [List.take_of_length_le (by rw [HM.out]; exact Nat.le_refl _)] at h1
        rw [HR.out, h1]
      clear HR HA
      go_wp2
      exact bodyPost_ret (v := .tuple #[.slice Ap k cp, .bool true]) (by simp [results, Tryz.results9, go_sem]) rfl ⟨by rw [hfin]; exact ⟨_, rfl, hP.less hb1.size⟩, hBr⟩
end Sel
end Go.Proofs.YthacboofbbfmlaaGreatDoor
