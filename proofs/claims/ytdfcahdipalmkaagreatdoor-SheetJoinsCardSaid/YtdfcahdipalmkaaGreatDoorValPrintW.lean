/- Print's walk, of the landed code of package value, from what scan.Words, printNumber and printColor answer. Conditions: that. -/
import Derived.Test.YtdfcahdipalmkaaGreatDoorValC
import Derived.Test.YtdfcahdipalmkaaGreatDoorBlk
import Derived.Test.YtdfcahdipalmkaaGreatDoorValMayW
import Derived.Deep.RegionLaw
import Derived.Deep.RegionWith
/- Layer 8's awake, from what value's functions answer. Conditions: those answers. -/
namespace Go.Proofs.YtdfcahdipalmkaaGreatDoor
open Go.ChangeShapes Go.WideShapes Go.ChangeAt Go.RowKit
theorem blk2 {w : World} {g : Nat} {t : TypeId} {a b : Value} (h : Blk w g t #[a, b]) : w.cell? ⟨g, 0, none⟩ = some a ∧ w.cell? ⟨g, 1, none⟩ = some b := ⟨h.cell 0, h.cell 1⟩
theorem field_of (k n : Int) (w : World) : (Instr.field 52 (.agg #[.int .i64 k, .int .i64 n]) 1).run Tryz.prog w = .ok (.int .i64 n) w := by
  kernel_rfl
namespace valAwake
theorem bytes_lt (n : Nat) (h : n ≤ 100) : n ≤ mostB := by unfold mostB; omega
end valAwake
end Go.Proofs.YtdfcahdipalmkaaGreatDoor
/- ValueBack's walk, from what value's functions answer. Conditions: those answers. -/
namespace Go.Proofs.YtdfcahdipalmkaaGreatDoor
open Go.ChangeShapes Go.WideShapes Go.ChangeAt Go.RowKit
theorem fracs_len : ∀ r : Fin 64, (fracs r.val).length ≤ 7 := by decide +kernel
theorem decL_len {n : Int} (h1 : -63999999999 ≤ n) (h2 : n ≤ 63999999999) : (decL n).length ≤ 17 := by
  have key : ∀ m : Nat, m ≤ 63999999999 → (decU m).length ≤ 16 := by
    intro m hm
    have h := dec_ok (u := m / 64) (by omega)
    unfold okD at h
    rw [Bool.and_eq_true, Bool.and_eq_true] at h
    have hl := of_decide_eq_true h.1.2
    have hf := fracs_len ⟨m % 64, Nat.mod_lt _ (by omega)⟩
    simp only at hf
    unfold decU
    rw [List.length_append]
    omega
  unfold decL
  split
  · have := key n.natAbs (by omega)
    simp only [List.length_cons]
    omega
  · have := key n.toNat (by omega)
    omega
theorem words_short : ∀ p : Fin 27, ∀ i : Fin 5, ((wordsP p.val).getD i.val []).length ≤ 10 := by decide
theorem print_len (p k n : Int) : (printP p k n).length ≤ 20 := by
  unfold printP
  by_cases h : mayP p k n = true
  · rw [if_pos h]
    have hh : hasP p k = true := by unfold mayP at h; rw [Bool.and_eq_true] at h; exact h.1
    obtain ⟨q, hq⟩ := nat_of hh
    rcases kind_has hh with rfl | rfl | rfl | rfl | rfl | rfl
    · show ([97, 117, 116, 111] : List UInt8).length ≤ 20; decide
    · show (decL n ++ [112, 120]).length ≤ 20
      have := decL_len (range_of h (by omega)).1 (range_of h (by omega)).2
      simp only [List.length_append, List.length_cons, List.length_nil]; omega
    · show (decL n ++ [37]).length ≤ 20
      have := decL_len (range_of h (by omega)).1 (range_of h (by omega)).2
      simp only [List.length_append, List.length_cons, List.length_nil]; omega
    · show (35 :: hex6 n.toNat).length ≤ 20
      unfold hex6
      simp
    · have hn : 0 ≤ n ∧ n < (wordsP p).length := by unfold mayP at h; rw [Bool.and_eq_true] at h; exact of_decide_eq_true h.2
      have hl : (wordsP p).length ≤ 4 := by
        have : ∀ q : Fin 27, (wordsP q.val).length ≤ 4 := by decide
        rw [hq]; exact this q
      have := words_short q ⟨n.toNat, by omega⟩
      rw [← hq] at this
      simp only at this
      show ((wordsP p).getD n.toNat []).length ≤ 20
      omega
    · have := decL_len (range_of h (by omega)).1 (range_of h (by omega)).2
      show (decL n).length ≤ 20
      omega
  · rw [if_neg h]; exact Nat.zero_le _
/-- The printed text of what may be is not empty: nothing wants it, but 'is' tells it. -/
theorem read_print (p k n : Int) : readF p (printP p k n) = if mayP p k n then some (k, n) else none := by
  cases h : mayP p k n with
  | true => rw [print_may h]; rfl
  | false => rw [(print_not h).2]; rfl
namespace valueBack
end valueBack
end Go.Proofs.YtdfcahdipalmkaaGreatDoor
namespace Go.Proofs.YtdfcahdipalmkaaGreatDoor
open Go.ChangeShapes Go.WideShapes Go.ChangeAt Go.RowKit
namespace Val
def NumberC : Prop := ∀ (n : Int) (w : World), -63999999999 ≤ n → n ≤ 63999999999 → Tabs w → Calls Tryz.prog 168 #[.int .i64 n] w fun e w' => e = .returned (.string (toB (decL n))) ∧ Below w.heap.size w w'
def ColorC : Prop := ∀ (n : Int) (w : World), 0 ≤ n → n < 16777216 → Tabs w → Calls Tryz.prog 169 #[.int .i64 n] w fun e w' => e = .returned (.string (toB (35 :: hex6 n.toNat))) ∧ Below w.heap.size w w'
theorem cat_px (l : List UInt8) : toB l ++ ⟨#[112, 120]⟩ = toB (l ++ [112, 120]) := toB_cat l [112, 120]
theorem cat_pc (l : List UInt8) : toB l ++ ⟨#[37]⟩ = toB (l ++ [37]) := toB_cat l [37]
set_option maxHeartbeats 8000000 in
set_option maxRecDepth 100000 in
theorem print_any (cWords : WordsC) (cNum : NumberC) (cCol : ColorC) : PrintC := by
  intro p k n w hT
  obtain ⟨R, hR⟩ : ∃ R, R = printP p k n := ⟨_, rfl⟩
  rw [← hR]
  have HR := Lib.hid hR
  clear hR
  have hB := below_al (Below.refl w.heap.size w) (.cells #[.int .i64 k, .int .i64 n] 52)
  have Kv := Blk.new w 52 #[.int .i64 k, .int .i64 n]
  have c1 := fun w => may_any cWords p k n w
  unfold vV at c1 ⊢
  cases hm : mayP p k n with
  | false =>
    obtain rfl : R = [] := by rw [HR.out]; unfold printP; rw [hm]; rfl
    rw [hm] at c1
    show Calls _ _ _ _ fun e w' => e = .returned (.string ⟨#[]⟩) ∧ _
    go_enter Tryz.func126, Tryz.ntmps126
    go_wp2_with (first
      | (go_at_call 79; (with_reducible refine (c1 _).mono ?_); rintro e w1 ⟨rfl, hb⟩
         have hB1 := below_next hB hb))
    go_ret
    exact ⟨rfl, hB1⟩
  | true =>
    have hT : printP p k n = textP p k n := by unfold printP; rw [hm]; rfl
    have hh : hasP p k = true := by unfold mayP at hm; exact (Bool.and_eq_true _ _ ▸ hm).1
    obtain ⟨⟨k1, k6⟩, p1, p27⟩ := has_ranges hh
    rw [hm] at c1
    have hm2 := hm
    unfold mayP at hm2
    rw [hh, Bool.true_and] at hm2
    have cn := fun (h1 : -63999999999 ≤ n) (h2 : n ≤ 63999999999) w => cNum n w h1 h2
    have cc := fun (h1 : 0 ≤ n) (h2 : n < 16777216) w => cCol n w h1 h2
    have cs := fun w => sortOf_any p w
    unfold sortCells at cs
    have cw := fun w => allWords_any cWords (toB (nameP p)) (kindsN p) (leastN p) (toB (wordsB p)) (firstP p).1 (firstP p).2 (wordsB_small p) w
    rw [show (toB (wordsB p)).data.toList = wordsB p from rfl, words_eq (by omega) p27] at cw
    clear hh hm
    have hR2 : R = textP p k n := HR.out.trans hT
    clear HR hT
    rcases (by omega : k = 1 ∨ k = 2 ∨ k = 3 ∨ k = 4 ∨ k = 5 ∨ k = 6) with rfl | rfl | rfl | rfl | rfl | rfl
    · obtain rfl : R = [97, 117, 116, 111] := hR2
      show Calls _ _ _ _ fun e w' => e = .returned (.string ⟨#[97, 117, 116, 111]⟩) ∧ _
      go_enter Tryz.func126, Tryz.ntmps126
      go_wp2_with (first
        | (go_at_call 79; (with_reducible refine (c1 _).mono ?_); rintro e w1 ⟨rfl, hb⟩
           have hB1 := below_next hB hb
           have K1 := Kv.next hb
           have v0 := K1.cell 0
           have v1 := K1.cell 1))
      go_ret
      exact ⟨rfl, hB1⟩
    · replace hm2 : decide (n ≤ 63999999999 ∧ (0 ≤ n ∨ (belowP p = true ∧ -63999999999 ≤ n))) = true := hm2
      have hb2 := of_decide_eq_true hm2
      have cn2 := cn (by omega) hb2.1
      have hsz : (toB (decL n)).size ≤ 17 := by rw [toB_size]; exact decL_len (by omega) hb2.1
      obtain rfl : R = decL n ++ [112, 120] := hR2
      rw [← cat_px]
      generalize decL n = d at *
      clear hm2 cn cc cs cw
      go_enter Tryz.func126, Tryz.ntmps126
      go_wp2_with (first
        | (go_at_call 79; (with_reducible refine (c1 _).mono ?_); rintro e w1 ⟨rfl, hb⟩
           have hB1 := below_next hB hb
           have K1 := Kv.next hb
           have v0 := K1.cell 0
           have v1 := K1.cell 1)
        | (go_at_call 168; (with_reducible refine (cn2 _ (hT.at_ (by first | with_reducible assumption | with_reducible exact below_al (by with_reducible assumption) _ | with_reducible exact below_al (below_al (by with_reducible assumption) _) _ | with_reducible exact below_al (below_al (below_al (by with_reducible assumption) _) _) _ | with_reducible exact Below.refl _ _ | with_reducible exact below_al (Below.refl _ _) _ | with_reducible exact below_al (below_al (Below.refl _ _) _) _))).mono ?_); rintro e w2 ⟨rfl, hb⟩
           have hB2 := below_next hB1 hb))
      go_ret
      exact ⟨rfl, hB2⟩
    · replace hm2 : decide (n ≤ 63999999999 ∧ (0 ≤ n ∨ (belowP p = true ∧ -63999999999 ≤ n))) = true := hm2
      have hb2 := of_decide_eq_true hm2
      have cn2 := cn (by omega) hb2.1
      have hsz : (toB (decL n)).size ≤ 17 := by rw [toB_size]; exact decL_len (by omega) hb2.1
      obtain rfl : R = decL n ++ [37] := hR2
      rw [← cat_pc]
      generalize decL n = d at *
      clear hm2 cn cc cs cw
      go_enter Tryz.func126, Tryz.ntmps126
      go_wp2_with (first
        | (go_at_call 79; (with_reducible refine (c1 _).mono ?_); rintro e w1 ⟨rfl, hb⟩
           have hB1 := below_next hB hb
           have K1 := Kv.next hb
           have v0 := K1.cell 0
           have v1 := K1.cell 1)
        | (go_at_call 168; (with_reducible refine (cn2 _ (hT.at_ (by first | with_reducible assumption | with_reducible exact below_al (by with_reducible assumption) _ | with_reducible exact below_al (below_al (by with_reducible assumption) _) _ | with_reducible exact below_al (below_al (below_al (by with_reducible assumption) _) _) _ | with_reducible exact Below.refl _ _ | with_reducible exact below_al (Below.refl _ _) _ | with_reducible exact below_al (below_al (Below.refl _ _) _) _))).mono ?_); rintro e w2 ⟨rfl, hb⟩
           have hB2 := below_next hB1 hb))
      go_ret
      exact ⟨rfl, hB2⟩
    · replace hm2 : decide (0 ≤ n ∧ n < 16777216) = true := hm2
      have hb2 := of_decide_eq_true hm2
      have cc2 := cc hb2.1 hb2.2
      obtain rfl : R = 35 :: hex6 n.toNat := hR2
      generalize 35 :: hex6 n.toNat = d at *
      clear hm2 cn cc cs cw
      go_enter Tryz.func126, Tryz.ntmps126
      go_wp2_with (first
        | (go_at_call 79; (with_reducible refine (c1 _).mono ?_); rintro e w1 ⟨rfl, hb⟩
           have hB1 := below_next hB hb
           have K1 := Kv.next hb
           have v0 := K1.cell 0
           have v1 := K1.cell 1)
        | (go_at_call 169; (with_reducible refine (cc2 _ (hT.at_ (by first | with_reducible assumption | with_reducible exact below_al (by with_reducible assumption) _ | with_reducible exact below_al (below_al (by with_reducible assumption) _) _ | with_reducible exact below_al (below_al (below_al (by with_reducible assumption) _) _) _ | with_reducible exact Below.refl _ _ | with_reducible exact below_al (Below.refl _ _) _ | with_reducible exact below_al (below_al (Below.refl _ _) _) _))).mono ?_); rintro e w2 ⟨rfl, hb⟩
           have hB2 := below_next hB1 hb))
      go_ret
      exact ⟨rfl, hB2⟩
    · replace hm2 : decide (0 ≤ n ∧ n < ((wordsP p).length : Int)) = true := hm2
      have hb2 := of_decide_eq_true hm2
      obtain rfl : R = (wordsP p).getD n.toNat [] := hR2
      generalize toB (nameP p) = a1 at *
      generalize kindsN p = a2 at *
      generalize leastN p = a3 at *
      generalize toB (wordsB p) = a4 at *
      generalize (firstP p).1 = a5 at *
      generalize (firstP p).2 = a6 at *
      generalize wordsP p = ws at *
      obtain ⟨i, rfl⟩ : ∃ i : Nat, n = (i : Int) := ⟨n.toNat, by omega⟩
      have hi : i < ws.length := by omega
      rw [show ((i : Int)).toNat = i from rfl]
      obtain ⟨u, hu⟩ : ∃ u, ws.getD i [] = u := ⟨_, rfl⟩
      rw [hu]
      have hus : (strs ws)[i]? = some (.string (toB u)) := by
        unfold strs
        rw [List.getElem?_map, List.getElem?_eq_getElem hi, ← hu, List.getD_eq_getElem?_getD, List.getElem?_eq_getElem hi]
        rfl
      clear hm2 cn cc hu
      go_enter Tryz.func126, Tryz.ntmps126
      go_wp2_with (first
        | (go_at_call 79; (with_reducible refine (c1 _).mono ?_); rintro e w1 ⟨rfl, hb⟩
           have hB1 := below_next hB hb
           have K1 := Kv.next hb
           have v0 := K1.cell 0
           have v1 := K1.cell 1))
      have q1 : (0 : Int) ≤ (i : Int) := by omega
      first
      | (go_region_law (first
          | ((try go_simp); go_at_call 117; (with_reducible refine (cs _).mono ?_); rintro e w2 ⟨rfl, hb2'⟩
             have hB2 := below_next hB1.drew hb2'
             have K2 := K1.drew.next hb2'
             have t1 := K2.cell 1)
          | ((try go_simp); go_at_call 119; (with_reducible refine (cw _).mono ?_); rintro e w3 ⟨A, m, cp, rfl, hr, hb3⟩
             have hB3 := below_next hB2 hb3
             have K3 := K2.next hb3
             have t3 := K3.cell 1
             obtain rfl : ws.length = m := by
               have h := hr.1
               rw [show (strs ws).length = ws.length from by unfold strs; simp] at h
               omega
             obtain ⟨ad, u', rfl, had, hu', hcu⟩ := hr.at_ hi
             obtain rfl : Value.string (toB u) = u' := by rw [hus] at hu'; injection hu'
             have q2 : (i : Int) < (ws.length : Int) := by omega)))
      | (fail)
      all_goals
        go_wp2
        go_ret
        exact ⟨rfl, hB3⟩
    · replace hm2 : decide (n ≤ 63999999999 ∧ (0 ≤ n ∨ (belowP p = true ∧ -63999999999 ≤ n))) = true := hm2
      have hb2 := of_decide_eq_true hm2
      have cn2 := cn (by omega) hb2.1
      obtain rfl : R = decL n := hR2
      generalize decL n = d at *
      clear hm2 cn cc cs cw
      go_enter Tryz.func126, Tryz.ntmps126
      go_wp2_with (first
        | (go_at_call 79; (with_reducible refine (c1 _).mono ?_); rintro e w1 ⟨rfl, hb⟩
           have hB1 := below_next hB hb
           have K1 := Kv.next hb
           have v0 := K1.cell 0
           have v1 := K1.cell 1)
        | (go_at_call 168; (with_reducible refine (cn2 _ (hT.at_ (by first | with_reducible assumption | with_reducible exact below_al (by with_reducible assumption) _ | with_reducible exact below_al (below_al (by with_reducible assumption) _) _ | with_reducible exact below_al (below_al (below_al (by with_reducible assumption) _) _) _ | with_reducible exact Below.refl _ _ | with_reducible exact below_al (Below.refl _ _) _ | with_reducible exact below_al (below_al (Below.refl _ _) _) _))).mono ?_); rintro e w2 ⟨rfl, hb⟩
           have hB2 := below_next hB1 hb))
      go_ret
      exact ⟨rfl, hB2⟩
end Val
end Go.Proofs.YtdfcahdipalmkaaGreatDoor
