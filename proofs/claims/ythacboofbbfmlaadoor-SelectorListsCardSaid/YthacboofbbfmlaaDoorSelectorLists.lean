/- Rows.SelectorLists: the law's walk. Conditions: none. -/
import Derived.Test.YthacboofbbfmlaaDoorOpenSels
namespace Go.Proofs.YthacboofbbfmlaaDoor
open Go.ChangeShapes Go.WideShapes Go.ChangeAt Go.RowKit Go.Shelf
namespace selectorLists
open Tok Sel
open RowG (Row)
theorem joinT_snoc : ∀ (l : List (List UInt8)) (y : List UInt8), l ≠ [] → joinT (l ++ [y]) = (joinT l ++ [44, 32]) ++ y
  | [], y, h => absurd rfl h
  | [a], y, _ => by show joinT (a :: y :: []) = _; rw [joinT_two, joinT_one, joinT_one]; simp
  | a :: b :: l, y, _ => by
    have ih := joinT_snoc (b :: l) y (by simp)
    show joinT (a :: b :: (l ++ [y])) = _
    rw [joinT_two, joinT_two]
    have : joinT (b :: (l ++ [y])) = joinT ((b :: l) ++ [y]) := rfl
    rw [this, ih]
    simp
set_option maxRecDepth 100000 in
set_option maxHeartbeats 64000000 in
theorem walk (A : Option Addr) (n c : Nat) (xs : List Slr) (W : World) (hn : n ≤ 140737488351232) (hX : XsR W W.heap.size A n xs) (hbd : ∀ x ∈ xs, x.parts.length * 72 ≤ 140737488351232 ∧ BdS x.parts) :
    Calls Tryd.prog 6 #[.slice A n c] W fun e w' => e = .returned (.bool true) ∧ Below W.heap.size W w' := by
  have ca := awake_any W
  have HL := Lib.hid hX.len
  have HBD := Lib.hid hbd
  clear hbd
  by_cases h0 : n = 0
  · subst h0
    go_enter Tryd.func6, Tryd.ntmps6
    go_wp2_with (go_at_call 7; (with_reducible refine ca.mono ?_); rintro e w1 ⟨rfl, hB1⟩)
    go_ret
    exact ⟨rfl, hB1⟩
  have h0i : ((n : Int) == 0) = false := by rw [beq_eq_false_iff_ne]; omega
  by_cases h10 : 10 < n
  · have h10i : (10 : Int) < (n : Int) := by omega
    clear h0
    go_enter Tryd.func6, Tryd.ntmps6
    go_wp2_with (go_at_call 7; (with_reducible refine ca.mono ?_); rintro e w1 ⟨rfl, hB1⟩)
    go_ret
    exact ⟨rfl, hB1⟩
  have h10i : decide ((10 : Int) < (n : Int)) = false := decide_eq_false (by omega)
  have hn10 : n ≤ 10 := by omega
  have HNE : Hid (n ≠ 0) := h0
  clear h10 h0
  go_enter Tryd.func6, Tryd.ntmps6
  go_wp2_with (go_at_call 7; (with_reducible refine ca.mono ?_); rintro e w1 ⟨rfl, hB1⟩)
  clear ca
  go_loopw [3, 4, 22] (fun sv mv iv wr => ∃ (k : Nat) (acc : List UInt8), k ≤ n ∧ iv = .int .i64 k ∧ sv = .string (toB acc) ∧ mv = .bool ((xs.take k).all maySlr) ∧ acc.length ≤ 2490 * k ∧ Hid (acc = joinT ((xs.take k).map printP)) ∧ Hid (∀ x ∈ xs.take k, costS x.parts ≤ 500 ∧ x.close.length ≤ 100) ∧ Below W.heap.size W wr) (fun _ _ iv _ => n - (intOf iv).toNat)
  case atStart => exact ⟨0, [], Nat.zero_le _, rfl, rfl, rfl, by simp, rfl, (by intro x h; rw [List.take_zero] at h; cases h), hB1⟩
  case round =>
    obtain ⟨k, acc, hk, rfl, rfl, rfl, hal, HA, HF, hBr⟩ := hrel
    clear hB1
    have zS : (toB acc).size = acc.length := toB_size _
    by_cases hlt : k < n
    · obtain ⟨x, hx⟩ : ∃ x, xs[k]? = some x := ⟨_, List.getElem?_eq_getElem (by rw [HL.out]; exact hlt)⟩
      obtain ⟨ad, ⟨xA, xn, xc, xK, xm, xd⟩, rfl, hadb, e0, e1, hS1, hS2⟩ := (hX.below hBr (Nat.le_refl _)).at_ hx
      simp only at e0 e1 hS1 hS2
      obtain ⟨hx72, hbx⟩ := HBD.out x (List.mem_of_getElem? hx)
      have HXl := Lib.hid hS1.len
      have HYl := Lib.hid hS2.len
      have hxn : xn * 72 ≤ 140737488351232 := by rw [← HXl.out]; exact hx72
      have hki : (k : Int) < (n : Int) := by omega
      have k0 : (0 : Int) ≤ (k : Int) := Int.natCast_nonneg _
      have hAr := below_al (Below.refl wr.heap.size wr) (.cells #[.slice xA xn xc, .slice xK xm xd] 25)
      have KB := Blk.new wr 25 #[.slice xA xn xc, .slice xK xm xd]
      obtain ⟨x0, x1⟩ := blk2 KB
      have co := own_any xA xK xn xc xm xd x.parts (by omega) (wr.alloc (.cells #[.slice xA xn xc, .slice xK xm xd] 25)) (hS1.below (hAr.mono hBr.size) (Nat.le_trans hBr.size hAr.size))
      have cp := fun (hf : Few x.parts) (hs : ShX x.parts) (hn6 : xn ≤ 500) (hm6 : xm ≤ 1000000) W' (hb : Below wr.heap.size wr W') => print_any xA xK xn xc xm xd x (by omega) hm6 hf hs W' (hS1.below (hb.mono hBr.size) (Nat.le_trans hBr.size hb.size)) (hS2.below (hb.mono hBr.size) (Nat.le_trans hBr.size hb.size))
      have cm := fun (hf : Few x.parts) (hs : ShX x.parts) (hn6 : xn ≤ 500) (hm6 : xm ≤ 1000000) W' (hb : Below wr.heap.size wr W') => may_any xA xK xn xc xm xd x (by omega) hm6 hf hs W' (hS1.below (hb.mono hBr.size) (Nat.le_trans hBr.size hb.size)) (hS2.below (hb.mono hBr.size) (Nat.le_trans hBr.size hb.size))
      clear hS1 hS2 hx72
      by_cases hz : k = 0
      · have hmk : (xs.take k).all maySlr = true := by rw [hz]; rfl
        have hz1 : ¬(0 < k) := by omega
        have hz2 : ¬((0 : Int) < (k : Int)) := by omega
        rw [hmk]
        have HM : Hid (true = (xs.take k).all maySlr) := hmk.symm
        clear hmk
        have HN : Hid (acc ++ printP x = joinT ((xs.take (k + 1)).map printP)) := by
          show _ = _
          rw [hz] at hx ⊢
          rw [List.take_add_one, hx, HA.out, hz]
          simp [joinT_one, joinT]
        have HC : Hid (toB acc ++ toB (printP x) = toB (acc ++ printP x)) := by
          show _ = _
          rw [toB_cat]
        have HM2 : Hid (maySlr x = (xs.take (k + 1)).all maySlr) := by
          show _ = _
          rw [List.take_add_one, hx, List.all_append, ← HM.out]
          simp
        have HF2 : Hid (costS x.parts ≤ 500 ∧ x.close.length ≤ 100 → ∀ y ∈ xs.take (k + 1), costS y.parts ≤ 500 ∧ y.close.length ≤ 100) := by
          intro h y hy
          rw [List.take_add_one, hx] at hy
          rcases List.mem_append.1 hy with h1 | h1
          · exact HF.out y h1
          · simp at h1
            subst h1
            exact h
        clear hx HA HM HF hz
        have zN : (printP x).length ≤ 2480 := print_le x
        have zP : (toB (printP x)).size = (printP x).length := toB_size _
        have hlen : (acc ++ printP x).length ≤ 2490 * (k + 1) := by rw [List.length_append]; omega
        generalize maySlr x = mx at *
        generalize printP x = pr at *
        generalize toB acc = S at *
        generalize toB pr = PR at *
        go_wp2_with (first
          | (go_at_call 9; (with_reducible refine co.mono ?_); rintro e w2 ⟨⟨A2, c2, rfl, hX2⟩, hb2⟩
             have hA2 := below_next hAr hb2
             have K2 := KB.next hb2
             have cg := large_c A2 xK xn c2 xm xd x.parts (by omega) hbx w2 hX2)
          | (go_at_call 8; (with_reducible refine cg.mono ?_); rintro e w3 ⟨⟨b, rfl, HLb⟩, hb3⟩
             have hA3 := below_next hA2 hb3
             have K3 := K2.next hb3
             obtain ⟨y0, y1⟩ := blk2 K3)
          | (go_at_call 11
             have hb0 : b = false := by assumption
             obtain ⟨hco, hm100⟩ := HLb.out hb0
             obtain ⟨hn5, hf, hsx⟩ := cost_few hco
             have hn6 : xn ≤ 500 := by rw [← HXl.out]; exact hn5
             have hm6 : x.close.length ≤ 100 := by rw [HYl.out]; exact hm100
             have HF3 := HF2.out ⟨hco, hm6⟩
             (with_reducible refine (cp hf hsx hn6 (by omega) w3 hA3).mono ?_); rintro e w4 ⟨rfl, hb4⟩
             have hA4 := below_next hA3 hb4
             have K4 := K3.next hb4
             obtain ⟨y2, y3⟩ := blk2 K4)
          | (go_at_call 12; (with_reducible refine (cm hf hsx hn6 (by omega) w4 hA4).mono ?_); rintro e w5 ⟨rfl, hb5⟩
             have hA5 := below_next hA4 hb5))
        · go_ret
          exact ⟨rfl, below_next hBr hA3⟩
        · go_roundw
          case rel => exact ⟨k + 1, acc ++ pr, by omega, by go_num, by rw [HC.out], by rw [← HM2.out], hlen, HN, HF3, below_next hBr hA5⟩
          case measure => simp [intOf]; omega
      · have hz1 : 0 < k := by omega
        have hz2 : (0 : Int) < (k : Int) := by omega
        cases hmk : (xs.take k).all maySlr with
        | true =>
          have HM : Hid (true = (xs.take k).all maySlr) := hmk.symm
          clear hmk
          have HN : Hid ((acc ++ [44, 32]) ++ printP x = joinT ((xs.take (k + 1)).map printP)) := by
            show _ = _
            rw [List.take_add_one, hx, HA.out]
            simp only [Option.toList_some, List.map_append, List.map_cons, List.map_nil]
            rw [joinT_snoc _ _ (by
              intro e
              have := congrArg List.length e
              rw [List.length_map, List.length_take, HL.out] at this
              simp only [List.length_nil] at this
              omega)]
          have HC : Hid ((toB acc ++ ByteArray.mk #[44, 32]) ++ toB (printP x) = toB ((acc ++ [44, 32]) ++ printP x)) := by
            show _ = _
            rw [show (ByteArray.mk #[44, 32] : ByteArray) = toB [44, 32] from rfl, toB_cat, toB_cat]
          have HM2 : Hid (maySlr x = (xs.take (k + 1)).all maySlr) := by
            show _ = _
            rw [List.take_add_one, hx, List.all_append, ← HM.out]
            simp
          have HF2 : Hid (costS x.parts ≤ 500 ∧ x.close.length ≤ 100 → ∀ y ∈ xs.take (k + 1), costS y.parts ≤ 500 ∧ y.close.length ≤ 100) := by
            intro h y hy
            rw [List.take_add_one, hx] at hy
            rcases List.mem_append.1 hy with h1 | h1
            · exact HF.out y h1
            · simp at h1
              subst h1
              exact h
          clear hx HA HM HF hz
          have zN : (printP x).length ≤ 2480 := print_le x
          have zP : (toB (printP x)).size = (printP x).length := toB_size _
          have hlen : ((acc ++ [44, 32]) ++ printP x).length ≤ 2490 * (k + 1) := by simp only [List.length_append, List.length_cons, List.length_nil]; omega
          generalize maySlr x = mx at *
          generalize printP x = pr at *
          generalize toB acc = S at *
          generalize toB pr = PR at *
          go_wp2_with (first
            | (go_at_call 9; (with_reducible refine co.mono ?_); rintro e w2 ⟨⟨A2, c2, rfl, hX2⟩, hb2⟩
               have hA2 := below_next hAr hb2
               have K2 := KB.next hb2
               have cg := large_c A2 xK xn c2 xm xd x.parts (by omega) hbx w2 hX2)
            | (go_at_call 8; (with_reducible refine cg.mono ?_); rintro e w3 ⟨⟨b, rfl, HLb⟩, hb3⟩
               have hA3 := below_next hA2 hb3
               have K3 := K2.next hb3
               obtain ⟨y0, y1⟩ := blk2 K3)
            | (go_at_call 11
               have hb0 : b = false := by assumption
               obtain ⟨hco, hm100⟩ := HLb.out hb0
               obtain ⟨hn5, hf, hsx⟩ := cost_few hco
               have hn6 : xn ≤ 500 := by rw [← HXl.out]; exact hn5
               have hm6 : x.close.length ≤ 100 := by rw [HYl.out]; exact hm100
               have HF3 := HF2.out ⟨hco, hm6⟩
               (with_reducible refine (cp hf hsx hn6 (by omega) w3 hA3).mono ?_); rintro e w4 ⟨rfl, hb4⟩
               have hA4 := below_next hA3 hb4
               have K4 := K3.next hb4
               obtain ⟨y2, y3⟩ := blk2 K4)
            | (go_at_call 12; (with_reducible refine (cm hf hsx hn6 (by omega) w4 hA4).mono ?_); rintro e w5 ⟨rfl, hb5⟩
               have hA5 := below_next hA4 hb5))
          · go_ret
            exact ⟨rfl, below_next hBr hA3⟩
          · go_roundw
            case rel => exact ⟨k + 1, (acc ++ [44, 32]) ++ pr, by omega, by go_num, by rw [HC.out], by rw [← HM2.out], hlen, HN, HF3, below_next hBr hA5⟩
            case measure => simp [intOf]; omega
        | false =>
          have HM : Hid (false = (xs.take k).all maySlr) := hmk.symm
          clear hmk
          have HN : Hid ((acc ++ [44, 32]) ++ printP x = joinT ((xs.take (k + 1)).map printP)) := by
            show _ = _
            rw [List.take_add_one, hx, HA.out]
            simp only [Option.toList_some, List.map_append, List.map_cons, List.map_nil]
            rw [joinT_snoc _ _ (by
              intro e
              have := congrArg List.length e
              rw [List.length_map, List.length_take, HL.out] at this
              simp only [List.length_nil] at this
              omega)]
          have HC : Hid ((toB acc ++ ByteArray.mk #[44, 32]) ++ toB (printP x) = toB ((acc ++ [44, 32]) ++ printP x)) := by
            show _ = _
            rw [show (ByteArray.mk #[44, 32] : ByteArray) = toB [44, 32] from rfl, toB_cat, toB_cat]
          have HM2 : Hid (false = (xs.take (k + 1)).all maySlr) := by
            show _ = _
            rw [List.take_add_one, hx, List.all_append, ← HM.out]
            simp
          have HF2 : Hid (costS x.parts ≤ 500 ∧ x.close.length ≤ 100 → ∀ y ∈ xs.take (k + 1), costS y.parts ≤ 500 ∧ y.close.length ≤ 100) := by
            intro h y hy
            rw [List.take_add_one, hx] at hy
            rcases List.mem_append.1 hy with h1 | h1
            · exact HF.out y h1
            · simp at h1
              subst h1
              exact h
          clear hx HA HM HF hz
          have zN : (printP x).length ≤ 2480 := print_le x
          have zP : (toB (printP x)).size = (printP x).length := toB_size _
          have hlen : ((acc ++ [44, 32]) ++ printP x).length ≤ 2490 * (k + 1) := by simp only [List.length_append, List.length_cons, List.length_nil]; omega
          generalize maySlr x = mx at *
          generalize printP x = pr at *
          generalize toB acc = S at *
          generalize toB pr = PR at *
          go_wp2_with (first
            | (go_at_call 9; (with_reducible refine co.mono ?_); rintro e w2 ⟨⟨A2, c2, rfl, hX2⟩, hb2⟩
               have hA2 := below_next hAr hb2
               have K2 := KB.next hb2
               have cg := large_c A2 xK xn c2 xm xd x.parts (by omega) hbx w2 hX2)
            | (go_at_call 8; (with_reducible refine cg.mono ?_); rintro e w3 ⟨⟨b, rfl, HLb⟩, hb3⟩
               have hA3 := below_next hA2 hb3
               have K3 := K2.next hb3
               obtain ⟨y0, y1⟩ := blk2 K3)
            | (go_at_call 11
               have hb0 : b = false := by assumption
               obtain ⟨hco, hm100⟩ := HLb.out hb0
               obtain ⟨hn5, hf, hsx⟩ := cost_few hco
               have hn6 : xn ≤ 500 := by rw [← HXl.out]; exact hn5
               have hm6 : x.close.length ≤ 100 := by rw [HYl.out]; exact hm100
               have HF3 := HF2.out ⟨hco, hm6⟩
               (with_reducible refine (cp hf hsx hn6 (by omega) w3 hA3).mono ?_); rintro e w4 ⟨rfl, hb4⟩
               have hA4 := below_next hA3 hb4
               have K4 := K3.next hb4
               obtain ⟨y2, y3⟩ := blk2 K4)
            | (go_at_call 12; (with_reducible refine (cm hf hsx hn6 (by omega) w4 hA4).mono ?_); rintro e w5 ⟨rfl, hb5⟩
               have hA5 := below_next hA4 hb5))
          · go_ret
            exact ⟨rfl, below_next hBr hA3⟩
          · go_roundw
            case rel => exact ⟨k + 1, (acc ++ [44, 32]) ++ pr, by omega, by go_num, by rw [HC.out], by rw [← HM2.out], hlen, HN, HF3, below_next hBr hA4⟩
            case measure => simp [intOf]; omega
    · obtain rfl : k = n := by omega
      have hfull : xs.take k = xs := List.take_of_length_le (by rw [HL.out]; exact Nat.le_refl _)
      rw [hfull] at HA HF ⊢
      have hgo : listP.go (splitF 44 acc) = if xs.all maySlr then some xs else none := by
        rw [HA.out]
        cases xs with
        | nil => exact absurd HL.out.symm HNE.out
        | cons x t => exact list_prints x t
      have cl := list_any acc (by omega) wr
      rw [hgo] at cl
      clear hgo HA hfull
      cases hall : xs.all maySlr with
      | false =>
        have cl2 : Calls Tryd.prog 16 #[.string (toB acc)] wr fun e w' => e = .returned (.tuple #[.slice none 0 0, .bool false]) ∧ Below wr.heap.size wr w' := by
          rw [hall] at cl
          exact cl
        clear cl hall
        generalize toB acc = S at *
        go_wp2_with (go_at_call 16; (with_reducible refine cl2.mono ?_); rintro e w2 ⟨rfl, hb2⟩; have hB2 := below_next hBr hb2)
        go_loopw [73] (fun iv wy => iv = .int .i64 0 ∧ w2 = wy) (fun _ _ => 0)
        case atStart => exact ⟨rfl, rfl⟩
        case round =>
          obtain ⟨rfl, rfl⟩ := hrel
          go_wp2
          go_ret
          exact ⟨rfl, hB2⟩
      | true =>
        have cl2 : Calls Tryd.prog 16 #[.string (toB acc)] wr fun e w' => (∃ v, e = .returned (.tuple #[v, .bool true]) ∧ XsL w' wr.heap.size v xs) ∧ Below wr.heap.size wr w' := by
          rw [hall] at cl
          exact cl
        clear cl hall
        generalize toB acc = S at *
        go_wp2_with (go_at_call 16; (with_reducible refine cl2.mono ?_); rintro e w2 ⟨⟨v, rfl, hL2⟩, hb2⟩
                     have hB2 := below_next hBr hb2
                     obtain ⟨AL, cL, hvL⟩ := hL2.form
                     rw [HL.out] at hvL
                     subst hvL)
        have hR2 := hL2.reads
        have hX2 := hX.below hB2 (Nat.le_refl _)
        clear hL2 cl2
        go_loopw [73] (fun iv wy => ∃ j : Nat, j ≤ k ∧ iv = .int .i64 j ∧ Below w2.heap.size w2 wy) (fun iv _ => k - (intOf iv).toNat)
        case atStart => exact ⟨0, Nat.zero_le _, rfl, Below.refl _ _⟩
        case round =>
          obtain ⟨j, hj, rfl, hBy⟩ := hrel
          by_cases hlt2 : j < k
          · obtain ⟨x, hx⟩ : ∃ x, xs[j]? = some x := ⟨_, List.getElem?_eq_getElem (by rw [HL.out]; exact hlt2)⟩
            obtain ⟨hco, hcm⟩ := HF.out x (List.mem_of_getElem? hx)
            obtain ⟨hn5, hf, hsx⟩ := cost_few hco
            have hBz := below_next hB2 hBy
            obtain ⟨ad, ⟨xA, xn, xc, xK, xm, xd⟩, rfl, hadb, e0, e1, hS1, hS2⟩ := (hX.below hBz (Nat.le_refl _)).at_ hx
            obtain ⟨ad2, ⟨yA, yn, yc, yK, ym, yd⟩, rfl, hadb2, e2, e3, hS3, hS4⟩ := (hR2.below hBy (Nat.le_refl _)).at_ hx
            simp only at e0 e1 e2 e3 hS1 hS2 hS3 hS4
            have hxn : yn ≤ 500 := by rw [← hS3.len]; exact hn5
            have hxm : ym ≤ 100 := by rw [← hS4.len]; exact hcm
            have hji : (j : Int) < (k : Int) := by omega
            have j0 : (0 : Int) ≤ (j : Int) := Int.natCast_nonneg _
            have hs1 := hBz.size
            have hs2 := hBy.size
            clear hx
            have SK : ∀ W', Below wr.heap.size wr W' → (W'.cell? (ad.add (j * 2)) = some (.slice xA xn xc) ∧ W'.cell? ⟨(ad.add (j * 2)).block, (ad.add (j * 2)).off + 1, none⟩ = some (.slice xK xm xd) ∧ W'.cell? (ad2.add (j * 2)) = some (.slice yA yn yc) ∧ W'.cell? ⟨(ad2.add (j * 2)).block, (ad2.add (j * 2)).off + 1, none⟩ = some (.slice yK ym yd) ∧ Below wr.heap.size wr W') := fun W' hb => ⟨(hb.cell (p := ad.add (j * 2)) (by rw [block_of_add]; omega)).trans e0, (hb.cell (p := ⟨(ad.add (j * 2)).block, (ad.add (j * 2)).off + 1, none⟩) (by show (ad.add (j * 2)).block < _; rw [block_of_add]; omega)).trans e1, (hb.cell (p := ad2.add (j * 2)) (by rw [block_of_add]; omega)).trans e2, (hb.cell (p := ⟨(ad2.add (j * 2)).block, (ad2.add (j * 2)).off + 1, none⟩) (by show (ad2.add (j * 2)).block < _; rw [block_of_add]; omega)).trans e3, hb⟩
            have hS0 := SK wr.drew (Below.refl _ _).drew
            have k1 : ∀ W', (W'.cell? (ad.add (j * 2)) = some (.slice xA xn xc) ∧ W'.cell? ⟨(ad.add (j * 2)).block, (ad.add (j * 2)).off + 1, none⟩ = some (.slice xK xm xd) ∧ W'.cell? (ad2.add (j * 2)) = some (.slice yA yn yc) ∧ W'.cell? ⟨(ad2.add (j * 2)).block, (ad2.add (j * 2)).off + 1, none⟩ = some (.slice yK ym yd) ∧ Below wr.heap.size wr W') → Calls Tryd.prog 13 #[.agg #[.slice yA yn yc, .slice yK ym yd], .agg #[.slice xA xn xc, .slice xK xm xd]] W' fun e w' => e = .returned (.bool true) ∧ (w'.cell? (ad.add (j * 2)) = some (.slice xA xn xc) ∧ w'.cell? ⟨(ad.add (j * 2)).block, (ad.add (j * 2)).off + 1, none⟩ = some (.slice xK xm xd) ∧ w'.cell? (ad2.add (j * 2)) = some (.slice yA yn yc) ∧ w'.cell? ⟨(ad2.add (j * 2)).block, (ad2.add (j * 2)).off + 1, none⟩ = some (.slice yK ym yd) ∧ Below wr.heap.size wr w') := fun W' hS => by
              have hb := hS.2.2.2.2
              refine (same_any yA yK xA xK yn yc ym yd xn xc xm xd x x (by omega) (by omega) hf W' (hS3.below (hb.mono hs2) (Nat.le_trans hs2 hb.size)) (hS1.below (hb.mono hs1) (Nat.le_trans hs1 hb.size)) (hS4.below (hb.mono hs2) (Nat.le_trans hs2 hb.size)) (hS2.below (hb.mono hs1) (Nat.le_trans hs1 hb.size))).mono ?_
              rintro e w' ⟨rfl, hb2⟩
              exact ⟨by rw [decide_eq_true rfl], SK w' (below_next hb hb2)⟩
            clear hS1 hS2 hS3 hS4
            go_upto_region 22 with (fail)
            go_region_held3 (fun W' => (W'.cell? (ad.add (j * 2)) = some (.slice xA xn xc) ∧ W'.cell? ⟨(ad.add (j * 2)).block, (ad.add (j * 2)).off + 1, none⟩ = some (.slice xK xm xd) ∧ W'.cell? (ad2.add (j * 2)) = some (.slice yA yn yc) ∧ W'.cell? ⟨(ad2.add (j * 2)).block, (ad2.add (j * 2)).off + 1, none⟩ = some (.slice yK ym yd) ∧ Below wr.heap.size wr W'))
              (first | (with_reducible assumption) | exact hS0)
              (first | (go_at_call 13; (with_reducible refine (k1 _ (by first | assumption | exact hS0)).mono ?_); rintro e wa ⟨rfl, hSa⟩))
            rename_i hHd
            obtain ⟨-, -, -, -, hBd⟩ := hHd
            clear hS0 k1 SK
            go_wp2
            go_roundw
            case rel => exact ⟨j + 1, by omega, by go_num, below_next hBy hBd⟩
            case measure => simp [intOf]; omega
          · obtain rfl : j = k := by omega
            go_wp2
            go_ret
            exact ⟨rfl, below_next hB2 hBy⟩
end selectorLists
end Go.Proofs.YthacboofbbfmlaaDoor
