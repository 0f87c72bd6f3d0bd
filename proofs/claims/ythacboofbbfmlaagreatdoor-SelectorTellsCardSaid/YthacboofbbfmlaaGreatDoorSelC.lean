/- selector's take: a part of a part, taken into what is gathered. Conditions: the part's memory is the call's own; there are not too many. -/
import Derived.Test.YthacboofbbfmlaaGreatDoorIaG
import Derived.Test.YthacboofbbfmlaaGreatDoorSelMath2
import Derived.Test.YthacboofbbfmlaaGreatDoorRowG
import Derived.Test.YthacboofbbfmlaaGreatDoorTexts
import Derived.Test.YthacboofbbfmlaaGreatDoorKt
import Derived.Test.YthacboofbbfmlaaGreatDoorTokI
import Derived.Deep.RegionHeld3
/- selector's untilAny and parted. Conditions: the text is not too long. -/
namespace Go.Proofs.YthacboofbbfmlaaGreatDoor
open Go.ChangeShapes Go.WideShapes Go.ChangeAt Go.RowKit Go.Shelf
namespace Sel
open Tok
open RowG (Row)
theorem cutH (l : List UInt8) (n : Nat) (hn : n ≤ l.length) (w : World) : (Instr.slice 9 (.string (toB l)) none (some (.int .i64 (n : Int))) none).run Tryz.prog w = .ok (.string (toB (l.take n))) w := by
  have h := run_slice_string_h (P := Tryz.prog) (w := w) (t := 9) (s := toB l) Tryz.underlying9 .i64 n (by omega) (by rw [toB_size]; omega)
  have e : (toB l).extract 0 (n : Int).toNat = toB (l.take n) := by
    apply bytes_inj
    rw [ByteArray.data_extract]
    simp [toB, List.extract_eq_take_drop]
  rw [h, e]
theorem cutL (l : List UInt8) (n : Nat) (hn : n ≤ l.length) (w : World) : (Instr.slice 9 (.string (toB l)) (some (.int .i64 (n : Int))) none none).run Tryz.prog w = .ok (.string (toB (l.drop n))) w := by
  have h := run_slice_string_l (P := Tryz.prog) (w := w) (t := 9) (s := toB l) Tryz.underlying9 .i64 n (by omega) (by rw [toB_size]; omega)
  have e : (toB l).extract (n : Int).toNat (toB l).size = toB (l.drop n) := by
    apply bytes_inj
    rw [ByteArray.data_extract, Array.toList_extract, List.extract_eq_take_drop]
    show ((toB l).data.toList.drop (n : Int).toNat).take ((toB l).size - (n : Int).toNat) = _
    rw [Int.toNat_natCast, toB_size]
    exact List.take_of_length_le (by rw [List.length_drop]; show l.length - n ≤ _; omega)
  rw [h, e]
theorem ia_any (C : List UInt8) (hC : Ia.Asc C) (hn : 2 ≤ C.length) (hn2 : C.length ≤ 1000) (s : ByteArray) (hs : s.size ≤ mostB) (w : World) :
    Calls Tryz.prog 59 #[.string s, .string (toB C)] w fun e w' => e = .returned (.int .i64 (Lib.indexAny s.data.toList C)) ∧ Below w.heap.size w w' := by
  unfold mostB at hs
  by_cases h8 : s.size ≤ 8
  · exact Ia.ia_short C hC hn s h8 w
  · refine (Any.strings_IndexAny_long Tryz.lays153 (zero_of_info Ia.info256).1 (zero_of_info Ia.info256).2 s (toB C) w (by rw [toB_size]; omega) (by omega) (by omega) (by rw [toB_size]; omega) (fun j b hb => hC b (List.mem_of_getElem? hb))).mono fun e w' ⟨h1, h2⟩ => ⟨h1, ?_⟩
    rw [h2]
    exact ((Below.refl _ _).alloc (Nat.le_refl _) _).alloc (by simp) _
theorem ia_take (C : List UInt8) : ∀ l : List UInt8, (Lib.indexAny l C = -1 ∧ l.takeWhile (fun c => !C.contains c) = l) ∨ ∃ n : Nat, Lib.indexAny l C = n ∧ n ≤ l.length ∧ l.takeWhile (fun c => !C.contains c) = l.take n := by
  intro l
  induction l with
  | nil => exact .inl ⟨rfl, rfl⟩
  | cons c t ih =>
    rw [Lib.indexAny, List.takeWhile_cons]
    cases h : C.contains c with
    | true => exact .inr ⟨0, rfl, Nat.zero_le _, rfl⟩
    | false =>
      rcases ih with ⟨h1, h2⟩ | ⟨n, h1, h2, h3⟩
      · rw [h1, h2]
        exact .inl ⟨rfl, rfl⟩
      · rw [h1, h3]
        refine .inr ⟨n + 1, ?_, by rw [List.length_cons]; omega, rfl⟩
        have : ((n : Int) == -1) = false := by rw [beq_eq_false_iff_ne]; omega
        rw [this]
        rfl
set_option maxRecDepth 100000 in
theorem until_any (C : List UInt8) (hC : Ia.Asc C) (hn : 2 ≤ C.length) (hn2 : C.length ≤ 1000) (l : List UInt8) (hl : l.length ≤ mostB) (w : World) :
    Calls Tryz.prog 43 #[.string (toB l), .string (toB C)] w fun e w' => e = .returned (.string (toB (l.takeWhile fun c => !C.contains c))) ∧ Below w.heap.size w w' := by
  have ci := fun w => ia_any C hC hn hn2 (toB l) (by rw [toB_size]; exact hl) w
  have hback : (toB l).data.toList = l := rfl
  rw [hback] at ci
  rcases ia_take C l with ⟨h1, h2⟩ | ⟨n, h1, h2, h3⟩
  · rw [h1] at ci
    rw [h2]
    generalize toB l = s at *
    generalize toB C = cs at *
    clear h1 h2 hback hl hC hn hn2
    go_enter Tryz.func43, Tryz.ntmps43
    go_wp2_with (go_at_call 59; (with_reducible refine (ci _).mono ?_); rintro e w2 ⟨rfl, hb⟩)
    go_ret
    exact ⟨rfl, hb⟩
  · rw [h1] at ci
    rw [h3]
    have hc := fun w => cutH l n h2 w
    have hn0 : (0 : Int) ≤ (n : Int) := Int.natCast_nonneg _
    generalize toB l = s at *
    generalize toB C = cs at *
    generalize toB (l.take n) = t at *
    clear h1 h2 h3 hback hl hC hn hn2
    go_enter Tryz.func43, Tryz.ntmps43
    go_wp2_with (go_at_call 59; (with_reducible refine (ci _).mono ?_); rintro e w2 ⟨rfl, hb⟩)
    go_ret
    exact ⟨rfl, hb⟩
def btC : List UInt8 := [32, 9, 10, 13, 62]
def bgC : List UInt8 := [35, 46, 58]
theorem bt_has : (fun c => !btC.contains c) = (fun c => !isBt c) := by
  funext c
  congr 1
  unfold btC isBt isBlank
  simp only [List.contains_cons, List.contains_nil, Bool.or_false, Bool.or_assoc]
theorem bg_has : (fun c => !bgC.contains c) = (fun c => !isBg c) := by
  funext c
  congr 1
  unfold bgC isBg
  simp only [List.contains_cons, List.contains_nil, Bool.or_false, Bool.or_assoc]
theorem until_bt (l : List UInt8) (hl : l.length ≤ mostB) (w : World) :
    Calls Tryz.prog 43 #[.string (toB l), .string ⟨#[32, 9, 10, 13, 62]⟩] w fun e w' => e = .returned (.string (toB (txt l))) ∧ Below w.heap.size w w' := by
  have h := until_any btC (by unfold btC Ia.Asc; decide) (by decide) (by decide) l hl w
  rw [bt_has] at h
  exact h
theorem until_bg (l : List UInt8) (hl : l.length ≤ mostB) (w : World) :
    Calls Tryz.prog 43 #[.string (toB l), .string ⟨#[35, 46, 58]⟩] w fun e w' => e = .returned (.string (toB (own1 l))) ∧ Below w.heap.size w w' := by
  have h := until_any bgC (by unfold bgC Ia.Asc; decide) (by decide) (by decide) l hl w
  rw [bg_has] at h
  exact h
end Sel
end Go.Proofs.YthacboofbbfmlaaGreatDoor
/- selector's parted. Conditions: the text is not too long. -/
namespace Go.Proofs.YthacboofbbfmlaaGreatDoor
open Go.ChangeShapes Go.WideShapes Go.ChangeAt Go.RowKit Go.Shelf
namespace Sel
open Tok
open RowG (Row)
def txC (x : List UInt8) : List Value := [.string (toB x)]
theorem txC_len (x : List UInt8) : (txC x).length = 1 := rfl
theorem txC_one (x : List UInt8) : ∀ u ∈ txC x, u.oneCell' = true := by
  intro u hu
  unfold txC at hu
  rw [List.mem_singleton] at hu
  subst hu
  rfl
def boC (b : Bool) : List Value := [.bool b]
theorem boC_len (b : Bool) : (boC b).length = 1 := rfl
theorem boC_one (b : Bool) : ∀ u ∈ boC b, u.oneCell' = true := by
  intro u hu
  unfold boC at hu
  rw [List.mem_singleton] at hu
  subst hu
  rfl
theorem info_str : (Tryz.prog.info? 9).map (fun i => (i.zero, i.size, i.bytes)) = some (some (.string ⟨#[]⟩), 1, 16) := by kernel_rfl
theorem info_bool : (Tryz.prog.info? 4).map (fun i => (i.zero, i.size, i.bytes)) = some (some (.bool false), 1, 1) := by kernel_rfl
/-- What parted answers. -/
def PaR (w : World) (base : Nat) (x : Option (List (List UInt8) × List Bool)) (e : Ending) : Prop := ∃ v1 v2 b, e = .returned (.tuple #[v1, v2, .bool b]) ∧ (b = x.isSome) ∧ ∀ ts cs, x = some (ts, cs) → Row w base 9 1 txC v1 ts ∧ Row w base 4 1 boC v2 cs
def more (ts : List (List UInt8)) (cs : List Bool) (x : Option (List (List UInt8) × List Bool)) : Option (List (List UInt8) × List Bool) := x.map fun y => (ts ++ y.1, cs ++ y.2)
theorem drop_get {l : List UInt8} {q : Nat} (h : q < l.length) : l.drop q = l[q] :: l.drop (q + 1) := List.drop_eq_getElem_cons h
theorem rst_eq (l : List UInt8) : rst l = l.drop (txt l).length := by
  have h : txt l ++ rst l = l := List.takeWhile_append_dropWhile
  have h2 : (txt l ++ rst l).drop (txt l).length = rst l := List.drop_left
  rw [h] at h2
  exact h2.symm
theorem txt_le (l : List UInt8) : (txt l).length ≤ l.length := (List.takeWhile_sublist _).length_le
set_option maxRecDepth 100000 in
set_option maxHeartbeats 16000000 in
theorem parted_any (l : List UInt8) (hl : l.length ≤ 100000) (w : World) :
    Calls Tryz.prog 19 #[.string (toB l)] w fun e w' => PaR w' w.heap.size (partP l) e ∧ Below w.heap.size w w' := by
  have hsz : (toB l).size = l.length := toB_size l
  have CU := Lib.hid (fun (p : Nat) w => until_bt (l.drop p) (by unfold mostB; rw [List.length_drop]; omega) w)
  have CL := Lib.hid (fun (p : Nat) (h : p ≤ l.length) w => cutL l p h w)
  have CB := Lib.hid (fun (c : UInt8) w => Tryz.strings_IndexByte ⟨#[32, 9, 10, 13, 62]⟩ (c.toNat : Int) w)
  have hat : ∀ (p : Nat) (h : p < (toB l).size) (h2 : p < l.length), (toB l)[p]'h = l[p]'h2 := fun p h h2 => rfl
  have HAT := Lib.hid hat
  obtain ⟨R, hR⟩ : ∃ R, R = partP l := ⟨_, rfl⟩
  rw [← hR]
  have HR := Lib.hid hR
  have HSZ := Lib.hid hsz
  clear hR hsz hat
  generalize toB l = S at *
  go_enter Tryz.func19, Tryz.ntmps19
  go_wp2
  go_step3
  go_wp2
  go_step3
  go_wp2
  go_loopg [5, 6, 7] (l.length + 1) (fun g v5 v6 v7 wr => ∃ (p : Nat) (ts : List (List UInt8)) (cs : List Bool), p ≤ l.length ∧ l.length + 1 ≤ p + g ∧ v7 = .int .i64 p ∧ Row wr w.heap.size 9 1 txC v5 ts ∧ Row wr w.heap.size 4 1 boC v6 cs ∧ ts.length ≤ p ∧ cs.length ≤ p ∧ Hid (R = more ts cs (partP (l.drop p))) ∧ Below w.heap.size w wr)
  case atStart => exact ⟨0, [], [], Nat.zero_le _, by omega, rfl, Row.nil _ _ _ _ _, Row.nil _ _ _ _ _, Nat.le_refl _, Nat.le_refl _, by show _ = _; rw [HR.out, List.drop_zero]; unfold more; cases partP l <;> rfl, Below.refl _ _⟩
  case round =>
    obtain ⟨p, ts, cs, hp, hpg, rfl, hTs, hCs, htl, hcl, HP, hBr⟩ := hrel
    cases gk with
    | zero => omega
    | succ g =>
      obtain ⟨d, hd⟩ : ∃ d, d = l.drop p := ⟨_, rfl⟩
      have hcut := CL.out p hp
      have cu := CU.out p wr
      rw [← hd] at hcut cu HP
      have hdl : d.length = l.length - p := by rw [hd, List.length_drop]
      have HRST : Hid (∀ N, N = (txt d).length → rst d = l.drop (p + N)) := by
        intro N hN
        rw [rst_eq, hd, List.drop_drop, hN, hd]
      obtain ⟨N, hN⟩ : ∃ N, N = (txt d).length := ⟨_, rfl⟩
      have hNd := txt_le d
      rw [← hN] at hNd
      have hr0 := HRST.out N hN
      have HPE := Lib.hid (part_eq d)
      rw [hr0] at HPE
      obtain ⟨t, ht⟩ : ∃ t, t = txt d := ⟨_, rfl⟩
      rw [← ht] at cu HPE hN
      have htz : (toB t).size = N := by rw [toB_size, hN]
      obtain ⟨q, hq⟩ : ∃ q, q = p + N := ⟨_, rfl⟩
      have hq1 : (p : Int) + ((toB t).size : Int) = (q : Int) := by omega
      rw [← hq] at HPE
      have hql : q ≤ l.length := by omega
      have hpq : p ≤ q := by omega
      have HDL := Lib.hid hdl
      have HGL := Lib.hid (fun k c r h => gap_less (l := d) (k := k) (c := c) (r := r) h)
      rw [hr0, ← hq] at HGL
      have hxc : txC t = [.string (toB t)] := rfl
      have HXC := Lib.hid hxc
      obtain ⟨A5, c5, hv5⟩ := hTs.form
      obtain ⟨M, hM⟩ : ∃ M, M = ts.length := ⟨_, rfl⟩
      rw [← hM] at hv5 htl
      have HM := Lib.hid hM
      obtain rfl := hv5
      obtain ⟨A6, c6, hv6⟩ := hCs.form
      obtain ⟨M6, hM6⟩ : ∃ M6, M6 = cs.length := ⟨_, rfl⟩
      rw [← hM6] at hv6 hcl
      have HM6 := Lib.hid hM6
      obtain rfl := hv6
      clear hM6
      clear hr0 hN ht hd HRST hdl hNd htz hq hxc hM
      generalize hT : toB t = T at *
      have HT := Lib.hid hT
      clear hT
      go_wp2_with (first
        | (go_at_call 43; (with_reducible refine cu.mono ?_); rintro e w2 ⟨rfl, hb2⟩
           have hTs2 := hTs.below hb2
           have hCs2 := hCs.below hb2
           have hB2 := below_next hBr hb2
           have hY2 := hTs2.alloc (.cells #[.string T] 9)
           have hC2 := hCs2.alloc (.cells #[.string T] 9)
           have hB2a := below_al hB2 (.cells #[.string T] 9)
           have hnc : ∀ (j : Nat) (u : Value), (txC t)[j]? = some u → (w2.alloc (.cells #[.string T] 9)).cell? ⟨w2.heap.size, j, none⟩ = some u := by
             rw [HXC.out]
             exact RowG.new_cells w2 9 [.string T])
        | (refine RowG.wpList_more _ (by rfl) _ _ 50 (by rfl) 9 txC 1 16 _ info_str Tryz.underlying50 rfl (by decide) txC_len txC_one w.heap.size _ ts t (by rfl) w2.heap.size _ (by rfl) hY2 hnc (by rw [← HM.out]; simp only [maxLen]; omega) (by rw [← HM.out]; omega) hB2a.size ?_
           intro v5 w5 hrow5 hg5 _
           have hC5 := row_kt hC2 (KT.grown (e := 4) hY2 hg5 (by decide))
           have hB5 : Below w.heap.size w w5 := RowG.below_row hB2a hY2 hg5))
      clear hTs hCs hTs2 hCs2 hY2 hC2 hB2 hB2a hnc hb2 hBr cu hcut hg5
      go_loopg [6, 7, 9] (l.length + 1) (fun g2 v6 v7 v9 wy => ∃ (q' : Nat) (k : Bool), q' ≤ l.length ∧ l.length + 1 ≤ q' + g2 ∧ q ≤ q' ∧ v6 = .slice A6 M6 c6 ∧ v7 = .int .i64 q' ∧ v9 = .bool k ∧ Hid (gap false (l.drop q) = gap k (l.drop q')) ∧ w5 = wy)
      case atStart => exact ⟨q, false, hql, by omega, Nat.le_refl _, rfl, by first | rfl | (simp; omega), rfl, rfl, rfl⟩
      case round =>
        obtain ⟨q', k, hq', hqg, hqq, rfl, rfl, rfl, HG, rfl⟩ := hrel
        cases gk with
        | zero => omega
        | succ g2 =>
        by_cases hlt : q' < l.length
        · have hps : q' < S.size := by rw [HSZ.out]; exact hlt
          have hgs := HAT.out q' hps hlt
          obtain ⟨c, hce⟩ : ∃ c : UInt8, l[q'] = c := ⟨_, rfl⟩
          rw [hce] at hgs
          have hdr : l.drop q' = c :: l.drop (q' + 1) := by rw [drop_get hlt, hce]
          rw [hdr] at HG
          have q1 : (q' : Int) < (S.size : Int) := by omega
          have q0 : (0 : Int) ≤ (q' : Int) := Int.natCast_nonneg _
          by_cases c62 : c = 62
          · subst c62
            cases k with
            | true =>
              obtain rfl : R = none := by
                rw [HP.out, HPE.out, HG.out]
                rfl
              clear HG hdr hce
              go_wp2
              rw [Exit.noGoto_ret]
              go_ret3
              exact ⟨⟨_, _, _, rfl, rfl, fun ts cs h => by cases h⟩, hB5⟩
            | false =>
              have HG2 : Hid (gap false (l.drop q) = gap true (l.drop (q' + 1))) := by show _ = _; rw [HG.out]; rfl
              clear HG hdr hce
              go_wp2
              go_roundg g2
              case rel => exact ⟨q' + 1, true, by omega, by omega, by omega, rfl, by go_num, rfl, HG2, rfl⟩
              case measure => omega
          · have hc62 : ((c.toNat : Int) == 62) = false := by
              rw [beq_eq_false_iff_ne]
              intro e
              exact c62 (UInt8.toNat_inj.1 (by show c.toNat = 62; omega))
            have cb := CB.out c w5
            have hyb : ((c.toNat : Int)).toNat.toUInt8 = c := by simp
            have hcon := Lib.contains_iff_indexByte [32, 9, 10, 13, 62] c
            have hbc : ([32, 9, 10, 13, 62] : List UInt8).contains c = isBt c := by
              have : (!([32, 9, 10, 13, 62] : List UInt8).contains c) = (!isBt c) := congrFun bt_has c
              have h2 := congrArg (fun b => !b) this
              simpa only [Bool.not_not] using h2
            rw [hbc] at hcon
            rw [hyb] at cb
            cases hb : isBlank c with
            | true =>
              have hbt : isBt c = true := by unfold isBt; rw [hb]; rfl
              rw [hbt] at hcon
              have hge : (0 : Int) ≤ Lib.indexByte [32, 9, 10, 13, 62] c := of_decide_eq_true hcon.symm
              have hge2 : decide (Lib.indexByte [32, 9, 10, 13, 62] c < 0) = false := decide_eq_false (by omega)
              have HG2 : Hid (gap false (l.drop q) = gap k (l.drop (q' + 1))) := by show _ = _; rw [HG.out, gap_blank hb]
              clear HG hdr hce hcon hbc hyb hbt hb c62
              generalize Lib.indexByte [32, 9, 10, 13, 62] c = ix at *
              go_wp2_with (go_at_call 44; (with_reducible refine cb.mono ?_); rintro e w6 ⟨rfl, hw6⟩; rw [hw6]; clear hw6 w6)
              go_roundg g2
              case rel => exact ⟨q' + 1, k, by omega, by omega, by omega, rfl, by go_num, rfl, HG2, rfl⟩
              case measure => omega
            | false =>
              have hbt : isBt c = false := by unfold isBt; rw [hb]; simpa using c62
              rw [hbt] at hcon
              have hge : Lib.indexByte [32, 9, 10, 13, 62] c < 0 := by have := of_decide_eq_false hcon.symm; omega
              have hgs2 := gap_stop hbt k (l.drop (q' + 1))
              rw [hgs2] at HG
              have hless : q' > p := by
                have h1 := HGL.out k c (l.drop (q' + 1)) (by rw [HG.out])
                rw [← hdr, List.length_drop] at h1
                have := HDL.out
                omega
              have HP2 : Hid (R = more (ts ++ [t]) (cs ++ [k]) (partP (l.drop q'))) := by
                show _ = _
                rw [HP.out, HPE.out, HG.out, hdr]
                show more ts cs (match partP (c :: l.drop (q' + 1)) with | none => none | some (ts, cs) => some (t :: ts, k :: cs)) = _
                unfold more
                cases partP (c :: l.drop (q' + 1)) with
                | none => rfl
                | some y => simp
              have hY6 := hC5.alloc (.cells #[.bool k] 4)
              have hT6 := hrow5.alloc (.cells #[.bool k] 4)
              have hB6 := below_al hB5 (.cells #[.bool k] 4)
              have hnc6 := RowG.new_cells w5 4 (boC k)
              have hlen : (ts ++ [t]).length ≤ p + 1 := by rw [List.length_append, List.length_singleton, ← HM.out]; omega
              clear HG hdr hce hcon hbc hyb hbt hb c62 hgs2
              generalize Lib.indexByte [32, 9, 10, 13, 62] c = ix at *
              go_wp2_with (first
                | (go_at_call 44; (with_reducible refine cb.mono ?_); rintro e w6 ⟨rfl, hw6⟩; rw [hw6]; clear hw6 w6)
                | (refine RowG.wpList_more _ (by rfl) _ _ 23 (by rfl) 4 boC 1 1 _ info_bool Tryz.underlying23 rfl (by decide) boC_len boC_one w.heap.size _ cs k (by rfl) w5.heap.size _ (by rfl) hY6 hnc6 (by rw [← HM6.out]; simp only [maxLen]; omega) (by rw [← HM6.out]; omega) hB6.size ?_
                   intro v7 w7 hrow7 hg7 _
                   have hT7 := row_kt hT6 (KT.grown (e := 9) hY6 hg7 (by decide))
                   have hB7 : Below w.heap.size w w7 := RowG.below_row hB6 hY6 hg7))
              go_roundg g
              case rel => exact ⟨q', ts ++ [t], cs ++ [k], by omega, by omega, rfl, hT7, hrow7, by omega, by rw [List.length_append, List.length_singleton, ← HM6.out]; omega, HP2, hB7⟩
              case measure => omega
        · obtain rfl : q' = l.length := by omega
          have q1 : ¬ ((l.length : Int) < (S.size : Int)) := by have := HSZ.out; omega
          have hd0 : l.drop l.length = [] := List.drop_of_length_le (Nat.le_refl _)
          rw [hd0] at HG
          have HRE : Hid (R = more ts cs (if k then none else some ([t], []))) := by
            show _ = _
            rw [HP.out, HPE.out, HG.out]
            rfl
          clear HG hd0
          go_wp2
          go_ret3
          refine ⟨⟨_, _, _, rfl, ?_, fun ts' cs' h => ?_⟩, hB5⟩
          · rw [HRE.out]
            cases k <;> rfl
          · rw [HRE.out] at h
            cases k with
            | true => cases h
            | false =>
              injection h with h
              injection h with h1 h2
              subst h1
              subst h2
              exact ⟨hrow5, by rw [List.append_nil]; exact hC5⟩
end Sel
end Go.Proofs.YthacboofbbfmlaaGreatDoor
namespace Go.Proofs.YthacboofbbfmlaaGreatDoor
open Go.ChangeShapes Go.WideShapes Go.ChangeAt Go.RowKit Go.Shelf
namespace Sel
open Tok
open RowG (Row)
theorem lit_eq (l m : List UInt8) : ((toB l).toList == m) = decide (l = m) := by
  rw [ByteArray.toList_eq]
  show (l == m) = _
  by_cases h : l = m <;> simp [h]
/-- A part in the making. -/
structure SiM (w : World) (base g : Nat) (vi vc : Value) (p : Sim) : Prop where
  blk : Blk w g 53 #[.string (toB p.tag), vi, vc, .bool p.link, .bool p.visited]
  hg : base ≤ g
  ids : Row w base 9 1 txC vi p.ids
  classes : Row w base 9 1 txC vc p.classes
  dj : Dj vi vc
theorem SiM.next {w w' : World} {base g : Nat} {vi vc : Value} {p : Sim} (h : SiM w base g vi vc p) (hb : Below w.heap.size w w') : SiM w' base g vi vc p :=
  ⟨h.blk.next hb, h.hg, h.ids.below hb, h.classes.below hb, h.dj⟩
theorem SiM.link_ {w : World} {base g : Nat} {vi vc : Value} {p : Sim} (h : SiM w base g vi vc p) : SiM (w.setCell ⟨g, 3, none⟩ (.bool true)) base g vi vc { p with link := true } :=
  ⟨h.blk.set_ 3 _, h.hg, row_kt h.ids (KT.set h.blk (by decide) _ _), row_kt h.classes (KT.set h.blk (by decide) _ _), h.dj⟩
theorem SiM.vis_ {w : World} {base g : Nat} {vi vc : Value} {p : Sim} (h : SiM w base g vi vc p) : SiM (w.setCell ⟨g, 4, none⟩ (.bool true)) base g vi vc { p with visited := true } :=
  ⟨h.blk.set_ 4 _, h.hg, row_kt h.ids (KT.set h.blk (by decide) _ _), row_kt h.classes (KT.set h.blk (by decide) _ _), h.dj⟩
theorem SiM.tag_ {w : World} {base g : Nat} {vi vc : Value} {p : Sim} (h : SiM w base g vi vc p) (t : List UInt8) : SiM (w.setCell ⟨g, 0, none⟩ (.string (toB t))) base g vi vc { p with tag := t } :=
  ⟨h.blk.set_ 0 _, h.hg, row_kt h.ids (KT.set h.blk (by decide) _ _), row_kt h.classes (KT.set h.blk (by decide) _ _), h.dj⟩
theorem SiM.id_ {W W1 w6 : World} {base g : Nat} {vi vc v6 : Value} {p : Sim} {n : List UInt8} (h : SiM W base g vi vc p) (hb1 : Below W.heap.size W W1) (hrow : Row w6 base 9 1 txC v6 (p.ids ++ [n])) (hg : W1.grownBy w6 vi.ownBlock) (ho : v6.ownBlock = vi.ownBlock ∨ v6.ownBlock = some W1.heap.size) :
    SiM (w6.setCell ⟨g, 1, none⟩ v6) base g v6 vc { p with ids := p.ids ++ [n] } := by
  have h1 := h.next hb1
  have hblk := blk_kt h1.blk (KT.grown h1.ids hg (by decide))
  have ks : KT w6 (w6.setCell ⟨g, 1, none⟩ v6) 9 := KT.set hblk (by decide) _ _
  refine ⟨hblk.set_ 1 v6, h.hg, row_kt hrow ks, ?_, ?_⟩
  · exact row_kt (row_other h1.classes hg (fun b hb => h.dj.symm b hb)) ks
  · exact (Dj.grown h.dj.symm h1.classes ho).symm
theorem SiM.class_ {W W1 w6 : World} {base g : Nat} {vi vc v6 : Value} {p : Sim} {n : List UInt8} (h : SiM W base g vi vc p) (hb1 : Below W.heap.size W W1) (hrow : Row w6 base 9 1 txC v6 (p.classes ++ [n])) (hg : W1.grownBy w6 vc.ownBlock) (ho : v6.ownBlock = vc.ownBlock ∨ v6.ownBlock = some W1.heap.size) :
    SiM (w6.setCell ⟨g, 2, none⟩ v6) base g vi v6 { p with classes := p.classes ++ [n] } := by
  have h1 := h.next hb1
  have hblk := blk_kt h1.blk (KT.grown h1.classes hg (by decide))
  have ks : KT w6 (w6.setCell ⟨g, 2, none⟩ v6) 9 := KT.set hblk (by decide) _ _
  refine ⟨hblk.set_ 2 v6, h.hg, ?_, row_kt hrow ks, ?_⟩
  · exact row_kt (row_other h1.ids hg (fun b hb => h.dj b hb)) ks
  · exact Dj.grown h.dj h1.ids ho
def SiO (w : World) (base g : Nat) (p : Sim) : Prop := ∃ vi vc, SiM w base g vi vc p
theorem SiO.next {w w' : World} {base g : Nat} {p : Sim} (h : SiO w base g p) (hb : Below w.heap.size w w') : SiO w' base g p := by
  obtain ⟨vi, vc, h⟩ := h
  exact ⟨vi, vc, h.next hb⟩
/-- What take answers. -/
def TaR (w : World) (base g : Nat) (p : Sim) (x : Option Sim) (e : Ending) : Prop := (x = none ∧ e = .returned (.bool false) ∧ SiO w base g p) ∨ ∃ p', x = some p' ∧ e = .returned (.bool true) ∧ SiO w base g p'
theorem take_sign {p : Sim} {c : UInt8} {n : List UInt8} (h1 : c :: n ≠ linkT) (h2 : c :: n ≠ visT) : takeS p (c :: n) = if c = 35 ∧ nameB n = true then some { p with ids := p.ids ++ [n] } else if c = 46 ∧ nameB n = true then some { p with classes := p.classes ++ [n] } else none := by
  unfold takeS
  rw [if_neg h1, if_neg h2]
set_option maxRecDepth 100000 in
set_option maxHeartbeats 16000000 in
theorem take_any (w : World) (base g : Nat) (p : Sim) (c : UInt8) (n : List UInt8) (h : SiO w base g p) (hbase : base ≤ w.heap.size) (hn : n.length ≤ 1000000) (hi : p.ids.length ≤ 1000) (hc : p.classes.length ≤ 1000) :
    Calls Tryz.prog 47 #[.pointer (some ⟨g, 0, none⟩), .string (toB (c :: n))] w fun e w' => TaR w' base g p (takeS p (c :: n)) e ∧ Below base w w' := by
  obtain ⟨vi, vc, h⟩ := h
  have c1 : ∀ w, (Instr.slice 9 (.string (toB (c :: n))) none (some (.int .i64 1)) none).run Tryz.prog w = .ok (.string (toB [c])) w := fun w => cutH (c :: n) 1 (by simp) w
  have c2 : ∀ w, (Instr.slice 9 (.string (toB (c :: n))) (some (.int .i64 1)) none none).run Tryz.prog w = .ok (.string (toB n)) w := fun w => cutL (c :: n) 1 (by simp) w
  have cn := fun w => name_any n (by simp only [maxLen]; omega) w
  have e1 := lit_eq (c :: n) linkT
  have e2 := lit_eq (c :: n) visT
  have e3 : ((toB [c]).toList == [35]) = decide (c = 35) := by rw [lit_eq]; simp
  have e4 : ((toB [c]).toList == [46]) = decide (c = 46) := by rw [lit_eq]; simp
  unfold linkT at e1
  unfold visT at e2
  have hgl := h.blk.lt
  by_cases t1 : c :: n = linkT
  · have hT : takeS p (c :: n) = some { p with link := true } := by unfold takeS; rw [if_pos t1]
    rw [hT]
    rw [decide_eq_true (show c :: n = [58, 108, 105, 110, 107] from t1)] at e1
    generalize toB (c :: n) = S at *
    generalize toB [c] = S1 at *
    generalize toB n = S2 at *
    clear hT t1 cn e3 e4 e2
    go_enter Tryz.func47, Tryz.ntmps47
    go_wp2
    go_quiet (fail)
    have hB := below_drewN (Below.refl w.heap.size w) nq
    have h2 := h.next hB
    have hBb : Below base w (w.drewN nq) := hB.mono hbase
    have hgl2 := h2.blk.lt
    clear h hB
    generalize w.drewN nq = W2 at *
    have f3 := h2.blk.frozen 3
    have x3 := h2.blk.cell 3
    simp only [List.getElem?_toArray, List.getElem?_cons_zero, List.getElem?_cons_succ] at x3
    go_wp2
    go_ret
    exact ⟨.inr ⟨_, rfl, rfl, _, _, h2.link_⟩, hBb.setCell h2.hg _⟩
  rw [decide_eq_false (show ¬ c :: n = [58, 108, 105, 110, 107] from t1)] at e1
  by_cases t2 : c :: n = visT
  · have hT : takeS p (c :: n) = some { p with visited := true } := by unfold takeS; rw [if_neg t1, if_pos t2]
    rw [hT]
    rw [decide_eq_true (show c :: n = [58, 118, 105, 115, 105, 116, 101, 100] from t2)] at e2
    generalize toB (c :: n) = S at *
    generalize toB [c] = S1 at *
    generalize toB n = S2 at *
    clear hT t1 t2 cn e3 e4
    go_enter Tryz.func47, Tryz.ntmps47
    go_wp2
    go_quiet (fail)
    have hB := below_drewN (Below.refl w.heap.size w) nq
    have h2 := h.next hB
    have hBb : Below base w (w.drewN nq) := hB.mono hbase
    have hgl2 := h2.blk.lt
    clear h hB
    generalize w.drewN nq = W2 at *
    have f3 := h2.blk.frozen 4
    have x3 := h2.blk.cell 4
    simp only [List.getElem?_toArray, List.getElem?_cons_zero, List.getElem?_cons_succ] at x3
    go_wp2
    go_ret
    exact ⟨.inr ⟨_, rfl, rfl, _, _, h2.vis_⟩, hBb.setCell h2.hg _⟩
  rw [decide_eq_false (show ¬ c :: n = [58, 118, 105, 115, 105, 116, 101, 100] from t2)] at e2
  have hTS := take_sign (p := p) t1 t2
  rw [hTS]
  have HN : Hid (nameB n = nameB n) := rfl
  by_cases t3 : c = 35
  · rw [decide_eq_true t3] at e3
    rw [decide_eq_false (show ¬ c = 46 by rw [t3]; decide)] at e4
    cases hnm : nameB n with
    | true =>
      rw [if_pos ⟨t3, rfl⟩]
      rw [hnm] at cn
      have HS2 : Hid (txC n = [.string (toB n)]) := rfl
      generalize toB (c :: n) = S at *
      generalize toB [c] = S1 at *
      generalize hS2 : toB n = S2 at *
      clear hTS t1 t2 t3 hnm HN hS2
      go_enter Tryz.func47, Tryz.ntmps47
      go_wp2
      go_quiet (fail)
      have hB := below_drewN (Below.refl w.heap.size w) nq
      have h2 := h.next hB
      have hBb : Below base w (w.drewN nq) := hB.mono hbase
      have hgl2 := h2.blk.lt
      clear h hB
      generalize w.drewN nq = W2 at *
      have c1' := h2.blk.cell 1
      simp only [List.getElem?_toArray, List.getElem?_cons_zero, List.getElem?_cons_succ] at c1'
      obtain ⟨A, ca, hv⟩ := h2.ids.form
      obtain ⟨M, hM⟩ : ∃ M, M = p.ids.length := ⟨_, rfl⟩
      rw [← hM] at hv
      have HM := Lib.hid hM
      obtain rfl := hv
      clear hM
      go_wp2_with (first
        | (go_at_call 46; (with_reducible refine (cn _).mono ?_); rintro e w3 ⟨rfl, hb3⟩
           have h3 := h2.next hb3
           have hB3 : Below base w w3 := hBb.trans (hb3.mono (Nat.le_trans hbase hBb.size))
           have c13 := (hb3.cell (p := ⟨g, 1, none⟩) hgl2).trans c1'
           have hA := below_al (Below.refl w3.heap.size w3) (.cells #[.string S2] 9)
           have hY := h3.ids.alloc (.cells #[.string S2] 9)
           have hnc : ∀ (j : Nat) (u : Value), (txC n)[j]? = some u → (w3.alloc (.cells #[.string S2] 9)).cell? ⟨w3.heap.size, j, none⟩ = some u := by
             rw [HS2.out]
             exact RowG.new_cells w3 9 [.string S2]
           have hBA : Below base w (w3.alloc (.cells #[.string S2] 9)) := hB3.alloc (Nat.le_trans hbase hB3.size) _
           have hzA : base ≤ (w3.alloc (.cells #[.string S2] 9)).heap.size := Nat.le_trans hbase hBA.size)
        | (refine RowG.wpList_more _ (by rfl) _ _ 50 (by rfl) 9 txC 1 16 _ info_str Tryz.underlying50 rfl (by decide) txC_len txC_one base _ p.ids n (by rfl) w3.heap.size _ (by rfl) hY hnc (by simp only [maxLen]; omega) (by omega) hzA ?_
           intro v6 w6 hrow6 hg6 ho6
           obtain ⟨A7, c7, hv7⟩ := hrow6.form
           obtain ⟨M7, hM7⟩ : ∃ M7, M7 = (p.ids ++ [n]).length := ⟨_, rfl⟩
           rw [← hM7] at hv7
           clear hM7
           subst hv7
           have h6 := h3.id_ hA hrow6 hg6 ho6
           have hB6 : Below base w w6 := hBA.grown hg6 hzA (fun k hk => (World.ownsRow.lt hY k hk).1)
           have k6 := blk_kt (h3.next hA).blk (KT.grown (e := 53) hY hg6 (by decide))
           have f6 := k6.frozen 1
           have x6 := k6.cell 1
           simp only [List.getElem?_toArray, List.getElem?_cons_zero, List.getElem?_cons_succ] at x6))
      go_ret
      exact ⟨.inr ⟨_, rfl, rfl, _, _, h6⟩, hB6.setCell h2.hg _⟩
    | false =>
      have hno : (if c = 35 ∧ false = true then some { p with ids := p.ids ++ [n] } else if c = 46 ∧ false = true then some { p with classes := p.classes ++ [n] } else none : Option Sim) = none := by simp
      rw [hno]
      rw [hnm] at cn
      generalize toB (c :: n) = S at *
      generalize toB [c] = S1 at *
      generalize toB n = S2 at *
      clear hTS t1 t2 t3 hnm HN hno
      go_enter Tryz.func47, Tryz.ntmps47
      go_wp2
      go_quiet (fail)
      have hB := below_drewN (Below.refl w.heap.size w) nq
      have h2 := h.next hB
      have hBb : Below base w (w.drewN nq) := hB.mono hbase
      clear h hB
      generalize w.drewN nq = W2 at *
      go_wp2_with (first
        | (go_at_call 46; (with_reducible refine (cn _).mono ?_); rintro e w3 ⟨rfl, hb3⟩
           have h3 := h2.next hb3
           have hB3 : Below base w w3 := hBb.trans (hb3.mono (Nat.le_trans hbase hBb.size))))
      go_ret
      exact ⟨.inl ⟨rfl, rfl, _, _, h3⟩, hB3⟩
  rw [decide_eq_false t3] at e3
  by_cases t4 : c = 46
  · rw [decide_eq_true t4] at e4
    cases hnm : nameB n with
    | true =>
      rw [if_neg (by rintro ⟨e, -⟩; exact t3 e), if_pos ⟨t4, rfl⟩]
      rw [hnm] at cn
      have HS2 : Hid (txC n = [.string (toB n)]) := rfl
      generalize toB (c :: n) = S at *
      generalize toB [c] = S1 at *
      generalize hS2 : toB n = S2 at *
      clear hTS t1 t2 t3 t4 hnm HN hS2
      go_enter Tryz.func47, Tryz.ntmps47
      go_wp2
      go_quiet (fail)
      have hB := below_drewN (Below.refl w.heap.size w) nq
      have h2 := h.next hB
      have hBb : Below base w (w.drewN nq) := hB.mono hbase
      have hgl2 := h2.blk.lt
      clear h hB
      generalize w.drewN nq = W2 at *
      have c1' := h2.blk.cell 2
      simp only [List.getElem?_toArray, List.getElem?_cons_zero, List.getElem?_cons_succ] at c1'
      obtain ⟨A, ca, hv⟩ := h2.classes.form
      obtain ⟨M, hM⟩ : ∃ M, M = p.classes.length := ⟨_, rfl⟩
      rw [← hM] at hv
      have HM := Lib.hid hM
      obtain rfl := hv
      clear hM
      go_wp2_with (first
        | (go_at_call 46; (with_reducible refine (cn _).mono ?_); rintro e w3 ⟨rfl, hb3⟩
           have h3 := h2.next hb3
           have hB3 : Below base w w3 := hBb.trans (hb3.mono (Nat.le_trans hbase hBb.size))
           have c13 := (hb3.cell (p := ⟨g, 2, none⟩) hgl2).trans c1'
           have hA := below_al (Below.refl w3.heap.size w3) (.cells #[.string S2] 9)
           have hY := h3.classes.alloc (.cells #[.string S2] 9)
           have hnc : ∀ (j : Nat) (u : Value), (txC n)[j]? = some u → (w3.alloc (.cells #[.string S2] 9)).cell? ⟨w3.heap.size, j, none⟩ = some u := by
             rw [HS2.out]
             exact RowG.new_cells w3 9 [.string S2]
           have hBA : Below base w (w3.alloc (.cells #[.string S2] 9)) := hB3.alloc (Nat.le_trans hbase hB3.size) _
           have hzA : base ≤ (w3.alloc (.cells #[.string S2] 9)).heap.size := Nat.le_trans hbase hBA.size)
        | (refine RowG.wpList_more _ (by rfl) _ _ 50 (by rfl) 9 txC 1 16 _ info_str Tryz.underlying50 rfl (by decide) txC_len txC_one base _ p.classes n (by rfl) w3.heap.size _ (by rfl) hY hnc (by simp only [maxLen]; omega) (by omega) hzA ?_
           intro v6 w6 hrow6 hg6 ho6
           obtain ⟨A7, c7, hv7⟩ := hrow6.form
           obtain ⟨M7, hM7⟩ : ∃ M7, M7 = (p.classes ++ [n]).length := ⟨_, rfl⟩
           rw [← hM7] at hv7
           clear hM7
           subst hv7
           have h6 := h3.class_ hA hrow6 hg6 ho6
           have hB6 : Below base w w6 := hBA.grown hg6 hzA (fun k hk => (World.ownsRow.lt hY k hk).1)
           have k6 := blk_kt (h3.next hA).blk (KT.grown (e := 53) hY hg6 (by decide))
           have f6 := k6.frozen 2
           have x6 := k6.cell 2
           simp only [List.getElem?_toArray, List.getElem?_cons_zero, List.getElem?_cons_succ] at x6))
      go_ret
      exact ⟨.inr ⟨_, rfl, rfl, _, _, h6⟩, hB6.setCell h2.hg _⟩
    | false =>
      have hno : (if c = 35 ∧ false = true then some { p with ids := p.ids ++ [n] } else if c = 46 ∧ false = true then some { p with classes := p.classes ++ [n] } else none : Option Sim) = none := by simp
      rw [hno]
      rw [hnm] at cn
      generalize toB (c :: n) = S at *
      generalize toB [c] = S1 at *
      generalize toB n = S2 at *
      clear hTS t1 t2 t3 t4 hnm HN hno
      go_enter Tryz.func47, Tryz.ntmps47
      go_wp2
      go_quiet (fail)
      have hB := below_drewN (Below.refl w.heap.size w) nq
      have h2 := h.next hB
      have hBb : Below base w (w.drewN nq) := hB.mono hbase
      clear h hB
      generalize w.drewN nq = W2 at *
      go_wp2_with (first
        | (go_at_call 46; (with_reducible refine (cn _).mono ?_); rintro e w3 ⟨rfl, hb3⟩
           have h3 := h2.next hb3
           have hB3 : Below base w w3 := hBb.trans (hb3.mono (Nat.le_trans hbase hBb.size))))
      go_ret
      exact ⟨.inl ⟨rfl, rfl, _, _, h3⟩, hB3⟩
  · rw [decide_eq_false t4] at e4
    have hno : (if c = 35 ∧ nameB n = true then some { p with ids := p.ids ++ [n] } else if c = 46 ∧ nameB n = true then some { p with classes := p.classes ++ [n] } else none : Option Sim) = none := by simp [t3, t4]
    rw [hno]
    generalize toB (c :: n) = S at *
    generalize toB [c] = S1 at *
    generalize toB n = S2 at *
    clear hTS t1 t2 t3 t4 HN hno cn
    go_enter Tryz.func47, Tryz.ntmps47
    go_wp2
    go_quiet (fail)
    have hB := below_drewN (Below.refl w.heap.size w) nq
    have h2 := h.next hB
    have hBb : Below base w (w.drewN nq) := hB.mono hbase
    clear h hB
    generalize w.drewN nq = W2 at *
    go_wp2
    go_ret
    exact ⟨.inl ⟨rfl, rfl, _, _, h2⟩, hBb⟩
end Sel
end Go.Proofs.YthacboofbbfmlaaGreatDoor
