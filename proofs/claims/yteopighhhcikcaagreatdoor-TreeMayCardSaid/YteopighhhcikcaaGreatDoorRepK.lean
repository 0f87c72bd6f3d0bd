/- (*strings.Replacer).Replace over the four signs, and token.Tell. Conditions: the text is not too long. -/
import Derived.Test.YteopighhhcikcaaGreatDoorRepH
/- (*strings.genericReplacer).WriteString, over the four signs. Conditions: the trie lies in memory; the writer's bytes are the call's own; the text is not too long. -/
namespace Go.Proofs.YteopighhhcikcaaGreatDoor
open Go.ChangeShapes Go.WideShapes Go.ChangeAt Go.RowKit
namespace Rep
theorem mapT_zero : ∀ c : Fin 256, mapT c.val = 0 ↔ c.val = 38 := by decide +kernel
theorem below_write {w0 w wm : World} {v v' : Value} {l : List UInt8} {b : Nat} (hb : Below w0.heap.size w0 w) (hown : Bys w w0.heap.size v l) (hg : w.grownBy wm v.ownBlock) (hw : w0.heap.size ≤ b) : Below w0.heap.size w0 (wm.setCell ⟨b, 0, none⟩ v') :=
  below_set (hb.grown hg hb.size (fun k hk => (hown.lt k hk).1)) (p := ⟨b, 0, none⟩) hw v'
theorem take_more (l : List UInt8) (j k : Nat) (hjk : j ≤ k) (hk : k < l.length) : (l.drop j).take (k + 1 - j) = (l.drop j).take (k - j) ++ [l[k]] := by
  rw [show k + 1 - j = (k - j) + 1 by omega, List.take_succ_eq_append_getElem (by rw [List.length_drop]; omega)]
  congr 2
  rw [List.getElem_drop]
  congr 1
  omega
theorem nil_ahead (f b : Nat) (w : World) : (nilAhead (f + 1) 267 (.pointer (some ⟨b, 0, none⟩)) "WriteString").run Tryz.prog w = .ok (some false) w := by kernel_rfl
theorem method_write (f b : Nat) (w : World) : (method (f + 1) 267 (.pointer (some ⟨b, 0, none⟩)) "WriteString").run Tryz.prog w = .ok (235, .pointer (some ⟨b, 0, none⟩)) w := by kernel_rfl
/-- The writer and its bytes, behind a write. -/
theorem wrote {w wm : World} {base b : Nat} {v v' : Value} {l m : List UInt8} (K : Blk w b 266 #[v]) (hown : Bys w base v l) (hg : w.grownBy wm v.ownBlock) (ho : Bys wm base v' m) :
    Blk (wm.setCell ⟨b, 0, none⟩ v') b 266 #[v'] ∧ Bys (wm.setCell ⟨b, 0, none⟩ v') base v' m := by
  have Km := K.grown hg (fun e => own_blk_ne hown K (by decide) e.symm)
  exact ⟨Km.set_ 0 v', ownsRow_setCell_other ho (a := ⟨b, 0, none⟩) (own_blk_ne ho Km (by decide)) v'⟩
theorem ext_end (s : ByteArray) (n : Nat) : (s.extract n s.size).data.toList = s.data.toList.drop n := by
  rw [ByteArray.data_extract, Array.toList_extract, List.extract_eq_take_drop]
  rw [List.take_of_length_le]
  rw [List.length_drop, size_list]
  exact Nat.le_refl _
/-- What WriteString has written, and what it has still to write. -/
def Wr (l acc : List UInt8) (j k : Nat) : Prop := tellL l = acc ++ ((l.drop j).take (k - j) ++ tellL (l.drop k))
theorem wr_on {l acc : List UInt8} {j k : Nat} (h : Wr l acc j k) (hjk : j ≤ k) (hk : k < l.length) (hs : sgn (l.drop k) = none) : Wr l acc j (k + 1) := by
  unfold Wr at *
  have hd := List.drop_eq_getElem_cons hk
  rw [h, take_more l j k hjk hk, List.append_assoc]
  congr 2
  rw [hd] at hs ⊢
  rw [tellL_no hs]
  rfl
theorem wr_sign {l acc : List UInt8} {j k : Nat} {x : UInt8 × Nat} (h : Wr l acc j k) (hk : k < l.length) (hs : sgn (l.drop k) = some x) : Wr l (acc ++ (l.drop j).take (k - j) ++ [x.1]) (k + x.2) (k + x.2) := by
  unfold Wr at *
  have hd := List.drop_eq_getElem_cons hk
  rw [h, Nat.sub_self, List.take_zero, List.nil_append]
  rw [hd] at hs
  rw [show tellL (l.drop k) = x.1 :: tellL (l.drop (k + x.2)) by
    rw [hd, tellL_yes hs, ← hd, List.drop_drop]]
  simp
theorem wr_end {l acc : List UInt8} {j : Nat} (h : Wr l acc j l.length) : tellL l = acc ++ l.drop j := by
  unfold Wr at h
  rw [h, List.drop_length, tellL_nil, List.append_nil, List.take_of_length_le (by rw [List.length_drop]; exact Nat.le_refl _)]
set_option maxRecDepth 100000 in
set_option maxHeartbeats 8000000 in
theorem ws_any (l : List UInt8) (hl : l.length ≤ 1000000) (G b : Nat) (v : Value) (w0 w : World) (hG : GenOk w G) (K : Blk w b 266 #[v]) (hown : Bys w w0.heap.size v []) (hb : w0.heap.size ≤ b) (hB : Below w0.heap.size w0 w) :
    Calls Tryz.prog 215 #[ptr G, .iface 267 (.pointer (some ⟨b, 0, none⟩)), .string (toB l)] w fun e w' => (∃ n, e = .returned (.tuple #[.int .i64 n, .nilIface])) ∧
      ∃ v', Blk w' b 266 #[v'] ∧ Bys w' w0.heap.size v' (tellL l) ∧ Below w0.heap.size w0 w' := by
  have cg := fun w => gsw_any b w
  have hna : ∀ w, (nilAhead 383 267 (.pointer (some ⟨b, 0, none⟩)) "WriteString").run Tryz.prog w = .ok (some false) w := fun w => nil_ahead 382 b w
  have hme : ∀ w, (method 383 267 (.pointer (some ⟨b, 0, none⟩)) "WriteString").run Tryz.prog w = .ok (235, .pointer (some ⟨b, 0, none⟩)) w := fun w => method_write 382 b w
  have hz : (toB l).size = l.length := toB_size l
  have HW : Hid (Wr l [] 0 0) := by show tellL l = [] ++ ((l.drop 0).take (0 - 0) ++ tellL (l.drop 0)); simp
  obtain ⟨s, hs⟩ : ∃ s, s = toB l := ⟨_, rfl⟩
  rw [← hs] at hz ⊢
  have HS := Lib.hid hs
  clear hs
  unfold ptr
  go_enter Tryz.func215, Tryz.ntmps215
  go_wp2_with (go_at_call 216; (with_reducible refine (cg _).mono ?_); rintro e w1 ⟨rfl, rfl⟩)
  go_loopw [6, 7, 9, 10, 11, 12, 13, 14, 15, 16] (fun n e la wn pm i _ _ _ _ wr => ∃ (k j : Nat) (nn wnn : Int) (acc : List UInt8) (v : Value), k ≤ l.length + 1 ∧ j ≤ k ∧ j ≤ l.length ∧ i = .int .i64 k ∧ la = .int .i64 j ∧ n = .int .i64 nn ∧ wn = .int .i64 wnn ∧ e = .nilIface ∧ pm = .bool false ∧ acc.length ≤ j ∧
    Blk wr b 266 #[v] ∧ Bys wr w0.heap.size v acc ∧ GenOk wr G ∧ Below w0.heap.size w0 wr ∧ Hid (Wr l acc j (min k l.length))) (fun _ _ _ _ _ i _ _ _ _ _ => l.length + 1 - (intOf i).toNat)
  case atStart => exact ⟨0, 0, 0, 0, [], v, Nat.zero_le _, Nat.le_refl _, Nat.zero_le _, rfl, rfl, rfl, rfl, rfl, rfl, Nat.le_refl _, K, hown, hG, hB, by rw [Nat.zero_min]; exact HW⟩
  case round =>
    obtain ⟨k, j, nn, wnn, acc, v1, hk, hjk, hjl, rfl, rfl, rfl, rfl, rfl, rfl, hacc, Kr, hor, hGr, hBr, HA⟩ := hrel
    clear K hown hG hB HW
    have k0 : (0 : Int) ≤ (k : Int) := Int.natCast_nonneg _
    have j0 : (0 : Int) ≤ (j : Int) := Int.natCast_nonneg _
    obtain ⟨T0, N1, A, N6, N8, hGB, ⟨hT, KT, -⟩, -⟩ := id hGr
    obtain ⟨g2, g4, g5, hm⟩ := gb_cells hGB
    have g1 : wr.cell? ⟨G, 1, none⟩ = some (.int .i64 0) := (hGB.2.cell 1).trans rfl
    unfold tabS at g4
    by_cases hkl : k < l.length
    · have hmin : min k l.length = k := Nat.min_eq_left (Nat.le_of_lt hkl)
      rw [hmin] at HA
      have hd := List.drop_eq_getElem_cons hkl
      have hks : k < s.size := by omega
      have hgc : s[k]'hks = l[k] := by have h := HS.out; subst h; rfl
      by_cases hc : l[k] = 38
      · obtain ⟨t, ht⟩ : ∃ t, t = l.drop (k + 1) := ⟨_, rfl⟩
        have hdk : l.drop k = 38 :: t := by rw [hd, hc, ht]
        have htl : t.length ≤ 1000000 := by rw [ht, List.length_drop]; omega
        rw [hc] at hgc
        have mc : wr.cell? ⟨G, 44, none⟩ = some (.int .u8 0) := hm 38 0 mapT_vals.1
        have t0 : wr.cell? ⟨T0, 0, none⟩ = some (.pointer (some ⟨N1, 0, none⟩)) := (KT.cell 0).trans (tabC_at _ (by decide))
        have hxt : s.extract k l.length = toB (38 :: t) := by
          refine bytes_inj ?_
          have h := ext_end s k
          rw [hz] at h
          rw [h, HS.out]
          exact hdk
        have cl := lookup_any G wr.drew hGr t htl
        unfold ptr at cl
        clear hm hc hd ht
        cases hs : sgn (38 :: t) with
        | none =>
          rw [hs] at cl
          simp only [sgV] at cl
          have HA2 : Hid (Wr l acc j (min (k + 1) l.length)) := by rw [Nat.min_eq_left (by omega)]; exact wr_on HA.out hjk hkl (by rw [hdk]; exact hs)
          clear HA hs hdk
          generalize toB (38 :: t) = st at *
          go_wp2
          first | (go_region) | (fail)
          go_wp2_with (go_at_call 217; (with_reducible refine cl.mono ?_); rintro e w2 ⟨rfl, hb2⟩)
          go_roundw
          case rel => exact ⟨k + 1, j, nn, wnn, acc, v1, by omega, by omega, hjl, by go_num, rfl, rfl, rfl, rfl, rfl, hacc, Kr.drew.next hb2, Bys.below (w := wr.drew) hor hb2, gen_next (w := wr.drew) hGr hb2, below_next hBr.drew hb2, HA2⟩
          case measure => simp [intOf]; omega
        | some x =>
          rw [hs] at cl
          simp only [sgV] at cl
          obtain ⟨x1, x2⟩ := sgn_pos hs
          have hxk : k + x.2 ≤ l.length := by
            have : (l.drop k).length = l.length - k := List.length_drop
            rw [hdk] at this
            omega
          have hn0 : ((x.2 : Int) == 0) = false := by rw [beq_eq_false_iff_ne]; omega
          have xk : (s.extract j k).data.toList = (l.drop j).take (k - j) := by
            rw [ByteArray.data_extract, Array.toList_extract, List.extract_eq_take_drop, HS.out]
            rfl
          have xz : (s.extract j k).size ≤ 1000000 := by rw [ByteArray.size_extract]; omega
          have HA2 : Hid (Wr l (acc ++ (l.drop j).take (k - j) ++ [x.1]) (k + x.2) (min (k + x.2) l.length)) := by rw [Nat.min_eq_left hxk]; exact wr_sign HA.out hkl (by rw [hdk]; exact hs)
          have hal : (acc ++ (l.drop j).take (k - j)).length ≤ k := by
            rw [List.length_append, List.length_take, List.length_drop]
            omega
          have z1 : (toB [x.1]).size = 1 := rfl
          have xn0 : (0 : Int) ≤ (x.2 : Int) := Int.natCast_nonneg _
          have kxi : (k : Int) + (x.2 : Int) ≤ 1000000 := by omega
          clear HA hs hdk
          generalize toB (38 :: t) = st at *
          go_wp2
          first | (go_region) | (fail)
          go_upto_region 13 with (go_at_call 217; (with_reducible refine cl.mono ?_); rintro e w2 ⟨rfl, hb2⟩)
          have hal3 : (acc ++ (l.drop j).take (k - j) ++ [x.1]).length ≤ k + x.2 := by rw [List.length_append, List.length_singleton]; omega
          have K2 := Kr.drew.next hb2
          have hor2 := Bys.below (w := wr.drew) hor hb2
          have hG2 := gen_next (w := wr.drew) hGr hb2
          have hB2 := below_next hBr.drew hb2
          have ca := asw_any b w0.heap.size v1 acc (s.extract j k) w2.drew K2 hor2 (by omega) hB2.size
          rw [xk] at ca
          clear xk
          first
          | (go_region_with (first
              | (go_at_call 235; (with_reducible refine ca.mono ?_); rintro e w3 ⟨rfl, v2, wm, ho2, hg2, rfl⟩
                 have W3 := wrote (w := w2.drew) K2 hor2 hg2 ho2
                 have ca2 := asw_any b w0.heap.size v2 (acc ++ (l.drop j).take (k - j)) (toB [x.1]) (wm.setCell ⟨b, 0, none⟩ v2) W3.1 W3.2 (by rw [z1]; omega) (below_write (w := w2.drew) (v' := v2) hB2.drew hor2 hg2 hb).size)))
          | (fail)
          all_goals
            go_wp2_with (go_at_call 235; (with_reducible refine ca2.mono ?_); rintro e w4 ⟨rfl, v3, wm2, ho3, hg3, rfl⟩)
            have W4 := wrote W3.1 W3.2 hg3 ho3
            have G3 := gen_write (w := w2.drew) (v' := v2) hG2 hor2 K2 hg2
            have G4 := gen_write (v' := v3) G3 W3.2 W3.1 hg3
            have B3 := below_write (w := w2.drew) (v' := v2) hB2.drew hor2 hg2 hb
            have B4 := below_write (v' := v3) B3 W3.2 hg3 hb
            go_roundw
            case rel => exact ⟨k + x.2, k + x.2, _, _, acc ++ (l.drop j).take (k - j) ++ [x.1], v3, by omega, Nat.le_refl _, hxk, by go_num, by go_num, rfl, rfl, rfl, rfl, hal3, W4.1, W4.2, G4, B4, HA2⟩
            case measure => simp [intOf]; omega
      · have hsn : sgn (l.drop k) = none := by rw [hd]; exact sgn_not _ hc
        have HA2 : Hid (Wr l acc j (min (k + 1) l.length)) := by rw [Nat.min_eq_left (by omega)]; exact wr_on HA.out hjk hkl hsn
        obtain ⟨⟨b0, b1⟩, -⟩ := mapT_fin ⟨(l[k]).toNat, (l[k]).toNat_lt⟩
        have bz := mapT_zero ⟨(l[k]).toNat, (l[k]).toNat_lt⟩
        obtain ⟨vi, hvi⟩ : ∃ vi : Nat, mapT (l[k]).toNat = (vi : Int) := ⟨(mapT (l[k]).toNat).toNat, by simp only at b0; omega⟩
        simp only [hvi] at b0 b1 bz
        have x0 : ¬ vi = 0 := fun e => hc (UInt8.toNat_inj.1 (bz.1 (by omega)))
        have mc := hm _ _ hvi
        obtain ⟨cc, hcc⟩ : ∃ cc, cc = l[k] := ⟨_, rfl⟩
        rw [← hcc] at mc hgc
        have y0 : (0 : Int) ≤ (cc.toNat : Int) := Int.natCast_nonneg _
        have y2 : cc.toNat < 256 := cc.toNat_lt
        have y1 : (cc.toNat : Int) < 256 := by omega
        clear hd HA hsn hcc hc bz b0 hvi
        by_cases h11 : vi = 11
        · subst h11
          have mc2 : wr.cell? ⟨G, 6 + cc.toNat, none⟩ = some (.int .u8 11) := mc
          clear mc hm
          go_wp2
          first | (go_region) | (fail)
          go_wp2
          go_roundw
          case rel => exact ⟨k + 1, j, nn, wnn, acc, v1, by omega, by omega, hjl, by go_num, rfl, rfl, rfl, rfl, rfl, hacc, Kr, hor, hGr, hBr.drew, HA2⟩
          case measure => simp [intOf]; omega
        · have v11 : vi < 11 := by omega
          have t1 : wr.cell? ⟨T0, vi, none⟩ = some (.pointer none) := by
            refine (KT.cell vi).trans ((tabC_at _ v11).trans ?_)
            unfold updV
            rw [if_neg x0]
            rfl
          have i0 : (0 : Int) ≤ (vi : Int) := Int.natCast_nonneg _
          have i1 : (vi : Int) < 11 := by omega
          have i2 : ((vi : Int) == 11) = false := by rw [beq_eq_false_iff_ne]; omega
          clear hm
          go_wp2
          first | (go_region) | (fail)
          go_wp2
          go_roundw
          case rel => exact ⟨k + 1, j, nn, wnn, acc, v1, by omega, by omega, hjl, by go_num, rfl, rfl, rfl, rfl, rfl, hacc, Kr, hor, hGr, hBr.drew, HA2⟩
          case measure => simp [intOf]; omega
    · by_cases hke : k = l.length
      · subst hke
        rw [Nat.min_self] at HA
        have HA2 : Hid (Wr l acc j (min (l.length + 1) l.length)) := by rw [Nat.min_eq_right (by omega)]; exact HA.out
        have cl := fun w h => look_empty G w h
        rw [show toB [] = ByteArray.empty from rfl] at cl
        simp only [sgV] at cl
        unfold ptr at cl
        clear hm
        go_wp2_with (go_at_call 217; (with_reducible refine (cl _ hGr).mono ?_); rintro e w2 ⟨rfl, hb2⟩)
        go_roundw
        case rel => exact ⟨l.length + 1, j, nn, wnn, acc, v1, by omega, by omega, hjl, by go_num, rfl, rfl, rfl, rfl, rfl, hacc, Kr.next hb2, hor.below hb2, gen_next hGr hb2, below_next hBr hb2, HA2⟩
        case measure => simp [intOf]
      · obtain rfl : k = l.length + 1 := by omega
        rw [Nat.min_eq_right (by omega)] at HA
        have hT := wr_end HA.out
        clear hm
        have j1 : (j : Int) ≤ 1000000 := by omega
        by_cases hje : j = l.length
        · subst hje
          rw [List.drop_length, List.append_nil] at hT
          have HT := Lib.hid hT
          clear hT
          go_wp2
          go_ret2
          exact ⟨⟨_, rfl⟩, v1, Kr, by rw [HT.out]; exact hor, hBr⟩
        · have hxt : (s.extract j l.length).data.toList = l.drop j := by
            have h := ext_end s j
            rw [hz] at h
            rw [h, HS.out]
            rfl
          have hxz : (s.extract j l.length).size ≤ 1000000 := by rw [ByteArray.size_extract]; omega
          have ca := asw_any b w0.heap.size v1 acc (s.extract j l.length) wr.drew Kr hor (by omega) hBr.size
          rw [hxt, ← hT] at ca
          have hjn : ((j : Int) != (l.length : Int)) = true := by rw [bne_iff_ne]; omega
          clear hT hxt
          go_upto_region 23 with (fail)
          first
          | (go_region_with (first
              | (go_at_call 235; (with_reducible refine ca.mono ?_); rintro e w2 ⟨rfl, v2, wm, ho2, hg2, rfl⟩)))
          | (fail)
          all_goals
            go_wp2
            go_ret2
            obtain ⟨K2, hor2⟩ := wrote (w := wr.drew) Kr hor hg2 ho2
            exact ⟨⟨_, rfl⟩, v2, K2, hor2, below_write (w := wr.drew) hBr.drew hor hg2 hb⟩
end Rep
end Go.Proofs.YteopighhhcikcaaGreatDoor
/- (*strings.genericReplacer).Replace, over the four signs. Conditions: the trie lies in memory; the text is not too long. -/
namespace Go.Proofs.YteopighhhcikcaaGreatDoor
open Go.ChangeShapes Go.WideShapes Go.ChangeAt Go.RowKit
namespace Rep
/-- The writer's bytes as a text. -/
theorem asw_text {w : World} {base : Nat} {v : Value} {l : List UInt8} (h : Bys w base v l) : (convert 266 9 v).run Tryz.prog w = .ok (.string ⟨l.toArray⟩) w := by
  rcases h.2 with ⟨rfl, h0⟩ | ⟨g, cap, cur, rfl, hb, hg, hc, hm, hsz, ht⟩
  · obtain rfl : l = [] := List.eq_nil_of_length_eq_zero h0
    rw [run_convert_bytes_string w 266 9 5 none 0 0 Tryz.underlying266 Tryz.underlying5 Tryz.underlying9]
    simp [Conv.bytesToString, Sem.run_pure]
    rfl
  · refine run_convert_bytes_back w 266 9 5 ⟨g, 0, none⟩ cap l Tryz.underlying266 Tryz.underlying5 Tryz.underlying9 fun j hj => ?_
    rw [add_zero_]
    have hr := (Reads.of_own h).2 (by omega)
    obtain ⟨ad, e, _, hcc⟩ := hr
    injection e with e
    subst e
    have := hcc j (bv l[j]) (by rw [List.getElem?_map, List.getElem?_eq_getElem hj]; rfl)
    rwa [add_zero_] at this
set_option maxRecDepth 100000 in
set_option maxHeartbeats 8000000 in
theorem rep_any (l : List UInt8) (hl : l.length ≤ 1000000) (G : Nat) (w : World) (hG : GenOk w G) :
    Calls Tryz.prog 214 #[ptr G, .string (toB l)] w fun e w' => e = .returned (.string (toB (tellL l))) ∧ Below w.heap.size w w' := by
  obtain ⟨i0, hi0, hz0, hz1, hz2⟩ := info_parts u8_info
  have hz : (toB l).size = l.length := toB_size l
  obtain ⟨w1, hrun, hown, hg⟩ := run_make_own (P := Tryz.prog) (w := w) w.heap.size 266 5 i0 _ 1 Tryz.underlying266 hi0 hz0 hz1 .i64 .i64 l.length (by rw [hz2]; omega) (by simp only [maxLen]; omega) (Nat.le_refl _)
  have hB1 : Below w.heap.size w w1 := (Below.refl _ _).grown hg (Nat.le_refl _) (fun k hk => by cases hk)
  have hown1 : Bys w1 w.heap.size (.slice (some ⟨w.heap.size, 0, none⟩) 0 l.length) [] := hown
  have hG1 := gen_next hG hB1
  have K := Blk.new w1 266 #[.slice (some ⟨w.heap.size, 0, none⟩) 0 l.length]
  have cw := ws_any l hl G w1.heap.size (.slice (some ⟨w.heap.size, 0, none⟩) 0 l.length) w (w1.alloc (.cells #[.slice (some ⟨w.heap.size, 0, none⟩) 0 l.length] 266)) (gen_next hG1 (below_al (Below.refl _ _) _)) K (hown1.alloc _) hB1.size (below_al hB1 _)
  unfold ptr at *
  generalize toB l = s at *
  clear hown hi0 hz0 hz1 hz2 hG hG1 K
  go_enter Tryz.func214, Tryz.ntmps214
  go_wp2_with (go_at_call 215; (with_reducible refine cw.mono ?_); rintro e w2 ⟨⟨n, rfl⟩, v2, K2, ho2, hB2⟩
               have k2 := K2.cell 0
               obtain ⟨A2, n2, c2, rfl⟩ := bys_slice ho2
               have hcv := asw_text ho2)
  go_ret
  exact ⟨rfl, hB2⟩
end Rep
end Go.Proofs.YteopighhhcikcaaGreatDoor
namespace Go.Proofs.YteopighhhcikcaaGreatDoor
open Go.ChangeShapes Go.WideShapes Go.ChangeAt Go.RowKit
namespace Rep
theorem gen_set {w : World} {G b i : Nat} {cs : Array Value} (h : GenOk w G) (K : Blk w b 130 cs) (v : Value) : GenOk (w.setCell ⟨b, i, none⟩ v) G := by
  obtain ⟨T0, N1, A, N6, N8, hG, ⟨hT, KT, KV⟩, ⟨hA, Ka, KA, KB, KT2, KN2⟩, ⟨hN6, K6, K7⟩, ⟨hN8, K8, K9⟩⟩ := h
  have q := fun (g : Nat) (t : TypeId) (cs : Array Value) (h : Blk w g t cs) (h2 : t ≠ 130) => h.far (p := ⟨b, i, none⟩) (Blk.ne_ h K h2) v
  exact ⟨T0, N1, A, N6, N8, ⟨hG.1, q _ _ _ hG.2 (by decide)⟩, ⟨hT, q _ _ _ KT (by decide), q _ _ _ KV (by decide)⟩,
    ⟨hA, q _ _ _ Ka (by decide), q _ _ _ KA (by decide), q _ _ _ KB (by decide), q _ _ _ KT2 (by decide), q _ _ _ KN2 (by decide)⟩,
    ⟨hN6, q _ _ _ K6 (by decide), q _ _ _ K7 (by decide)⟩, ⟨hN8, q _ _ _ K8 (by decide), q _ _ _ K9 (by decide)⟩⟩
theorem method_rep (f G : Nat) (w : World) : (method (f + 1) 188 (.pointer (some ⟨G, 0, none⟩)) "Replace").run Tryz.prog w = .ok (214, .pointer (some ⟨G, 0, none⟩)) w := by kernel_rfl
set_option maxRecDepth 100000 in
set_option maxHeartbeats 8000000 in
theorem replace_tell (l : List UInt8) (hl : l.length ≤ 1000000) (w0 : World) (b q cap : Nat) (w : World) (hb : w0.heap.size ≤ b) (hB : Below w0.heap.size w0 w) (K : Blk w b 130 #[.int .u32 0, .int .i32 0, .int .u32 0, .nilIface, .slice (some ⟨q, 0, none⟩) 8 cap]) (hx : TxAt w q tellP) (hqb : ¬ q = b) :
    Calls Tryz.prog 61 #[.pointer (some ⟨b, 0, none⟩), .string (toB l)] w fun e w' => e = .returned (.string (toB (tellL l))) ∧ Below w0.heap.size w0 w' := by
  have cd := Once.do_first b .nilIface (.slice (some ⟨q, 0, none⟩) 8 cap) (TellR w0) w K (fun W hK hW => by
    subst hW
    exact once_tell w0 b q cap _ hb (below_set hB (p := ⟨b, 1, none⟩) hb _) hK (hx.far (p := ⟨b, 1, none⟩) hqb _))
  have hme : ∀ G w, (method 383 188 (.pointer (some ⟨G, 0, none⟩)) "Replace").run Tryz.prog w = .ok (214, .pointer (some ⟨G, 0, none⟩)) w := fun G w => method_rep 382 G w
  have hmf : ∀ (fn : Fn) (first cap : Array Value) (w : World), (Instr.makeFunc fn first cap).run Tryz.prog w = .ok (.func fn first cap) w := fun _ _ _ _ => rfl
  have cr := fun G w h => rep_any l hl G w h
  unfold ptr at cr
  generalize toB l = s at *
  clear hx
  go_enter Tryz.func61, Tryz.ntmps61
  go_wp2_with (first
    | (go_at_call 94; (with_reducible refine cd.mono ?_); rintro e w2 ⟨rfl, W0, X, KX, ⟨G, rfl, hG, hB0⟩, rfl⟩
       have K1 := KX.set_ 0 (.int .u32 1)
       have k3 := KX.cell 3
       have hG2 : GenOk ((W0.setCell ⟨b, 0, none⟩ (.int .u32 1)).setCell ⟨b, 1, none⟩ (.int .i32 0)).drew G := gen_set (i := 1) (gen_set (i := 0) hG KX (.int .u32 1)) K1 (.int .i32 0)
       have hB2 : Below w0.heap.size w0 ((W0.setCell ⟨b, 0, none⟩ (.int .u32 1)).setCell ⟨b, 1, none⟩ (.int .i32 0)).drew := (below_set (below_set hB0 (p := ⟨b, 0, none⟩) hb (.int .u32 1)) (p := ⟨b, 1, none⟩) hb (.int .i32 0)).drew)
    | (go_at_call 214; (with_reducible refine (cr _ _ hG2).mono ?_); rintro e w3 ⟨rfl, hb3⟩))
  go_ret
  exact ⟨rfl, below_next hB2 hb3⟩
theorem tx_new (w : World) (l : List (List UInt8)) (t : TypeId) : TxAt (w.alloc (.cells (strs l).toArray t)) w.heap.size l := by
  refine ⟨by rw [size_al]; exact Nat.lt_succ_self _, fun j x hj => ?_⟩
  refine ((Blk.new w t (strs l).toArray).cell j).trans ?_
  simpa using hj
set_option maxRecDepth 100000 in
set_option maxHeartbeats 8000000 in
/-- Tell answers what the four signs tell. -/
theorem tell_any (l : List UInt8) (hl : l.length ≤ 1000000) (w : World) : Calls Tryz.prog 22 #[.string (toB l)] w fun e w' => e = .returned (.string (toB (tellL l))) ∧ Below w.heap.size w w' := by
  have hT := tx_new w tellP 9
  have hB := below_al (Below.refl w.heap.size w) (.cells (strs tellP).toArray 9)
  have cn := new_any tellP (by decide) (by decide) (by decide) w.heap.size 8 (w.alloc (.cells (strs tellP).toArray 9)) hT
  have hz := size_al w (.cells (strs tellP).toArray 9)
  have cr := fun b q cap W hb hB K hx hqb => replace_tell l hl w b q cap W hb hB K hx hqb
  generalize toB l = s at *
  go_enter Tryz.func22, Tryz.ntmps22
  go_wp2_with (first
    | (go_at_call 60; (refine cn.mono ?_); rintro e w2 ⟨q, b, cap, rfl, K2, hx2, hqb, hq, hb, hb2⟩
       have hB2 := below_next hB hb2
       have hb3 : w.heap.size ≤ b := by omega
       have K3 : Blk w2 b 130 #[.int .u32 0, .int .i32 0, .int .u32 0, .nilIface, .slice (some ⟨q, 0, none⟩) 8 cap] := K2)
    | (go_at_call 61; (with_reducible refine (cr b q cap _ hb3 hB2 K3 hx2 hqb).mono ?_); rintro e w3 ⟨rfl, hB3⟩))
  go_ret
  exact ⟨rfl, hB3⟩
end Rep
end Go.Proofs.YteopighhhcikcaaGreatDoor
