/- What the landed package flex's (*sharer).shares answers, over the closure of grow. Conditions: a sharer lies in memory, of 100 items at most, each of which counts as it is. -/
import Derived.Test.YtnjnkcjhhgffjaaFlexD
import Derived.Test.YtnjnkcjhhgffjaaFxPart
import Derived.Test.YtnjnkcjhhgffjaaFlexMathB
namespace Go.Proofs.Ytnjnkcjhhgffjaa
open Go.ChangeShapes Go.WideShapes Go.ChangeAt Go.RowKit
set_option maxHeartbeats 16000000 in
set_option maxRecDepth 100000 in
theorem shares_grow {g : Nat} {c : Bool} {A : Option Addr} {n cI : Nat} {room : Int} {gz gf : Nat} {L : List FIt} {Z : List Int} {F : List Bool} (E : Nat) (all : Int) (w : World) (h : ShS w g c A n cI room gz gf L Z F) (hn : n ≤ 100) (hfit : ∀ x ∈ L, x.fit) (hE : E ≤ g) (hEw : E ≤ w.heap.size) :
    Calls Try.prog 72 #[.pointer (some ⟨g, 0, none⟩), .int .i64 all, .func (.func 74) #[] #[]] w fun e w' => ∃ gs : Nat, e = .returned (.slice (some ⟨gs, 0, none⟩) n n) ∧
      ShS w' g (c || !shareOkF all (allF FIt.g (L.zip F)) FIt.g (L.zip F)) A n cI room gz gf L Z F ∧ Blk w' gs 2 (ints ((L.zip F).map (shareF all (allF FIt.g (L.zip F)) FIt.g))) ∧ w.heap.size ≤ gs ∧ Below E w w' := by
  have HLl := Lib.hid h.len
  have HFl := Lib.hid h.lf
  have g0 := h.hG.cell 0
  have g1 := h.hG.cell 1
  have mk1 := make_ints n hn
  go_enter Try.func72, Try.ntmps72
  go_wp2
  clear g0 g1
  go_loopw [18, 7] (fun i s wr => ∃ (k : Nat), k ≤ n ∧ i = .int .i64 k ∧ s = .int .i64 (weighF FIt.g ((L.zip F).take k)) ∧ Below w.heap.size w wr) (fun i _ _ => n - (intOf i).toNat)
  case atStart => exact ⟨0, Nat.zero_le _, rfl, rfl, Below.refl _ _⟩
  case round =>
    obtain ⟨k, hk, rfl, rfl, hBr⟩ := hrel
    have hr := h.next hBr
    by_cases hlt : k < n
    · obtain ⟨x, hx⟩ : ∃ x, L[k]? = some x := ⟨L[k]'(by rw [HLl.out]; exact hlt), List.getElem?_eq_getElem _⟩
      obtain ⟨b, hbk⟩ : ∃ b, F[k]? = some b := ⟨F[k]'(by rw [HFl.out]; exact hlt), List.getElem?_eq_getElem _⟩
      have HT := Lib.hid (weigh_snoc FIt.g (zip_at hx hbk))
      have hw0 := weigh_bd (f := FIt.g) (P := (L.zip F).take k) (fun p hp => (hfit _ (List.of_mem_zip (List.mem_of_mem_take hp)).1).fg)
      have hl1 : ((L.zip F).take k).length ≤ k := List.length_take_le _ _
      have hxf := (hfit _ (List.mem_of_getElem? hx)).fg
      obtain ⟨ad, rfl, hab, e0, e1, e2, e3⟩ := it_of hr.hI.reads hx
      have g4 : wr.cell? ⟨g, 4, none⟩ = some (.slice (some ⟨gf, 0, none⟩) n n) := hr.hG.cell 4
      have gfk := (hr.hF.cell k).trans (bools_at hbk)
      have zf := hr.hF.lt
      have zg := hr.hG.lt
      have n4 : g ≠ wr.heap.size := Nat.ne_of_lt zg
      have n5 : gf ≠ wr.heap.size := Nat.ne_of_lt zf
      have hle := hBr.size
      have ik0 : (0 : Int) ≤ (k : Int) := Int.natCast_nonneg _
      have ik1 : (k : Int) < (n : Int) := by omega
      have kn := (Int.toNat_natCast k)
      obtain ⟨xb, xe, xg, xs⟩ := x
      simp only at e0 e1 e2 e3 HT hxf
      have cc := fun w => growc_any ⟨xb, xe, xg, xs⟩ w
      simp only at cc
      have hBa := below_al hBr (.cells #[.int .i64 xb, .int .i64 xe, .int .i64 xg, .int .i64 xs] 61)
      have hW1 : 0 ≤ weighF FIt.g ((L.zip F).take k) := hw0.1
      have hW2 : weighF FIt.g ((L.zip F).take k) ≤ 640000 := by omega
      clear hx hab hw0 hl1 hfit
      generalize weighF FIt.g ((L.zip F).take k) = W at *
      cases b
      · go_wp2_with (go_at_call 74; (with_reducible refine (cc _).mono ?_); rintro e w' ⟨rfl, rfl⟩)
        go_roundw
        case rel => exact ⟨k + 1, by omega, by go_num, by rw [HT.out]; rfl, below_al hBa _⟩
        case measure => simp [intOf]; omega
      · go_wp2
        go_roundw
        case rel => exact ⟨k + 1, by omega, by go_num, by rw [HT.out]; simp, hBa⟩
        case measure => simp [intOf]; omega
    · obtain rfl : k = n := by omega
      have hzl : (L.zip F).length = k := by rw [List.length_zip, HLl.out, HFl.out, Nat.min_self]
      have htk : (L.zip F).take k = L.zip F := List.take_of_length_le (by omega)
      rw [htk]
      have HZl := Lib.hid hzl
      clear hzl htk hlt
      have g1 := hr.hG.cell 1
      have q1 := (hr.alloc (.cells (ints (List.replicate k 0)) 2)).hG.cell 1
      have HD := Lib.hid (show max (weighF FIt.g (L.zip F)) 64 = allF FIt.g (L.zip F) from rfl)
      have hz := weigh_bd (f := FIt.g) (P := L.zip F) (fun p hp => (hfit _ (List.of_mem_zip hp).1).fg)
      have hW1 : 0 ≤ weighF FIt.g (L.zip F) := hz.1
      have hW2 : weighF FIt.g (L.zip F) ≤ 640000 := by have := hz.2; rw [HZl.out] at this; omega
      clear hz
      generalize weighF FIt.g (L.zip F) = W at *
      go_wp2
      clear g1 q1
      have h1 := hr.alloc (.cells (ints (List.replicate k 0)) 2)
      have hS0 := Blk.new wr 2 (ints (List.replicate k 0))
      have hB1 := (below_al hBr (.cells (ints (List.replicate k 0)) 2)).mono hEw
      have hsz := hBr.size
      generalize hgs : wr.heap.size = gs at *
      have hgsz : wr.heap.size < (wr.alloc (.cells (ints (List.replicate k 0)) 2)).heap.size := by rw [size_al]; exact Nat.lt_succ_self _
      have hgs0 : gs ≠ gz := by rw [← hgs]; exact Nat.ne_of_gt hr.hZ.lt
      rw [hgs] at hgsz
      generalize wr.alloc (.cells (ints (List.replicate k 0)) 2) = w1 at *
      clear hr hBr hgs
      go_loopw [48] (fun i ws => ∃ (j : Nat), j ≤ k ∧ i = .int .i64 j ∧ ShS ws g (c || !shareOkF all (max W 64) FIt.g ((L.zip F).take j)) A k cI room gz gf L Z F ∧ Blk ws gs 2 (ints (((L.zip F).take j).map (shareF all (max W 64) FIt.g) ++ List.replicate (k - j) 0)) ∧ Below E w ws) (fun i _ => k - (intOf i).toNat)
      case atStart => exact ⟨0, Nat.zero_le _, rfl, by simpa [shareOkF] using h1, by simpa using hS0, hB1⟩
      case round =>
        obtain ⟨j, hj, rfl, hr, hS, hBr⟩ := hrel
        clear h1 hS0 hB1 hgsz
        rename World => ws
        have hle := hBr.size
        by_cases hlt : j < k
        · obtain ⟨x, hx⟩ : ∃ x, L[j]? = some x := ⟨L[j]'(by rw [HLl.out]; exact hlt), List.getElem?_eq_getElem _⟩
          obtain ⟨b, hbk⟩ : ∃ b, F[j]? = some b := ⟨F[j]'(by rw [HFl.out]; exact hlt), List.getElem?_eq_getElem _⟩
          have HO := Lib.hid (shareOk_snoc all (max W 64) FIt.g (zip_at hx hbk))
          have HM := Lib.hid (map_snoc (shareF all (max W 64) FIt.g) (zip_at hx hbk))
          have HJ := Lib.hid (show (((L.zip F).take j).map (shareF all (max W 64) FIt.g)).length = j by rw [List.length_map, List.length_take, HZl.out]; omega)
          have HR := Lib.hid (show List.replicate (k - j) (0 : Int) = List.replicate (k - (j + 1) + 1) 0 by congr 1; omega)
          obtain ⟨ad, rfl, hab, e0, e1, e2, e3⟩ := it_of hr.hI.reads hx
          have g4 : ws.cell? ⟨g, 4, none⟩ = some (.slice (some ⟨gf, 0, none⟩) k k) := hr.hG.cell 4
          have gfk := (hr.hF.cell j).trans (bools_at hbk)
          have zf := hr.hF.lt
          have zg := hr.hG.lt
          have zs := hS.lt
          have n4 : g ≠ ws.heap.size := Nat.ne_of_lt zg
          have n5 : gf ≠ ws.heap.size := Nat.ne_of_lt zf
          have n6 : gs ≠ ws.heap.size := Nat.ne_of_lt zs
          have ik0 : (0 : Int) ≤ (j : Int) := Int.natCast_nonneg _
          have ik1 : (j : Int) < (k : Int) := by omega
          have kn := (Int.toNat_natCast j)
          have ngs : gs ≠ g := hS.ne_ hr.hG (by decide)
          obtain ⟨xb, xe, xg, xs⟩ := x
          simp only at e0 e1 e2 e3 HO HM
          have hra := hr.alloc (.cells #[.int .i64 xb, .int .i64 xe, .int .i64 xg, .int .i64 xs] 61)
          have hSa := hS.alloc (.cells #[.int .i64 xb, .int .i64 xe, .int .i64 xg, .int .i64 xs] 61)
          have hBa := hBr.alloc (Nat.le_trans hEw hle) (.cells #[.int .i64 xb, .int .i64 xe, .int .i64 xg, .int .i64 xs] 61)
          have Kx := Blk.new ws 61 #[.int .i64 xb, .int .i64 xe, .int .i64 xg, .int .i64 xs]
          clear hx hab hfit
          generalize ((L.zip F).take j).map (shareF all (max W 64) FIt.g) = Y at *
          generalize shareOkF all (max W 64) FIt.g ((L.zip F).take j) = o0 at *
          cases b
          · have cc := fun w => growc_any ⟨xb, xe, xg, xs⟩ w
            simp only at cc
            have pp := fun w => part_any all (FIt.g ⟨xb, xe, xg, xs⟩) (max W 64) w
            simp only at pp
            have nxg : ws.heap.size ≠ g := Ne.symm n4
            have nxs : ws.heap.size ≠ gs := Ne.symm n6
            have HV := Lib.hid (show shareF all (max W 64) FIt.g (⟨xb, xe, xg, xs⟩, false) = part2 all (FIt.g ⟨xb, xe, xg, xs⟩) (max W 64) from rfl)
            simp only at HV HO
            generalize part2 all xg (max W 64) = p1 at *
            generalize partOk all xg (max W 64) = p2 at *
            have HC := Lib.hid (show (ints (Y ++ List.replicate (k - j) 0))[j]? = some (.int .i64 0) from ints_at (by rw [HR.out, List.getElem?_append_right (by rw [HJ.out]; exact Nat.le_refl _), HJ.out, Nat.sub_self]; rfl))
            clear h
            go_wp2
            go_region_held3 (fun W' => W'.cell? ⟨ws.heap.size, 0, none⟩ = some (.int .i64 xb) ∧ W'.cell? ⟨ws.heap.size, 1, none⟩ = some (.int .i64 xe) ∧ W'.cell? ⟨ws.heap.size, 2, none⟩ = some (.int .i64 xg) ∧ W'.cell? ⟨ws.heap.size, 3, none⟩ = some (.int .i64 xs))
              (first | (with_reducible assumption) | exact blk4 (t := 61) (by repeat (first | (with_reducible exact Kx2) | (with_reducible exact Kx) | (with_reducible apply Blk.drew) | (with_reducible refine Blk.alloc ?_ _) | (with_reducible refine Blk.far ?_ (by first | exact nxg | exact nxs) _))))
              (first
                | (go_at_call 74; (with_reducible refine (cc _).mono ?_); rintro e w1 ⟨rfl, rfl⟩)
                | (go_at_call 37; (with_reducible refine (pp _).mono ?_); rintro e w2 ⟨rfl, hb⟩
                   have h2 := ShS.next (by first | exact hra.drew.alloc _ | exact (hra.alloc _).drew) hb
                   have hS2 := Blk.next (by first | exact hSa.drew.alloc _ | exact (hSa.alloc _).drew) hb
                   have Kx2 := Blk.next (by first | exact Kx.drew.alloc _ | exact (Kx.alloc _).drew) hb
                   have hb2 := hb)
                | (go_at_call 49; (with_reducible refine (number_any g p1 p2 (c || !o0) _ (h2.hG.cell 0) (h2.hG.frozen 0)).mono ?_); rintro e w3 ⟨rfl, rfl⟩
                   have hS3 := hS2.far (p := ⟨g, 0, none⟩) ngs (.bool ((c || !o0) || !p2))
                   have f3 := hS3.frozen j
                   have c3 := (hS3.cell j).trans HC.out))
            all_goals
              have h3 := (h2.cut ((c || !o0) || !p2)).farI (p := ⟨gs, j, none⟩) hS3 hgs0 (.int .i64 p1)
              have hS4 := hS3.set_ j (.int .i64 p1)
              have hB4 := ((Below.trans (show Below E w _ from (by first | exact ((hBa.drew).alloc (by show E ≤ (ws.alloc _).heap.size; rw [size_al]; omega) _) | exact (hBa.alloc (by rw [size_al]; omega) _).drew)) (hb2.mono (by simp only [size_al, World.drew]; omega))).setCell (p := ⟨g, 0, none⟩) hE (.bool ((c || !o0) || !p2))).setCell (p := ⟨gs, j, none⟩) (Nat.le_trans hEw hsz) (.int .i64 p1)
              go_wp2
              go_roundw
              case rel =>
                refine ⟨j + 1, by omega, by go_num, ?_, ?_, hB4⟩
                · have e : (c || !(o0 && (false || p2))) = ((c || !o0) || !p2) := by rw [Bool.false_or, Bool.not_and, Bool.or_assoc]
                  rw [HO.out, e]
                  exact h3
                · rw [HM.out, HV.out]
                  rw [ints_set, HR.out] at hS4
                  have e := fill_next Y p1 0 (k - (j + 1))
                  rw [HJ.out] at e
                  rw [e] at hS4
                  exact hS4
              case measure => simp [intOf]; omega
          · go_wp2
            go_roundw
            case rel =>
              refine ⟨j + 1, by omega, by go_num, ?_, ?_, hBa⟩
              · rw [HO.out, Bool.true_or, Bool.and_true]; exact hra
              · rw [HM.out]
                have e : shareF all (max W 64) FIt.g (⟨xb, xe, xg, xs⟩, true) = 0 := rfl
                rw [e, List.append_assoc, List.singleton_append, ← List.replicate_succ, ← HR.out]
                exact hSa
            case measure => simp [intOf]; omega
        · obtain rfl : j = k := by omega
          have htk : (L.zip F).take j = L.zip F := List.take_of_length_le (by rw [HZl.out]; omega)
          rw [htk] at hr hS
          go_wp2
          go_ret
          refine ⟨gs, rfl, by rw [← HD.out]; exact hr, ?_, hsz, hBr⟩
          rw [← HD.out]
          simpa using hS
end Go.Proofs.Ytnjnkcjhhgffjaa
