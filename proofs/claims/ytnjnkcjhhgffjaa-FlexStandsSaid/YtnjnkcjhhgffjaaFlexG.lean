/- What the landed package flex's (*sharer).shrink answers. Conditions: a sharer lies in memory, of 100 items at most, each of which counts as it is; what is frozen has the size 0. -/
import Derived.Test.YtnjnkcjhhgffjaaFlexF
import Derived.Test.YtnjnkcjhhgffjaaFlexE2
namespace Go.Proofs.Ytnjnkcjhhgffjaa
open Go.ChangeShapes Go.WideShapes Go.ChangeAt Go.RowKit
theorem lessOk_snoc (all D : Int) {P : List FP} {k : Nat} {p : FP} (h : P[k]? = some p) : lessOk all D (P.take (k + 1)) = (lessOk all D (P.take k) && (p.2 || subOk p.1.b (shareF all D FIt.s p))) := by
  rw [List.take_add_one, h]; unfold lessOk; rw [List.all_append]; simp
theorem any_snoc (all D : Int) {P : List FP} {k : Nat} {p : FP} (h : P[k]? = some p) : anyF all D (P.take (k + 1)) = (anyF all D (P.take k) || (!p.2 && decide (lessF all D p < 0))) := by
  rw [List.take_add_one, h]; unfold anyF; rw [List.any_append]; simp
theorem sizeF_false (all D : Int) (x : FIt) : sizeF all D (x, false) = max (sub2 x.b (shareF all D FIt.s (x, false))) 0 := by unfold sizeF lessF; exact if_neg Bool.false_ne_true
theorem sizeF_true (all D : Int) (x : FIt) : sizeF all D (x, true) = 0 := by unfold sizeF; exact if_pos rfl
theorem iceF_false (all D : Int) (x : FIt) : iceF all D (x, false) = decide (sub2 x.b (shareF all D FIt.s (x, false)) < 0) := by unfold iceF lessF; rw [Bool.false_or]
theorem iceF_true (all D : Int) (x : FIt) : iceF all D (x, true) = true := by unfold iceF; rw [Bool.true_or]
set_option maxHeartbeats 16000000 in
set_option maxRecDepth 100000 in
theorem shrink_any {g : Nat} {c : Bool} {A : Option Addr} {n cI : Nat} {room : Int} {gz gf : Nat} {L : List FIt} {Z : List Int} {F : List Bool} (E : Nat) (all : Int) (w : World) (h : ShS w g c A n cI room gz gf L Z F) (hn : n ≤ 100) (hfit : ∀ x ∈ L, x.fit) (hZF : ∀ k : Nat, F[k]? = some true → Z[k]? = some 0) (hE : E ≤ g) (hEz : E ≤ gz) (hEf : E ≤ gf) (hEw : E ≤ w.heap.size) :
    Calls Try.prog 64 #[.pointer (some ⟨g, 0, none⟩), .int .i64 all] w fun e w' => e = .returned (.bool (anyF all (allF FIt.s (L.zip F)) (L.zip F))) ∧
      ShS w' g ((c || !shareOkF all (allF FIt.s (L.zip F)) FIt.s (L.zip F)) || !lessOk all (allF FIt.s (L.zip F)) (L.zip F)) A n cI room gz gf L ((L.zip F).map (sizeF all (allF FIt.s (L.zip F)))) ((L.zip F).map (iceF all (allF FIt.s (L.zip F)))) ∧ Below E w w' := by
  have HLl := Lib.hid h.len
  have HFl := Lib.hid h.lf
  have HZF := Lib.hid hZF
  have HZl := Lib.hid h.lz
  have HPl := Lib.hid (show (L.zip F).length = n by rw [List.length_zip, h.len, h.lf, Nat.min_self])
  have cS := shares_shrink E all w h hn hfit hE hEw
  clear hZF hfit
  generalize hD : allF FIt.s (L.zip F) = D at *
  generalize shareOkF all D FIt.s (L.zip F) = so at *
  clear hD
  go_enter Try.func64, Try.ntmps64
  go_wp2_with (go_at_call 72; (with_reducible refine cS.mono ?_); rintro e w1 ⟨gs, rfl, h1, hS1, hgs, hB1⟩
               have g1 : w1.cell? ⟨g, 1, none⟩ = some (.slice A n cI) := h1.hG.cell 1)
  clear g1 cS
  have hgz : gs ≠ gz := Nat.ne_of_gt (Nat.lt_of_lt_of_le h.hZ.lt hgs)
  have hz1 := hB1.size
  clear h
  go_loopw [18, 6] (fun i s ws => ∃ (j : Nat), j ≤ n ∧ i = .int .i64 j ∧ s = .bool (anyF all D ((L.zip F).take j)) ∧ ShS ws g ((c || !so) || !lessOk all D ((L.zip F).take j)) A n cI room gz gf L (((L.zip F).take j).map (sizeF all D) ++ Z.drop j) (((L.zip F).take j).map (iceF all D) ++ F.drop j) ∧ Blk ws gs 2 (ints ((L.zip F).map (shareF all D FIt.s))) ∧ Below E w ws) (fun i _ _ => n - (intOf i).toNat)
  case atStart => exact ⟨0, Nat.zero_le _, rfl, rfl, by simpa [lessOk] using h1, hS1, hB1⟩
  case round =>
    obtain ⟨j, hj, rfl, rfl, hr, hS, hBr⟩ := hrel
    clear h1 hS1 hB1
    rename World => ws
    have hle := hBr.size
    by_cases hlt : j < n
    · obtain ⟨x, hx⟩ : ∃ x, L[j]? = some x := ⟨L[j]'(by rw [HLl.out]; exact hlt), List.getElem?_eq_getElem _⟩
      obtain ⟨b, hbk⟩ : ∃ b, F[j]? = some b := ⟨F[j]'(by rw [HFl.out]; exact hlt), List.getElem?_eq_getElem _⟩
      have HO := Lib.hid (lessOk_snoc all D (zip_at hx hbk))
      have HN := Lib.hid (any_snoc all D (zip_at hx hbk))
      have HM := Lib.hid (map_snoc (sizeF all D) (zip_at hx hbk))
      have HI := Lib.hid (map_snoc (iceF all D) (zip_at hx hbk))
      have HJ := Lib.hid (show (((L.zip F).take j).map (sizeF all D)).length = j by rw [List.length_map, List.length_take, HPl.out]; omega)
      have HK := Lib.hid (show (((L.zip F).take j).map (iceF all D)).length = j by rw [List.length_map, List.length_take, HPl.out]; omega)
      have HS := Lib.hid (show (ints ((L.zip F).map (shareF all D FIt.s)))[j]? = some (.int .i64 (shareF all D FIt.s (x, b))) from ints_at (by rw [List.getElem?_map, zip_at hx hbk]; rfl))
      obtain ⟨z, hz⟩ : ∃ z, Z[j]? = some z := ⟨Z[j]'(by rw [HZl.out]; exact hlt), List.getElem?_eq_getElem _⟩
      obtain ⟨ad, rfl, hab, e0, e1, e2, e3⟩ := it_of hr.hI.reads hx
      have HF := Lib.hid (show (bools (((L.zip F).take j).map (iceF all D) ++ F.drop j))[j]? = some (.bool b) from bools_at (by rw [drop_at _ _ HK.out]; exact hbk))
      have g4 : ws.cell? ⟨g, 4, none⟩ = some (.slice (some ⟨gf, 0, none⟩) n n) := hr.hG.cell 4
      have gfk := (hr.hF.cell j).trans HF.out
      have zf := hr.hF.lt
      have zg := hr.hG.lt
      have zs := hS.lt
      have zz := hr.hZ.lt
      have n4 : g ≠ ws.heap.size := Nat.ne_of_lt zg
      have n5 : gf ≠ ws.heap.size := Nat.ne_of_lt zf
      have n6 : gs ≠ ws.heap.size := Nat.ne_of_lt zs
      have n7 : gz ≠ ws.heap.size := Nat.ne_of_lt zz
      have ik0 : (0 : Int) ≤ (j : Int) := Int.natCast_nonneg _
      have ik1 : (j : Int) < (n : Int) := by omega
      have kn := (Int.toNat_natCast j)
      have ngs : gs ≠ g := hS.ne_ hr.hG (by decide)
      have ngz : gz ≠ g := hr.hZ.ne_ hr.hG (by decide)
      have ngf : gf ≠ g := hr.hF.ne_ hr.hG (by decide)
      have nzf : gz ≠ gf := hr.hZ.ne_ hr.hF (by decide)
      have nsf : gs ≠ gf := hS.ne_ hr.hF (by decide)
      obtain ⟨xb, xe, xg, xs⟩ := x
      simp only at e0 e1 e2 e3 HO HM HS HI HN
      have hra := hr.alloc (.cells #[.int .i64 xb, .int .i64 xe, .int .i64 xg, .int .i64 xs] 61)
      have hSa := hS.alloc (.cells #[.int .i64 xb, .int .i64 xe, .int .i64 xg, .int .i64 xs] 61)
      have hBa := hBr.alloc (Nat.le_trans hEw hle) (.cells #[.int .i64 xb, .int .i64 xe, .int .i64 xg, .int .i64 xs] 61)
      have Kx := Blk.new ws 61 #[.int .i64 xb, .int .i64 xe, .int .i64 xg, .int .i64 xs]
      have HG := Lib.hid (show (ints (((L.zip F).take j).map (sizeF all D) ++ Z.drop j))[j]? = some (.int .i64 z) from ints_at (by rw [drop_at _ _ HJ.out]; exact hz))
      clear hx hab
      generalize ((L.zip F).take j).map (sizeF all D) = Y at *
      generalize ((L.zip F).take j).map (iceF all D) = I at *
      generalize lessOk all D ((L.zip F).take j) = o0 at *
      generalize anyF all D ((L.zip F).take j) = a0 at *
      go_upto_block 1 with (fail)
      go_cut [6] (fun s6 wx => s6 = .bool (a0 || (!b && decide (lessF all D (⟨xb, xe, xg, xs⟩, b) < 0))) ∧ ShS wx g ((c || !so) || !(o0 && (b || subOk xb (shareF all D FIt.s (⟨xb, xe, xg, xs⟩, b))))) (some ad) n cI room gz gf L ((Y ++ [sizeF all D (⟨xb, xe, xg, xs⟩, b)]) ++ Z.drop (j + 1)) ((I ++ [iceF all D (⟨xb, xe, xg, xs⟩, b)]) ++ F.drop (j + 1)) ∧ Blk wx gs 2 (ints ((L.zip F).map (shareF all D FIt.s))) ∧ Below E w wx)
      case first =>
        cases b
        · have HV := Lib.hid (sizeF_false all D ⟨xb, xe, xg, xs⟩)
          have HW := Lib.hid (iceF_false all D ⟨xb, xe, xg, xs⟩)
          have HU := Lib.hid (show lessF all D (⟨xb, xe, xg, xs⟩, false) = sub2 xb (shareF all D FIt.s (⟨xb, xe, xg, xs⟩, false)) by unfold lessF; simp only)
          (try simp only at HV); (try simp only at HW)
          generalize shareF all D FIt.s (⟨xb, xe, xg, xs⟩, false) = sh at *
          have aa := fun w => sub_any xb sh w
          generalize sub2 xb sh = p1 at *
          generalize subOk xb sh = p2 at *
          go_wp2
          have hr2 := hr.cut (((c || !so) || !o0) || !p2)
          have hSr2 := hS.far (p := ⟨g, 0, none⟩) ngs (.bool (((c || !so) || !o0) || !p2))
          have hBr2 := hBr.setCell (p := ⟨g, 0, none⟩) hE (.bool (((c || !so) || !o0) || !p2))
          have hle2 : w.heap.size ≤ (ws.setCell ⟨g, 0, none⟩ (.bool (((c || !so) || !o0) || !p2))).heap.size := hBr2.size
          have Kx2 : Blk ((ws.setCell ⟨g, 0, none⟩ (.bool (((c || !so) || !o0) || !p2))).alloc (.cells #[.int .i64 xb, .int .i64 xe, .int .i64 xg, .int .i64 xs] 61)) ws.heap.size 61 #[.int .i64 xb, .int .i64 xe, .int .i64 xg, .int .i64 xs] := blk_at (size_set _ _ _)
          have hk : ∀ w', Blk w' ws.heap.size 61 #[.int .i64 xb, .int .i64 xe, .int .i64 xg, .int .i64 xs] → Blk w' gs 2 (ints ((L.zip F).map (shareF all D FIt.s))) →
              w'.cell? ⟨ws.heap.size, 0, none⟩ = some (.int .i64 xb) ∧ w'.cell? ⟨gs, j, none⟩ = some (.int .i64 sh) := fun w' b d => ⟨b.cell 0, (d.cell j).trans HS.out⟩
          have k1 := hk _ Kx.drew hSa.drew
          have k2 := hk _ Kx2.drew (hSr2.alloc (.cells #[.int .i64 xb, .int .i64 xe, .int .i64 xg, .int .i64 xs] 61)).drew
          clear hk
          go_region_held3 (fun W' => W'.cell? ⟨ws.heap.size, 0, none⟩ = some (.int .i64 xb) ∧ W'.cell? ⟨gs, j, none⟩ = some (.int .i64 sh))
            (first | (with_reducible exact k1) | (with_reducible exact k2))
            (first
              | (go_at_call 38; (with_reducible refine (aa _).mono ?_); rintro e w2 ⟨rfl, rfl⟩)
              | (go_at_call 49; (with_reducible refine (number_any g p1 p2 ((c || !so) || !o0) _ (hra.drew.hG.cell 0) (hra.drew.hG.frozen 0)).mono ?_); rintro e w3 ⟨rfl, rfl⟩))
          all_goals
            have hF3 := (hr2.hF.set_ j (.bool (decide (p1 < 0))))
            have hZ3 := (hr2.hZ.far (p := ⟨gf, j, none⟩) nzf (.bool (decide (p1 < 0))))
            have hG3 := (hr2.hG.far (p := ⟨gf, j, none⟩) (Ne.symm ngf) (.bool (decide (p1 < 0))))
            have hI3 := (hr2.hI.far (p := ⟨gf, j, none⟩) hr2.hF (by decide) (.bool (decide (p1 < 0))))
            have hS3 := hSr2.far (p := ⟨gf, j, none⟩) nsf (.bool (decide (p1 < 0)))
            have hB3 := hBr2.setCell (p := ⟨gf, j, none⟩) hEf (.bool (decide (p1 < 0)))
            have hF4 := (hF3.far (p := ⟨gz, j, none⟩) (Ne.symm nzf) (.int .i64 (max p1 0))).alloc (.cells #[.int .i64 xb, .int .i64 xe, .int .i64 xg, .int .i64 xs] 61)
            have hZ4 := (hZ3.set_ j (.int .i64 (max p1 0))).alloc (.cells #[.int .i64 xb, .int .i64 xe, .int .i64 xg, .int .i64 xs] 61)
            have hG4 := (hG3.far (p := ⟨gz, j, none⟩) (Ne.symm ngz) (.int .i64 (max p1 0))).alloc (.cells #[.int .i64 xb, .int .i64 xe, .int .i64 xg, .int .i64 xs] 61)
            have hI4 := (hI3.far (p := ⟨gz, j, none⟩) hZ3 (by decide) (.int .i64 (max p1 0))).alloc (.cells #[.int .i64 xb, .int .i64 xe, .int .i64 xg, .int .i64 xs] 61)
            have hS4 := (hS3.far (p := ⟨gz, j, none⟩) hgz (.int .i64 (max p1 0))).alloc (.cells #[.int .i64 xb, .int .i64 xe, .int .i64 xg, .int .i64 xs] 61)
            have hB4 := (hB3.setCell (p := ⟨gz, j, none⟩) hEz (.int .i64 (max p1 0))).alloc (by rw [size_set, size_set]; exact Nat.le_trans hEw hle2) (.cells #[.int .i64 xb, .int .i64 xe, .int .i64 xg, .int .i64 xs] 61)
            have q4 : ((ws.setCell ⟨g, 0, none⟩ (.bool (((c || !so) || !o0) || !p2))).alloc (.cells #[.int .i64 xb, .int .i64 xe, .int .i64 xg, .int .i64 xs] 61)).drew.cell? ⟨g, 4, none⟩ = some (.slice (some ⟨gf, 0, none⟩) n n) := (hr2.hG.alloc (.cells #[.int .i64 xb, .int .i64 xe, .int .i64 xg, .int .i64 xs] 61)).cell 4
            have qf : ((ws.setCell ⟨g, 0, none⟩ (.bool (((c || !so) || !o0) || !p2))).alloc (.cells #[.int .i64 xb, .int .i64 xe, .int .i64 xg, .int .i64 xs] 61)).drew.frozen? ⟨gf, j, none⟩ = false := (hr2.hF.alloc (.cells #[.int .i64 xb, .int .i64 xe, .int .i64 xg, .int .i64 xs] 61)).frozen j
            have qc : ((ws.setCell ⟨g, 0, none⟩ (.bool (((c || !so) || !o0) || !p2))).alloc (.cells #[.int .i64 xb, .int .i64 xe, .int .i64 xg, .int .i64 xs] 61)).drew.cell? ⟨gf, j, none⟩ = some (.bool false) := ((hr2.hF.alloc (.cells #[.int .i64 xb, .int .i64 xe, .int .i64 xg, .int .i64 xs] 61)).cell j).trans HF.out
            have r3 : (((ws.setCell ⟨g, 0, none⟩ (.bool (((c || !so) || !o0) || !p2))).setCell ⟨gf, j, none⟩ (.bool (decide (p1 < 0)))).alloc (.cells #[.int .i64 xb, .int .i64 xe, .int .i64 xg, .int .i64 xs] 61)).drew.cell? ⟨g, 3, none⟩ = some (.slice (some ⟨gz, 0, none⟩) n n) := (hG3.alloc (.cells #[.int .i64 xb, .int .i64 xe, .int .i64 xg, .int .i64 xs] 61)).cell 3
            have rf : (((ws.setCell ⟨g, 0, none⟩ (.bool (((c || !so) || !o0) || !p2))).setCell ⟨gf, j, none⟩ (.bool (decide (p1 < 0)))).alloc (.cells #[.int .i64 xb, .int .i64 xe, .int .i64 xg, .int .i64 xs] 61)).drew.frozen? ⟨gz, j, none⟩ = false := (hZ3.alloc (.cells #[.int .i64 xb, .int .i64 xe, .int .i64 xg, .int .i64 xs] 61)).frozen j
            have rc : (((ws.setCell ⟨g, 0, none⟩ (.bool (((c || !so) || !o0) || !p2))).setCell ⟨gf, j, none⟩ (.bool (decide (p1 < 0)))).alloc (.cells #[.int .i64 xb, .int .i64 xe, .int .i64 xg, .int .i64 xs] 61)).drew.cell? ⟨gz, j, none⟩ = some (.int .i64 z) := ((hZ3.alloc (.cells #[.int .i64 xb, .int .i64 xe, .int .i64 xg, .int .i64 xs] 61)).cell j).trans HG.out
            rw [ints_set, drop_set _ _ _ HJ.out (by rw [HZl.out]; exact hlt)] at hZ4
            rw [bools_set, drop_set _ _ _ HK.out (by rw [HFl.out]; exact hlt)] at hF4
            clear k1 k2 hr2 hSr2 hBr2 Kx2 Kx hF3 hZ3 hG3 hI3 hS3 hB3
            cases a0
            all_goals
              go_wp2
              go_meet
              have e : ((c || !so) || !(o0 && (false || p2))) = (((c || !so) || !o0) || !p2) := by rw [Bool.false_or, Bool.not_and, Bool.or_assoc, Bool.or_assoc, Bool.or_assoc]
              rw [e, HV.out, HW.out, HU.out]
              refine ⟨?_, ShS.drew ⟨hG4, hI4, hZ4, hF4, by rw [List.length_append, List.length_append, List.length_singleton, HJ.out, List.length_drop, HZl.out]; omega, by rw [List.length_append, List.length_append, List.length_singleton, HK.out, List.length_drop, HFl.out]; omega⟩, hS4.drew, hB4.drew⟩
              first | rfl | simp
        · have e0 : z = 0 := by have := HZF.out j hbk; rw [hz] at this; injection this
          go_wp2
          go_meet
          rw [sizeF_true, iceF_true, ← e0, drop_same _ _ hz, drop_same _ _ hbk, Bool.true_or, Bool.and_true, Bool.not_true, Bool.false_and, Bool.or_false]
          exact ⟨rfl, hra, hSa, hBa⟩
      case rest =>
        obtain ⟨rfl, q1, q2, q3⟩ := hcut
        clear hSa hra hBa
        go_wp2
        go_roundw
        case rel =>
          have q : ShS wc g ((c || !so) || !lessOk all D ((L.zip F).take (j + 1))) (some ad) n cI room gz gf L (((L.zip F).take (j + 1)).map (sizeF all D) ++ Z.drop (j + 1)) (((L.zip F).take (j + 1)).map (iceF all D) ++ F.drop (j + 1)) := by
            rw [HO.out, HM.out, HI.out]
            exact q1
          exact ⟨j + 1, by omega, by go_num, by rw [HN.out], q, q2, q3⟩
        case measure => simp [intOf]; omega
    · obtain rfl : j = n := by omega
      have htk : (L.zip F).take j = L.zip F := List.take_of_length_le (by rw [HPl.out]; omega)
      rw [htk, List.drop_of_length_le (by rw [HZl.out]; omega), List.drop_of_length_le (by rw [HFl.out]; omega), List.append_nil, List.append_nil] at hr
      rw [htk]
      go_wp2
      go_ret
      exact ⟨rfl, hr, hBr⟩
end Go.Proofs.Ytnjnkcjhhgffjaa
