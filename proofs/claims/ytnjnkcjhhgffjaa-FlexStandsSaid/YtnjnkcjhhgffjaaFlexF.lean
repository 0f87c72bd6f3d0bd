/- What the landed package flex's (*sharer).grow answers. Conditions: a sharer lies in memory, of 100 items at most, each of which counts as it is; what is frozen has the size 0. -/
import Derived.Test.YtnjnkcjhhgffjaaFlexE
import Derived.Test.YtnjnkcjhhgffjaaFxAdd
import Derived.Deep.CutBlock
namespace Go.Proofs.Ytnjnkcjhhgffjaa
open Go.ChangeShapes Go.WideShapes Go.ChangeAt Go.RowKit
theorem drop_at {α : Type} (a l : List α) {j : Nat} (h : a.length = j) : (a ++ l.drop j)[j]? = l[j]? := by
  rw [List.getElem?_append_right (by omega), h, Nat.sub_self, List.getElem?_drop]; simp
theorem drop_set {α : Type} (a l : List α) {j : Nat} (v : α) (h : a.length = j) (hj : j < l.length) : (a ++ l.drop j).set j v = (a ++ [v]) ++ l.drop (j + 1) := by
  subst h
  rw [List.set_append_right _ _ (Nat.le_refl _), Nat.sub_self, List.drop_eq_getElem_cons hj, List.set_cons_zero, List.append_assoc]
  rfl
theorem drop_same {α : Type} (a l : List α) {j : Nat} {v : α} (hv : l[j]? = some v) : (a ++ [v]) ++ l.drop (j + 1) = a ++ l.drop j := by
  obtain ⟨hj, rfl⟩ := List.getElem?_eq_some_iff.1 hv
  rw [List.drop_eq_getElem_cons hj, List.append_assoc]
  rfl
theorem growOk_snoc (all D : Int) {P : List FP} {k : Nat} {p : FP} (h : P[k]? = some p) : growOk all D (P.take (k + 1)) = (growOk all D (P.take k) && (p.2 || addOk p.1.b (shareF all D FIt.g p))) := by
  rw [List.take_add_one, h]; unfold growOk; rw [List.all_append]; simp
theorem growF_false (all D : Int) (x : FIt) : growF all D (x, false) = add2 x.b (shareF all D FIt.g (x, false)) := by unfold growF; exact if_neg Bool.false_ne_true
theorem growF_true (all D : Int) (x : FIt) : growF all D (x, true) = 0 := by unfold growF; exact if_pos rfl
theorem size_set (w : World) (p : Addr) (v : Value) : (w.setCell p v).heap.size = w.heap.size := by simp [World.setCell]
set_option maxHeartbeats 16000000 in
set_option maxRecDepth 100000 in
theorem grow_any {g : Nat} {c : Bool} {A : Option Addr} {n cI : Nat} {room : Int} {gz gf : Nat} {L : List FIt} {Z : List Int} {F : List Bool} (E : Nat) (all : Int) (w : World) (h : ShS w g c A n cI room gz gf L Z F) (hn : n ≤ 100) (hfit : ∀ x ∈ L, x.fit) (hZF : ∀ k : Nat, F[k]? = some true → Z[k]? = some 0) (hE : E ≤ g) (hEz : E ≤ gz) (hEw : E ≤ w.heap.size) :
    Calls Try.prog 65 #[.pointer (some ⟨g, 0, none⟩), .int .i64 all] w fun e w' => e = .returned (.tuple #[]) ∧
      ShS w' g ((c || !shareOkF all (allF FIt.g (L.zip F)) FIt.g (L.zip F)) || !growOk all (allF FIt.g (L.zip F)) (L.zip F)) A n cI room gz gf L ((L.zip F).map (growF all (allF FIt.g (L.zip F)))) F ∧ Below E w w' := by
  have HLl := Lib.hid h.len
  have HFl := Lib.hid h.lf
  have HZF := Lib.hid hZF
  have HZl := Lib.hid h.lz
  have HPl := Lib.hid (show (L.zip F).length = n by rw [List.length_zip, h.len, h.lf, Nat.min_self])
  have cS := shares_grow E all w h hn hfit hE hEw
  clear hZF hfit
  generalize hD : allF FIt.g (L.zip F) = D at *
  generalize shareOkF all D FIt.g (L.zip F) = so at *
  clear hD
  go_enter Try.func65, Try.ntmps65
  go_wp2_with (go_at_call 72; (with_reducible refine cS.mono ?_); rintro e w1 ⟨gs, rfl, h1, hS1, hgs, hB1⟩
               have g1 : w1.cell? ⟨g, 1, none⟩ = some (.slice A n cI) := h1.hG.cell 1)
  clear g1 cS
  have hgz : gs ≠ gz := Nat.ne_of_gt (Nat.lt_of_lt_of_le h.hZ.lt hgs)
  have hz1 := hB1.size
  clear h
  go_loopw [15] (fun i ws => ∃ (j : Nat), j ≤ n ∧ i = .int .i64 j ∧ ShS ws g ((c || !so) || !growOk all D ((L.zip F).take j)) A n cI room gz gf L (((L.zip F).take j).map (growF all D) ++ Z.drop j) F ∧ Blk ws gs 2 (ints ((L.zip F).map (shareF all D FIt.g))) ∧ Below E w ws) (fun i _ => n - (intOf i).toNat)
  case atStart => exact ⟨0, Nat.zero_le _, rfl, by simpa [growOk] using h1, hS1, hB1⟩
  case round =>
    obtain ⟨j, hj, rfl, hr, hS, hBr⟩ := hrel
    clear h1 hS1 hB1
    rename World => ws
    have hle := hBr.size
    by_cases hlt : j < n
    · obtain ⟨x, hx⟩ : ∃ x, L[j]? = some x := ⟨L[j]'(by rw [HLl.out]; exact hlt), List.getElem?_eq_getElem _⟩
      obtain ⟨b, hbk⟩ : ∃ b, F[j]? = some b := ⟨F[j]'(by rw [HFl.out]; exact hlt), List.getElem?_eq_getElem _⟩
      have HO := Lib.hid (growOk_snoc all D (zip_at hx hbk))
      have HM := Lib.hid (map_snoc (growF all D) (zip_at hx hbk))
      have HJ := Lib.hid (show (((L.zip F).take j).map (growF all D)).length = j by rw [List.length_map, List.length_take, HPl.out]; omega)
      have HS := Lib.hid (show (ints ((L.zip F).map (shareF all D FIt.g)))[j]? = some (.int .i64 (shareF all D FIt.g (x, b))) from ints_at (by rw [List.getElem?_map, zip_at hx hbk]; rfl))
      obtain ⟨z, hz⟩ : ∃ z, Z[j]? = some z := ⟨Z[j]'(by rw [HZl.out]; exact hlt), List.getElem?_eq_getElem _⟩
      obtain ⟨ad, rfl, hab, e0, e1, e2, e3⟩ := it_of hr.hI.reads hx
      have g4 : ws.cell? ⟨g, 4, none⟩ = some (.slice (some ⟨gf, 0, none⟩) n n) := hr.hG.cell 4
      have gfk := (hr.hF.cell j).trans (bools_at hbk)
      have zf := hr.hF.lt
      have zg := hr.hG.lt
      have zs := hS.lt
      have zz := hr.hZ.lt
      have n4 : g ≠ ws.heap.size := Nat.ne_of_lt zg
      have n5 : gf ≠ ws.heap.size := Nat.ne_of_lt zf
      have n6 : gs ≠ ws.heap.size := Nat.ne_of_lt zs
      have n7 : gz ≠ ws.heap.size := Nat.ne_of_lt zz
      have ik0 : (0 : Int) ≤ (j : Int) := Int.natCast_nonneg _
      have ik1 : (j : Int) < (n : Int) := by omega
      have kn := (Int.toNat_natCast j)
      have ngs : gs ≠ g := hS.ne_ hr.hG (by decide)
      have ngz : gz ≠ g := hr.hZ.ne_ hr.hG (by decide)
      obtain ⟨xb, xe, xg, xs⟩ := x
      simp only at e0 e1 e2 e3 HO HM HS
      have hra := hr.alloc (.cells #[.int .i64 xb, .int .i64 xe, .int .i64 xg, .int .i64 xs] 61)
      have hSa := hS.alloc (.cells #[.int .i64 xb, .int .i64 xe, .int .i64 xg, .int .i64 xs] 61)
      have hBa := hBr.alloc (Nat.le_trans hEw hle) (.cells #[.int .i64 xb, .int .i64 xe, .int .i64 xg, .int .i64 xs] 61)
      have Kx := Blk.new ws 61 #[.int .i64 xb, .int .i64 xe, .int .i64 xg, .int .i64 xs]
      have HG := Lib.hid (show (ints (((L.zip F).take j).map (growF all D) ++ Z.drop j))[j]? = some (.int .i64 z) from ints_at (by rw [drop_at _ _ HJ.out]; exact hz))
      clear hx hab
      generalize ((L.zip F).take j).map (growF all D) = Y at *
      generalize growOk all D ((L.zip F).take j) = o0 at *
      go_upto_block 1 with (fail)
      go_cut [45] (fun _ wx => ShS wx g ((c || !so) || !(o0 && (b || addOk xb (shareF all D FIt.g (⟨xb, xe, xg, xs⟩, b))))) (some ad) n cI room gz gf L ((Y ++ [growF all D (⟨xb, xe, xg, xs⟩, b)]) ++ Z.drop (j + 1)) F ∧ Blk wx gs 2 (ints ((L.zip F).map (shareF all D FIt.g))) ∧ Below E w wx)
      case first =>
        cases b
        · have HV := Lib.hid (growF_false all D ⟨xb, xe, xg, xs⟩)
          (try simp only at HV); (try simp only at HO)
          generalize shareF all D FIt.g (⟨xb, xe, xg, xs⟩, false) = sh at *
          have aa := fun w => add_any xb sh w
          generalize add2 xb sh = p1 at *
          generalize addOk xb sh = p2 at *
          go_wp2
          have hr2 := hr.cut (((c || !so) || !o0) || !p2)
          have hSr2 := hS.far (p := ⟨g, 0, none⟩) ngs (.bool (((c || !so) || !o0) || !p2))
          have hBr2 := hBr.setCell (p := ⟨g, 0, none⟩) hE (.bool (((c || !so) || !o0) || !p2))
          have hle2 : w.heap.size ≤ (ws.setCell ⟨g, 0, none⟩ (.bool (((c || !so) || !o0) || !p2))).heap.size := hBr2.size
          have Kx2 : Blk ((ws.setCell ⟨g, 0, none⟩ (.bool (((c || !so) || !o0) || !p2))).alloc (.cells #[.int .i64 xb, .int .i64 xe, .int .i64 xg, .int .i64 xs] 61)) ws.heap.size 61 #[.int .i64 xb, .int .i64 xe, .int .i64 xg, .int .i64 xs] := blk_at (size_set _ _ _)
          have Kx3 : Blk (((ws.setCell ⟨g, 0, none⟩ (.bool (((c || !so) || !o0) || !p2))).setCell ⟨gz, j, none⟩ (.int .i64 p1)).alloc (.cells #[.int .i64 xb, .int .i64 xe, .int .i64 xg, .int .i64 xs] 61)) ws.heap.size 61 #[.int .i64 xb, .int .i64 xe, .int .i64 xg, .int .i64 xs] := blk_at (by rw [size_set, size_set])
          have z2 : ((ws.setCell ⟨g, 0, none⟩ (.bool (((c || !so) || !o0) || !p2))).alloc (.cells #[.int .i64 xb, .int .i64 xe, .int .i64 xg, .int .i64 xs] 61)).drew.cell? ⟨gz, j, none⟩ = some (.int .i64 z) := ((hr2.hZ.alloc (.cells #[.int .i64 xb, .int .i64 xe, .int .i64 xg, .int .i64 xs] 61)).cell j).trans HG.out
          have f2 : ((ws.setCell ⟨g, 0, none⟩ (.bool (((c || !so) || !o0) || !p2))).alloc (.cells #[.int .i64 xb, .int .i64 xe, .int .i64 xg, .int .i64 xs] 61)).drew.frozen? ⟨gz, j, none⟩ = false := (hr2.hZ.alloc (.cells #[.int .i64 xb, .int .i64 xe, .int .i64 xg, .int .i64 xs] 61)).frozen j
          have hk : ∀ w', (∃ b, Blk w' g 82 #[.bool b, .slice (some ad) n cI, .int .i64 room, .slice (some ⟨gz, 0, none⟩) n n, .slice (some ⟨gf, 0, none⟩) n n]) →
              Blk w' ws.heap.size 61 #[.int .i64 xb, .int .i64 xe, .int .i64 xg, .int .i64 xs] → Blk w' gs 2 (ints ((L.zip F).map (shareF all D FIt.g))) →
              w'.cell? ⟨g, 3, none⟩ = some (.slice (some ⟨gz, 0, none⟩) n n) ∧ w'.cell? ⟨ws.heap.size, 0, none⟩ = some (.int .i64 xb) ∧ w'.cell? ⟨gs, j, none⟩ = some (.int .i64 sh) := fun w' ⟨_, a⟩ b d => ⟨a.cell 3, b.cell 0, (d.cell j).trans HS.out⟩
          have k1 := hk _ ⟨_, hra.hG.drew⟩ Kx.drew hSa.drew
          have k2 := hk _ ⟨_, (hr2.hG.alloc (.cells #[.int .i64 xb, .int .i64 xe, .int .i64 xg, .int .i64 xs] 61)).drew⟩ Kx2.drew (hSr2.alloc (.cells #[.int .i64 xb, .int .i64 xe, .int .i64 xg, .int .i64 xs] 61)).drew
          have k3 := hk _ ⟨_, ((hr2.hG.far (p := ⟨gz, j, none⟩) (Ne.symm ngz) (.int .i64 p1)).alloc (.cells #[.int .i64 xb, .int .i64 xe, .int .i64 xg, .int .i64 xs] 61)).drew⟩ Kx3.drew ((hSr2.far (p := ⟨gz, j, none⟩) hgz (.int .i64 p1)).alloc (.cells #[.int .i64 xb, .int .i64 xe, .int .i64 xg, .int .i64 xs] 61)).drew
          clear hk
          go_region_held3 (fun W' => W'.cell? ⟨g, 3, none⟩ = some (.slice (some ⟨gz, 0, none⟩) n n) ∧ W'.cell? ⟨ws.heap.size, 0, none⟩ = some (.int .i64 xb) ∧ W'.cell? ⟨gs, j, none⟩ = some (.int .i64 sh))
            (first | (with_reducible exact k1) | (with_reducible exact k2) | (with_reducible exact k3))
            (first
              | (go_at_call 39; (with_reducible refine (aa _).mono ?_); rintro e w2 ⟨rfl, rfl⟩)
              | (go_at_call 49; (with_reducible refine (number_any g p1 p2 ((c || !so) || !o0) _ (hra.drew.hG.cell 0) (hra.drew.hG.frozen 0)).mono ?_); rintro e w3 ⟨rfl, rfl⟩))
          all_goals
            have h3 := (hr2.hG.far (p := ⟨gz, j, none⟩) (Ne.symm ngz) (.int .i64 p1)).alloc (.cells #[.int .i64 xb, .int .i64 xe, .int .i64 xg, .int .i64 xs] 61)
            have hZ3 := (hr2.hZ.set_ j (.int .i64 p1)).alloc (.cells #[.int .i64 xb, .int .i64 xe, .int .i64 xg, .int .i64 xs] 61)
            have hF3 := (hr2.hF.far (p := ⟨gz, j, none⟩) (hr2.hF.ne_ hr2.hZ (by decide)) (.int .i64 p1)).alloc (.cells #[.int .i64 xb, .int .i64 xe, .int .i64 xg, .int .i64 xs] 61)
            have hI3 := (hr2.hI.far (p := ⟨gz, j, none⟩) hr2.hZ (by decide) (.int .i64 p1)).alloc (.cells #[.int .i64 xb, .int .i64 xe, .int .i64 xg, .int .i64 xs] 61)
            have hS3 := (hSr2.far (p := ⟨gz, j, none⟩) hgz (.int .i64 p1)).alloc (.cells #[.int .i64 xb, .int .i64 xe, .int .i64 xg, .int .i64 xs] 61)
            have hB3 := (hBr2.setCell (p := ⟨gz, j, none⟩) hEz (.int .i64 p1)).alloc (by rw [size_set]; exact Nat.le_trans hEw hle2) (.cells #[.int .i64 xb, .int .i64 xe, .int .i64 xg, .int .i64 xs] 61)
            rw [ints_set, drop_set _ _ _ HJ.out (by rw [HZl.out]; exact hlt)] at hZ3
            clear k1 k2 k3 z2 f2
            go_wp2
            go_meet
            have e : ((c || !so) || !(o0 && (false || p2))) = (((c || !so) || !o0) || !p2) := by rw [Bool.false_or, Bool.not_and, Bool.or_assoc, Bool.or_assoc, Bool.or_assoc]
            rw [e, HV.out]
            exact ⟨ShS.drew ⟨h3, hI3, hZ3, hF3, by rw [List.length_append, List.length_append, List.length_singleton, HJ.out, List.length_drop, HZl.out]; omega, hr.lf⟩, hS3.drew, hB3.drew⟩
        · have e0 : z = 0 := by have := HZF.out j hbk; rw [hz] at this; injection this
          go_wp2
          go_meet
          have e : growF all D (⟨xb, xe, xg, xs⟩, true) = z := by rw [e0, growF_true]
          rw [e, drop_same _ _ hz, Bool.true_or, Bool.and_true]
          exact ⟨hra, hSa, hBa⟩
      case rest =>
        obtain ⟨q1, q2, q3⟩ := hcut
        clear hSa hra hBa
        go_wp2
        go_roundw
        case rel =>
          have q : ShS wc g ((c || !so) || !growOk all D ((L.zip F).take (j + 1))) (some ad) n cI room gz gf L (((L.zip F).take (j + 1)).map (growF all D) ++ Z.drop (j + 1)) F := by
            rw [HO.out, HM.out]
            exact q1
          exact ⟨j + 1, by omega, by go_num, q, q2, q3⟩
        case measure => simp [intOf]; omega
    · obtain rfl : j = n := by omega
      have htk : (L.zip F).take j = L.zip F := List.take_of_length_le (by rw [HPl.out]; omega)
      rw [htk, List.drop_of_length_le (by rw [HZl.out]; omega), List.append_nil] at hr
      go_wp2
      go_end0
      exact ⟨rfl, hr, hBr⟩
end Go.Proofs.Ytnjnkcjhhgffjaa
