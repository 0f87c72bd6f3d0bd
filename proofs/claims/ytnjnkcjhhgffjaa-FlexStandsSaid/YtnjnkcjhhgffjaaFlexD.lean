/- What the landed package flex's (*sharer).rest answers. Conditions: a sharer lies in memory, of 100 items at most. -/
import Derived.Test.YtnjnkcjhhgffjaaFlexC
import Derived.Test.YtnjnkcjhhgffjaaFxSum
import Derived.Test.YtnjnkcjhhgffjaaFxSub
namespace Go.Proofs.Ytnjnkcjhhgffjaa
open Go.ChangeShapes Go.WideShapes Go.ChangeAt Go.RowKit
theorem ShS.len {w : World} {g : Nat} {c : Bool} {A : Option Addr} {n cI : Nat} {room : Int} {gz gf : Nat} {L : List FIt} {Z : List Int} {F : List Bool} (h : ShS w g c A n cI room gz gf L Z F) : L.length = n := by
  have := h.hI.1; rw [flatF_len] at this; omega
theorem bools_at {l : List Bool} {k : Nat} {b : Bool} (h : l[k]? = some b) : (bools l)[k]? = some (.bool b) := by
  unfold bools; simp [h]
theorem ints_at {l : List Int} {k : Nat} {b : Int} (h : l[k]? = some b) : (ints l)[k]? = some (.int .i64 b) := by
  unfold ints; simp [h]
theorem ints_set (l : List Int) (j : Nat) (v : Int) : (ints l).setIfInBounds j (.int .i64 v) = ints (l.set j v) := by unfold ints; rw [List.setIfInBounds_toArray, List.map_set]
theorem bools_set (l : List Bool) (j : Nat) (v : Bool) : (bools l).setIfInBounds j (.bool v) = bools (l.set j v) := by unfold bools; rw [List.setIfInBounds_toArray, List.map_set]
theorem zip_at {L : List FIt} {F : List Bool} {k : Nat} {x : FIt} {b : Bool} (hx : L[k]? = some x) (hb : F[k]? = some b) : (L.zip F)[k]? = some (x, b) := by
  rw [List.getElem?_zip_eq_some]; exact ⟨hx, hb⟩
theorem taken_snoc {P : List FP} {k : Nat} {p : FP} (h : P[k]? = some p) : takenF (P.take (k + 1)) = takenF (P.take k) ++ (p.1.e :: (if p.2 = true then [] else [p.1.b])) := by
  rw [List.take_add_one, h]; unfold takenF; rw [List.flatMap_append]; simp
theorem taken_len : ∀ P : List FP, (takenF P).length ≤ 2 * P.length
  | [] => Nat.le_refl _
  | p :: P => by
    have ih := taken_len P
    have e : takenF (p :: P) = (p.1.e :: (if p.2 = true then [] else [p.1.b])) ++ takenF P := rfl
    rw [e, List.length_append, List.length_cons, List.length_cons]
    split <;> simp only [List.length_nil, List.length_cons] <;> omega
/-- A sharer's frame goes where nothing that was there has turned. -/
theorem ShS.next {w w' : World} {g : Nat} {c : Bool} {A : Option Addr} {n cI : Nat} {room : Int} {gz gf : Nat} {L : List FIt} {Z : List Int} {F : List Bool} (h : ShS w g c A n cI room gz gf L Z F) (hb : Below w.heap.size w w') : ShS w' g c A n cI room gz gf L Z F :=
  ⟨h.hG.next hb, h.hI.next hb, h.hZ.next hb, h.hF.next hb, h.lz, h.lf⟩
theorem ShS.drew {w : World} {g : Nat} {c : Bool} {A : Option Addr} {n cI : Nat} {room : Int} {gz gf : Nat} {L : List FIt} {Z : List Int} {F : List Bool} (h : ShS w g c A n cI room gz gf L Z F) : ShS w.drew g c A n cI room gz gf L Z F := ⟨h.hG, h.hI.drew, h.hZ, h.hF, h.lz, h.lf⟩
theorem ShS.alloc {w : World} {g : Nat} {c : Bool} {A : Option Addr} {n cI : Nat} {room : Int} {gz gf : Nat} {L : List FIt} {Z : List Int} {F : List Bool} (h : ShS w g c A n cI room gz gf L Z F) (o : Obj) : ShS (w.alloc o) g c A n cI room gz gf L Z F := ⟨h.hG.alloc o, h.hI.alloc o, h.hZ.alloc o, h.hF.alloc o, h.lz, h.lf⟩
theorem ShS.cut {w : World} {g : Nat} {c : Bool} {A : Option Addr} {n cI : Nat} {room : Int} {gz gf : Nat} {L : List FIt} {Z : List Int} {F : List Bool} (h : ShS w g c A n cI room gz gf L Z F) (b : Bool) : ShS (w.setCell ⟨g, 0, none⟩ (.bool b)) g b A n cI room gz gf L Z F :=
  ⟨h.hG.set_ 0 (.bool b), h.hI.far (p := ⟨g, 0, none⟩) h.hG (by decide) _, h.hZ.far (p := ⟨g, 0, none⟩) (h.hZ.ne_ h.hG (by decide)) _, h.hF.far (p := ⟨g, 0, none⟩) (h.hF.ne_ h.hG (by decide)) _, h.lz, h.lf⟩
theorem ShS.farI {w : World} {g : Nat} {c : Bool} {A : Option Addr} {n cI : Nat} {room : Int} {gz gf : Nat} {L : List FIt} {Z : List Int} {F : List Bool} (h : ShS w g c A n cI room gz gf L Z F) {p : Addr} {cs : Array Value} (hp : Blk w p.block 2 cs) (hz : p.block ≠ gz) (u : Value) : ShS (w.setCell p u) g c A n cI room gz gf L Z F :=
  ⟨h.hG.far (h.hG.ne_ hp (by decide)) _, h.hI.far hp (by decide) _, h.hZ.far (Ne.symm hz) _, h.hF.far (h.hF.ne_ hp (by decide)) _, h.lz, h.lf⟩
set_option maxHeartbeats 8000000 in
set_option maxRecDepth 100000 in
theorem rest_any {g : Nat} {c : Bool} {A : Option Addr} {n cI : Nat} {room : Int} {gz gf : Nat} {L : List FIt} {Z : List Int} {F : List Bool} (E : Nat) (w : World) (h : ShS w g c A n cI room gz gf L Z F) (hn : n ≤ 100) (hE : E ≤ g) (hEw : E ≤ w.heap.size) :
    Calls Try.prog 63 #[.pointer (some ⟨g, 0, none⟩)] w fun e w' => e = .returned (.int .i64 (restN room (L.zip F))) ∧ ShS w' g (c || !restOk room (L.zip F)) A n cI room gz gf L Z F ∧ Below E w w' := by
  have HLl := Lib.hid h.len
  have HFl := Lib.hid h.lf
  have g0 := h.hG.cell 0
  have g1 := h.hG.cell 1
  go_enter Try.func63, Try.ntmps63
  go_wp2
  clear g0 g1
  go_loopw [11, 3] (fun i s wr => ∃ (k : Nat) (v : Value), k ≤ n ∧ i = .int .i64 k ∧ v = s ∧ Below w.heap.size w wr ∧ IntsO wr w.heap.size v (takenF ((L.zip F).take k))) (fun i _ _ => n - (intOf i).toNat)
  case atStart => exact ⟨0, _, Nat.zero_le _, rfl, rfl, Below.refl _ _, IntsO.nil _ _⟩
  case round =>
    obtain ⟨k, v, hk, rfl, rfl, hBr, hY⟩ := hrel
    have hr := h.next hBr
    by_cases hlt : k < n
    · obtain ⟨x, hx⟩ : ∃ x, L[k]? = some x := ⟨L[k]'(by rw [HLl.out]; exact hlt), List.getElem?_eq_getElem _⟩
      obtain ⟨b, hbk⟩ : ∃ b, F[k]? = some b := ⟨F[k]'(by rw [HFl.out]; exact hlt), List.getElem?_eq_getElem _⟩
      have HT := Lib.hid (taken_snoc (zip_at hx hbk))
      obtain ⟨ad, rfl, hab, e0, e1, e2, e3⟩ := it_of hr.hI.reads hx
      have hol : (takenF ((L.zip F).take k)).length < 1000 := by
        have h1 := taken_len ((L.zip F).take k)
        have h2 : ((L.zip F).take k).length ≤ k := List.length_take_le _ _
        omega
      have g4 := hr.hG.cell 4
      have gfk := (hr.hF.cell k).trans (bools_at hbk)
      have zf := hr.hF.lt
      have zg := hr.hG.lt
      have n4 : g ≠ wr.heap.size := Nat.ne_of_lt zg
      have n5 : gf ≠ wr.heap.size := Nat.ne_of_lt zf
      have hle := hBr.size
      have ik0 : (0 : Int) ≤ (k : Int) := Int.natCast_nonneg _
      have ik1 : (k : Int) < (n : Int) := by omega
      have kn := (Int.toNat_natCast k)
      obtain ⟨xb, xe, xg, xs⟩ := x
      simp only at e0 e1 e2 e3 HT
      have hYa : IntsO (wr.alloc (.cells #[.int .i64 xb, .int .i64 xe, .int .i64 xg, .int .i64 xs] 61)) w.heap.size v (takenF ((L.zip F).take k)) := World.ownsRow.alloc hY _
      have hBa := below_al hBr (.cells #[.int .i64 xb, .int .i64 xe, .int .i64 xg, .int .i64 xs] 61)
      have Kx := Blk.new wr 61 #[.int .i64 xb, .int .i64 xe, .int .i64 xg, .int .i64 xs]
      have nx : some wr.heap.size ≠ v.ownBlock := fun e => by have := (World.ownsRow.lt hY _ e.symm).2; omega
      have hra := hr.alloc (.cells #[.int .i64 xb, .int .i64 xe, .int .i64 xg, .int .i64 xs] 61)
      have hlea := hBa.size
      clear hx hab g4 gfk
      cases b
      · go_wp2_with (first
          | (at_builtin; refine wpList_IntsO (wr.alloc (.cells #[.int .i64 xb, .int .i64 xe, .int .i64 xg, .int .i64 xs] 61)) rfl (.tmp 16) (.tmp 19) rfl w.heap.size v (takenF ((L.zip F).take k)) xe rfl hYa _ _ (size_al wr _) rfl (by omega) hlea ?_; intro v' w' hY' hg
             have hB' := below_own hBa hYa hg
             have hr' := h.next hB'
             have Kx' := (Kx.alloc _).grown hg nx
             have g4 := hr'.hG.cell 4
             have gfk := (hr'.hF.cell k).trans (bools_at hbk)
             have x0 := Kx'.cell 0
             have zx : wr.heap.size ≠ w'.heap.size := Nat.ne_of_lt Kx'.lt
             have hle' := hB'.size
             have nx' : some wr.heap.size ≠ v'.ownBlock := own_blk_ne hY' Kx' (by decide) |> Ne.symm
             clear hg)
          | (at_builtin; refine wpList_IntsO w' rfl (.tmp 29) (.tmp 32) rfl w.heap.size v' (takenF ((L.zip F).take k) ++ [xe]) xb rfl hY' _ _ rfl rfl (by rw [List.length_append, List.length_singleton]; omega) hle' ?_; intro v2 w2 hY2 hg2
             have hB2 := below_own hB' hY' hg2
             clear hg2))
        go_roundw
        case rel =>
          have e : takenF ((L.zip F).take (k + 1)) = takenF ((L.zip F).take k) ++ [xe] ++ [xb] := by rw [HT.out]; simp
          exact ⟨k + 1, v2, by omega, by go_num, rfl, hB2, by rw [e]; exact hY2⟩
        case measure => simp [intOf]; omega
      · go_wp2_with (first
          | (at_builtin; refine wpList_IntsO (wr.alloc (.cells #[.int .i64 xb, .int .i64 xe, .int .i64 xg, .int .i64 xs] 61)) rfl (.tmp 16) (.tmp 19) rfl w.heap.size v (takenF ((L.zip F).take k)) xe rfl hYa _ _ (size_al wr _) rfl (by omega) hlea ?_; intro v' w' hY' hg
             have hB' := below_own hBa hYa hg
             have hr' := h.next hB'
             have g4 := hr'.hG.cell 4
             have gfk := (hr'.hF.cell k).trans (bools_at hbk)
             clear hg))
        go_roundw
        case rel =>
          have e : takenF ((L.zip F).take (k + 1)) = takenF ((L.zip F).take k) ++ [xe] := by rw [HT.out]; simp
          exact ⟨k + 1, v', by omega, by go_num, rfl, hB', by rw [e]; exact hY'⟩
        case measure => simp [intOf]; omega
    · obtain rfl : k = n := by omega
      have hzl : (L.zip F).length = k := by rw [List.length_zip, HLl.out, HFl.out, Nat.min_self]
      have htk : (L.zip F).take k = L.zip F := List.take_of_length_le (by omega)
      rw [htk] at hY
      generalize hP : L.zip F = P at *
      have HP := Lib.hid hP
      clear hP
      have hB1 : Below E w wr := hBr.mono hEw
      have hrd := hr.drew
      obtain ⟨A1, c1v, rfl⟩ := own_form' hY
      have HRd := Reads.of_own hY
      have hlt2 := taken_len P
      have sm := sum_any A1 (takenF P).length c1v wr.heap.size (takenF P) wr.drew HRd.drew (by omega)
      have HQ := Lib.hid (show ((c || !(sumL (takenF P)).2) || !subOk room (sumL (takenF P)).1) = (c || !restOk room P) by unfold restOk; rw [Bool.not_and, Bool.or_assoc])
      have HN := Lib.hid (show sub2 room (sumL (takenF P)).1 = restN room P from rfl)
      have sb := fun w => sub_any room (sumL (takenF P)).1 w
      clear hlt2 hzl htk HRd hY HLl HFl hlt
      generalize (takenF P).length = m1 at *
      generalize (sumL (takenF P)).1 = s1 at *
      generalize (sumL (takenF P)).2 = s2 at *
      generalize sub2 room s1 = r1 at *
      generalize subOk room s1 = r2 at *
      have K1 := hr.cut (c || !s2)
      have K2 := K1.cut ((c || !s2) || !r2)
      have n1 := number_any g s1 s2 c wr.drew (hrd.hG.cell 0) (hrd.hG.frozen 0)
      have n2 := number_any g r1 r2 (c || !s2) (wr.setCell ⟨g, 0, none⟩ (.bool (c || !s2))).drew (K1.drew.hG.cell 0) (K1.drew.hG.frozen 0)
      have hB2 := (hB1.setCell (p := ⟨g, 0, none⟩) hE (.bool (c || !s2))).setCell (p := ⟨g, 0, none⟩) hE (.bool ((c || !s2) || !r2))
      rw [HQ.out] at K2 hB2
      have q1 : wr.drew.cell? ⟨g, 2, none⟩ = some (.int .i64 room) := hrd.hG.cell 2
      have q2 : (wr.setCell ⟨g, 0, none⟩ (.bool (c || !s2))).drew.cell? ⟨g, 2, none⟩ = some (.int .i64 room) := K1.drew.hG.cell 2
      have q3 : ((wr.setCell ⟨g, 0, none⟩ (.bool (c || !s2))).setCell ⟨g, 0, none⟩ (.bool ((c || !s2) || !r2))).drew.cell? ⟨g, 2, none⟩ = some (.int .i64 room) := by rw [HQ.out]; exact K2.drew.hG.cell 2
      clear K1 hrd h hr hBr hB1
      go_wp2
      go_region_held3 (fun W' => W'.cell? ⟨g, 2, none⟩ = some (.int .i64 room))
        (first | (with_reducible exact q1) | (with_reducible exact q2) | (with_reducible exact q3))
        (first
          | (go_at_call 50; (with_reducible refine sm.mono ?_); rintro e w' ⟨rfl, rfl⟩)
          | (go_at_call 38; (with_reducible refine (sb _).mono ?_); rintro e w' ⟨rfl, rfl⟩)
          | (go_at_call 49; (first | (with_reducible refine n1.mono ?_) | (with_reducible refine n2.mono ?_)); rintro e w' ⟨rfl, rfl⟩))
      all_goals
        rw [HQ.out]
        generalize ((wr.setCell { block := g, off := 0 } (Value.bool (c || !s2))).setCell { block := g, off := 0 } (Value.bool (c || !restOk room P))) = wz at *
        go_wp2
        go_ret
        exact ⟨by rw [HN.out, HP.out]; rfl, by rw [HP.out]; exact K2.drew, hB2.drew⟩
end Go.Proofs.Ytnjnkcjhhgffjaa
