/- What the landed package flex's Justify answers. Conditions: the list lies in memory as it is read, and is no longer than a thousand million. -/
import Derived.Test.YtnjnkcjhhgffjaaFlexMathJ
import Derived.Test.YtnjnkcjhhgffjaaFlexI
namespace Go.Proofs.Ytnjnkcjhhgffjaa
open Go.ChangeShapes Go.WideShapes Go.ChangeAt Go.RowKit
set_option maxHeartbeats 8000000 in
set_option maxRecDepth 100000 in
theorem justify_any (A : Option Addr) (n c : Nat) (l : List Int) (room how : Int) (w : World) (hr : Reads w w.heap.size 1 A n (l.map (Value.int .i64))) (hn : n ≤ 100000000) :
    Calls Try.prog 24 #[.slice A n c, .int .i64 room, .int .i64 how] w fun e w' => ∃ (A' : Option Addr) (c' : Nat), e = .returned (.tuple #[.slice A' n c', .bool (justL l room how).2]) ∧
      Reads w' w'.heap.size 1 A' n ((justL l room how).1.map (Value.int .i64)) ∧ Below w.heap.size w w' := by
  have hlen : l.length = n := by have := hr.1; simpa using this
  unfold justL
  rw [hlen]
  have hov : 0 ≤ overJ l room ∧ overJ l room ≤ 1099511627776 := by
    unfold overJ
    have h1 : sub2 room (sumL l).1 ≤ 1099511627776 := cl_hi _
    omega
  have hovd : overJ l room = max (sub2 room (sumL l).1) 0 := rfl
  rw [hovd] at hov ⊢
  clear hovd
  have hra := hr.alloc (Nat.le_refl _) (.cells #[.bool false] 79)
  have K0 := Blk.new w 79 #[.bool false]
  have hB0 := below_al (Below.refl w.heap.size w) (.cells #[.bool false] 79)
  have sm := sum_any A n c w.heap.size l (w.alloc (.cells #[.bool false] 79)) hra (by omega)
  have sb := fun w => sub_any room (sumL l).1 w
  have HL := Lib.hid hlen
  clear hlen
  generalize (sumL l).1 = s1 at *
  generalize (sumL l).2 = s2 at *
  generalize sub2 room s1 = r1 at *
  generalize subOk room s1 = r2 at *
  have n1 := number_any w.heap.size s1 s2 false (w.alloc (.cells #[.bool false] 79)) (K0.cell 0) (K0.frozen 0)
  have K1 := Blk.new w 79 #[.bool (!s2)]
  have n2 := number_any w.heap.size r1 r2 (!s2) (w.alloc (.cells #[.bool (!s2)] 79)) (K1.cell 0) (K1.frozen 0)
  have K2 := Blk.new w 79 #[.bool (!s2 || !r2)]
  have hB2 := below_al (Below.refl w.heap.size w) (.cells #[.bool (!s2 || !r2)] 79)
  simp only [Bool.false_or] at n1
  clear K0 K1 hB0
  go_enter Try.func24, Try.ntmps24
  go_upto_region 4 with (first
    | (go_at_call 50; (with_reducible refine sm.mono ?_); rintro e w' ⟨rfl, rfl⟩)
    | (go_at_call 38; (with_reducible refine (sb _).mono ?_); rintro e w' ⟨rfl, rfl⟩)
    | (go_at_call 49; (first | (with_reducible refine n1.mono ?_) | (with_reducible refine n2.mono ?_)); rintro e w' ⟨rfl, rfl⟩))
  generalize w.alloc (.cells #[.bool (!s2 || !r2)] 79) = w3 at *
  clear n1 n2 sm sb hra
  generalize hov2 : max r1 0 = ov at *
  have HOV := Lib.hid hov2
  clear hov2
  obtain ⟨ov1, ov2⟩ := hov
  obtain ⟨f0, hf⟩ : ∃ f0, f0 = firstJ ov how := ⟨_, rfl⟩
  obtain ⟨b0, hb⟩ : ∃ b0, b0 = betweenJ ov n how := ⟨_, rfl⟩
  have HF := Lib.hid hf
  have HB := Lib.hid hb
  clear hf hb
  have HW := Lib.hid (show (!s2 || !r2) = !(s2 && r2) by rw [Bool.not_and])
  by_cases h1 : how = 1
  · subst h1
    obtain rfl : b0 = 0 := by have e := HB.out; unfold betweenJ at e; rwa [if_neg (by decide)] at e
    go_wp2
    have e : f0 = ov / 2 := by have e := HF.out; unfold firstJ at e; rwa [if_pos rfl] at e
    rw [← e]
    clear e
    have K2' : Blk w3 w.heap.size 79 #[.bool (!(s2 && r2) || !begOk f0 0 l (0 - 1))] := by rw [show begOk f0 0 l (0 - 1) = true from rfl, Bool.not_true, Bool.or_false, ← HW.out]; exact K2
    clear K2
    go_loopw [45, 12] (fun i s wr => ∃ (k : Nat) (v : Value), k ≤ n ∧ i = .int .i64 k ∧ v = s ∧ Below w.heap.size w wr ∧ Blk wr w.heap.size 79 #[.bool (!(s2 && r2) || !begOk f0 0 l (k - 1))] ∧ IntsO wr w.heap.size v (begins f0 0 l k)) (fun i _ _ => n - (intOf i).toNat)
    case atStart => exact ⟨0, _, Nat.zero_le _, rfl, rfl, hB2, K2', IntsO.nil _ _⟩
    case round =>
      obtain ⟨k, v, hk, rfl, rfl, hBr, K, hY⟩ := hrel
      clear K2' hB2
      have nv := own_blk_ne hY K (by decide)
      by_cases hlt : k < n
      · cases k with
        | zero =>
          have hY0 : IntsO wr w.heap.size v [] := hY
          go_wp2_with (at_builtin; refine wpList_IntsO wr rfl (.tmp 71) (.tmp 73) rfl w.heap.size v [] f0 rfl hY0 _ _ rfl rfl (by simp) hBr.size ?_; intro v' w' hY' hg
                       have hB' := below_own hBr hY hg
                       have K' := (K.alloc _).grown hg (fun e => nv e.symm)
                       clear hg)
          go_roundw
          case rel => exact ⟨0 + 1, v', by omega, by go_num, rfl, hB', K', hY'⟩
          case measure => simp [intOf]; omega
        | succ m =>
          have hsn := begins_snoc f0 0 l (m + 1)
          have hbl := begins_len f0 0 l (m + 1)
          have hml : m < l.length := by rw [HL.out]; omega
          obtain ⟨ad, u, rfl, hab, hx, hcell⟩ := (hr.below hBr).at_ (k := m) (by omega)
          obtain rfl : u = .int .i64 l[m] := by
            rw [List.getElem?_map, List.getElem?_eq_getElem hml] at hx
            simpa using hx.symm
          have hYf : wr.ownsRow w.heap.size 2 1 v (m + 1) ((begins f0 0 l (m + 1)).map (Value.int .i64)) := by have h := hY; unfold IntsO at h; rwa [hbl] at h
          obtain ⟨gb, cap, rfl, hgb, hgl⟩ := World.ownsRow.form hYf (by omega)
          have hcb := World.ownsRow.cells hYf (g := gb) rfl m (.int .i64 (begAt f0 0 l m)) (by rw [List.getElem?_map, begins_at _ _ _ _ _ (Nat.lt_succ_self m)]; rfl)
          rw [add_zero_] at hcb
          have nvb : gb ≠ w.heap.size := fun e => nv (by rw [e]; rfl)
          have HS := Lib.hid (show begAt f0 0 l (m + 1) = add2 (add2 (begAt f0 0 l m) l[m]) 0 by show add2 (add2 (begAt f0 0 l m) (l.getD m 0)) 0 = _; rw [List.getD_eq_getElem?_getD, List.getElem?_eq_getElem hml]; rfl)
          have HO := Lib.hid (show begOk f0 0 l (m + 1) = (begOk f0 0 l m && (addOk (begAt f0 0 l m) l[m] && addOk (add2 (begAt f0 0 l m) l[m]) 0)) by show (begOk f0 0 l m && (addOk (begAt f0 0 l m) (l.getD m 0) && addOk (add2 (begAt f0 0 l m) (l.getD m 0)) 0)) = _; rw [List.getD_eq_getElem?_getD, List.getElem?_eq_getElem hml]; rfl)
          have a1 := fun w => add_any (begAt f0 0 l m) l[m] w
          have a2 := fun w => add_any (add2 (begAt f0 0 l m) l[m]) 0 w
          have K : Blk wr w.heap.size 79 #[.bool (!(s2 && r2) || !begOk f0 0 l m)] := K
          have HSn := Lib.hid hsn
          have HBl := Lib.hid hbl
          clear hsn hbl hx hgb hgl hYf
          generalize (!(s2 && r2)) = c0 at *
          generalize begOk f0 0 l m = o0 at *
          generalize begAt f0 0 l m = p0 at *
          generalize l[m] = x0 at *
          generalize addOk p0 x0 = o1 at *
          generalize add2 p0 x0 = p1 at *
          generalize addOk p1 0 = o2 at *
          generalize add2 p1 0 = p2 at *
          generalize begins f0 0 l (m + 1) = bs at *
          have K1 := K.set_ 0 (.bool ((c0 || !o0) || !o1))
          have n1 := number_any w.heap.size p1 o1 (c0 || !o0) wr.drew (K.drew.cell 0) (K.drew.frozen 0)
          have hY1 := ownsRow_setCell_other hY (a := ⟨w.heap.size, 0, none⟩) nv (.bool ((c0 || !o0) || !o1))
          have hB1 := below_set hBr (p := ⟨w.heap.size, 0, none⟩) (Nat.le_refl _) (.bool ((c0 || !o0) || !o1))
          have nab : (ad.add m).block ≠ w.heap.size := by rw [block_of_add]; omega
          have k1 : wr.drew.cell? ⟨gb, m, none⟩ = some (.int .i64 p0) ∧ wr.drew.cell? (ad.add m) = some (.int .i64 x0) := ⟨hcb, hcell⟩
          have k2 : (wr.setCell ⟨w.heap.size, 0, none⟩ (.bool ((c0 || !o0) || !o1))).drew.cell? ⟨gb, m, none⟩ = some (.int .i64 p0) ∧ (wr.setCell ⟨w.heap.size, 0, none⟩ (.bool ((c0 || !o0) || !o1))).drew.cell? (ad.add m) = some (.int .i64 x0) :=
            ⟨(World.cell?_setCell_far wr ⟨w.heap.size, 0, none⟩ ⟨gb, m, none⟩ _ (Ne.symm nvb)).trans hcb, (World.cell?_setCell_far wr ⟨w.heap.size, 0, none⟩ (ad.add m) _ (Ne.symm nab)).trans hcell⟩
          have im0 : (0 : Int) ≤ (m : Int) := Int.natCast_nonneg _
          have im1 : (m : Int) < (n : Int) := by omega
          have im2 : IntKind.i64.wrap ((m : Int) + 1 - 1) = (m : Int) := by rw [IntKind.wrap_i64]; omega
          have im3 : (m : Int) < ((m + 1 : Nat) : Int) := by omega
          have im4 : IntKind.i64.wrap (((m + 1 : Nat) : Int) - 1) = (m : Int) := by rw [IntKind.wrap_i64]; omega
          have im5 : IntKind.i64.wrap (m : Int) = (m : Int) := by rw [IntKind.wrap_i64]; omega
          have im6 : (m : Int) < (m : Int) + 1 := by omega
          have mn := (Int.toNat_natCast m)
          go_wp2
          go_region_held3 (fun W' => W'.cell? ⟨gb, m, none⟩ = some (.int .i64 p0) ∧ W'.cell? (ad.add m) = some (.int .i64 x0))
            (first | (with_reducible exact k1) | (with_reducible exact k2))
            (first
              | (go_at_call 39; (with_reducible refine (a1 _).mono ?_); rintro e w' ⟨rfl, rfl⟩)
              | (go_at_call 49; (with_reducible refine n1.mono ?_); rintro e w' ⟨rfl, rfl⟩))
          all_goals
            clear k1 k2 n1
            have K1 := K1.drew
            have hY1 := World.ownsRow.drew hY1
            have hB1 := hB1.drew
            generalize (wr.setCell ⟨w.heap.size, 0, none⟩ (.bool ((c0 || !o0) || !o1))).drew = w4 at *
            have n2 := number_any w.heap.size p2 o2 ((c0 || !o0) || !o1) w4 (K1.cell 0) (K1.frozen 0)
            have K2 := K1.set_ 0 (.bool (((c0 || !o0) || !o1) || !o2))
            have hY2 := ownsRow_setCell_other hY1 (a := ⟨w.heap.size, 0, none⟩) nv (.bool (((c0 || !o0) || !o1) || !o2))
            have hB2 := below_set hB1 (p := ⟨w.heap.size, 0, none⟩) (Nat.le_refl _) (.bool (((c0 || !o0) || !o1) || !o2))
            go_wp2_with (first
              | (go_at_call 39; (with_reducible refine (a2 _).mono ?_); rintro e w' ⟨rfl, rfl⟩)
              | (go_at_call 49; (with_reducible refine n2.mono ?_); rintro e w' ⟨rfl, rfl⟩)
              | (at_builtin; refine wpList_IntsO (w4.setCell ⟨w.heap.size, 0, none⟩ (.bool (((c0 || !o0) || !o1) || !o2))) rfl (.tmp 71) (.tmp 73) rfl w.heap.size _ bs p2 rfl hY2 w4.heap.size _ (size_set _ _ _) rfl (by rw [HBl.out]; omega) hB2.size ?_; intro v' w' hY' hg
                 have hB' := below_own hB2 hY2 hg
                 have K' := (K2.alloc _).grown hg (fun e => nv e.symm)
                 clear hg))
            go_roundw
            case rel =>
              have e : (c0 || !(o0 && (o1 && o2))) = (((c0 || !o0) || !o1) || !o2) := by rw [Bool.not_and, Bool.not_and, Bool.or_assoc, Bool.or_assoc]
              refine ⟨m + 1 + 1, v', by omega, by go_num, rfl, hB', ?_, ?_⟩
              · show Blk w' w.heap.size _ #[.bool (c0 || !begOk f0 0 l (m + 1))]
                rw [HO.out, e]
                exact K'
              · rw [HSn.out, HS.out]
                exact hY'
            case measure => simp [intOf]; omega
      · obtain rfl : k = n := by omega
        obtain ⟨A1, c1v, rfl⟩ := own_form' hY
        have q0 : wr.cell? ⟨w.heap.size, 0, none⟩ = some (.bool (!(s2 && r2) || !begOk f0 0 l (k - 1))) := K.cell 0
        have hq := Reads.of_own hY
        rw [begins_len] at hq
        have HBl := Lib.hid (begins_len f0 0 l k)
        go_wp2
        go_region
        all_goals
          go_wp2
          go_ret2
          rw [begins_len]
          refine ⟨A1, c1v, ?_, ?_, hBr.drew⟩
          · show _ = Ending.returned (.tuple #[.slice A1 k c1v, .bool (s2 && r2 && begOk (firstJ _ _) (betweenJ _ _ _) l (k - 1))])
            rw [HOV.out, ← HF.out, ← HB.out]
            rfl
          · rw [HOV.out, ← HF.out, ← HB.out]
            exact hq.drew
  · by_cases h2 : how = 2
    · subst h2
      obtain rfl : b0 = 0 := by have e := HB.out; unfold betweenJ at e; rwa [if_neg (by decide)] at e
      obtain rfl : f0 = ov := by have e := HF.out; unfold firstJ at e; rwa [if_neg (by decide), if_pos rfl] at e
      go_wp2
      have K2' : Blk w3 w.heap.size 79 #[.bool (!(s2 && r2) || !begOk f0 0 l (0 - 1))] := by rw [show begOk f0 0 l (0 - 1) = true from rfl, Bool.not_true, Bool.or_false, ← HW.out]; exact K2
      clear K2
      go_loopw [45, 12] (fun i s wr => ∃ (k : Nat) (v : Value), k ≤ n ∧ i = .int .i64 k ∧ v = s ∧ Below w.heap.size w wr ∧ Blk wr w.heap.size 79 #[.bool (!(s2 && r2) || !begOk f0 0 l (k - 1))] ∧ IntsO wr w.heap.size v (begins f0 0 l k)) (fun i _ _ => n - (intOf i).toNat)
      case atStart => exact ⟨0, _, Nat.zero_le _, rfl, rfl, hB2, K2', IntsO.nil _ _⟩
      case round =>
        obtain ⟨k, v, hk, rfl, rfl, hBr, K, hY⟩ := hrel
        clear K2' hB2
        have nv := own_blk_ne hY K (by decide)
        by_cases hlt : k < n
        · cases k with
          | zero =>
            have hY0 : IntsO wr w.heap.size v [] := hY
            go_wp2_with (at_builtin; refine wpList_IntsO wr rfl (.tmp 71) (.tmp 73) rfl w.heap.size v [] f0 rfl hY0 _ _ rfl rfl (by simp) hBr.size ?_; intro v' w' hY' hg
                         have hB' := below_own hBr hY hg
                         have K' := (K.alloc _).grown hg (fun e => nv e.symm)
                         clear hg)
            go_roundw
            case rel => exact ⟨0 + 1, v', by omega, by go_num, rfl, hB', K', hY'⟩
            case measure => simp [intOf]; omega
          | succ m =>
            have hsn := begins_snoc f0 0 l (m + 1)
            have hbl := begins_len f0 0 l (m + 1)
            have hml : m < l.length := by rw [HL.out]; omega
            obtain ⟨ad, u, rfl, hab, hx, hcell⟩ := (hr.below hBr).at_ (k := m) (by omega)
            obtain rfl : u = .int .i64 l[m] := by
              rw [List.getElem?_map, List.getElem?_eq_getElem hml] at hx
              simpa using hx.symm
            have hYf : wr.ownsRow w.heap.size 2 1 v (m + 1) ((begins f0 0 l (m + 1)).map (Value.int .i64)) := by have h := hY; unfold IntsO at h; rwa [hbl] at h
            obtain ⟨gb, cap, rfl, hgb, hgl⟩ := World.ownsRow.form hYf (by omega)
            have hcb := World.ownsRow.cells hYf (g := gb) rfl m (.int .i64 (begAt f0 0 l m)) (by rw [List.getElem?_map, begins_at _ _ _ _ _ (Nat.lt_succ_self m)]; rfl)
            rw [add_zero_] at hcb
            have nvb : gb ≠ w.heap.size := fun e => nv (by rw [e]; rfl)
            have HS := Lib.hid (show begAt f0 0 l (m + 1) = add2 (add2 (begAt f0 0 l m) l[m]) 0 by show add2 (add2 (begAt f0 0 l m) (l.getD m 0)) 0 = _; rw [List.getD_eq_getElem?_getD, List.getElem?_eq_getElem hml]; rfl)
            have HO := Lib.hid (show begOk f0 0 l (m + 1) = (begOk f0 0 l m && (addOk (begAt f0 0 l m) l[m] && addOk (add2 (begAt f0 0 l m) l[m]) 0)) by show (begOk f0 0 l m && (addOk (begAt f0 0 l m) (l.getD m 0) && addOk (add2 (begAt f0 0 l m) (l.getD m 0)) 0)) = _; rw [List.getD_eq_getElem?_getD, List.getElem?_eq_getElem hml]; rfl)
            have a1 := fun w => add_any (begAt f0 0 l m) l[m] w
            have a2 := fun w => add_any (add2 (begAt f0 0 l m) l[m]) 0 w
            have K : Blk wr w.heap.size 79 #[.bool (!(s2 && r2) || !begOk f0 0 l m)] := K
            have HSn := Lib.hid hsn
            have HBl := Lib.hid hbl
            clear hsn hbl hx hgb hgl hYf
            generalize (!(s2 && r2)) = c0 at *
            generalize begOk f0 0 l m = o0 at *
            generalize begAt f0 0 l m = p0 at *
            generalize l[m] = x0 at *
            generalize addOk p0 x0 = o1 at *
            generalize add2 p0 x0 = p1 at *
            generalize addOk p1 0 = o2 at *
            generalize add2 p1 0 = p2 at *
            generalize begins f0 0 l (m + 1) = bs at *
            have K1 := K.set_ 0 (.bool ((c0 || !o0) || !o1))
            have n1 := number_any w.heap.size p1 o1 (c0 || !o0) wr.drew (K.drew.cell 0) (K.drew.frozen 0)
            have hY1 := ownsRow_setCell_other hY (a := ⟨w.heap.size, 0, none⟩) nv (.bool ((c0 || !o0) || !o1))
            have hB1 := below_set hBr (p := ⟨w.heap.size, 0, none⟩) (Nat.le_refl _) (.bool ((c0 || !o0) || !o1))
            have nab : (ad.add m).block ≠ w.heap.size := by rw [block_of_add]; omega
            have k1 : wr.drew.cell? ⟨gb, m, none⟩ = some (.int .i64 p0) ∧ wr.drew.cell? (ad.add m) = some (.int .i64 x0) := ⟨hcb, hcell⟩
            have k2 : (wr.setCell ⟨w.heap.size, 0, none⟩ (.bool ((c0 || !o0) || !o1))).drew.cell? ⟨gb, m, none⟩ = some (.int .i64 p0) ∧ (wr.setCell ⟨w.heap.size, 0, none⟩ (.bool ((c0 || !o0) || !o1))).drew.cell? (ad.add m) = some (.int .i64 x0) :=
              ⟨(World.cell?_setCell_far wr ⟨w.heap.size, 0, none⟩ ⟨gb, m, none⟩ _ (Ne.symm nvb)).trans hcb, (World.cell?_setCell_far wr ⟨w.heap.size, 0, none⟩ (ad.add m) _ (Ne.symm nab)).trans hcell⟩
            have im0 : (0 : Int) ≤ (m : Int) := Int.natCast_nonneg _
            have im1 : (m : Int) < (n : Int) := by omega
            have im2 : IntKind.i64.wrap ((m : Int) + 1 - 1) = (m : Int) := by rw [IntKind.wrap_i64]; omega
            have im3 : (m : Int) < ((m + 1 : Nat) : Int) := by omega
            have im4 : IntKind.i64.wrap (((m + 1 : Nat) : Int) - 1) = (m : Int) := by rw [IntKind.wrap_i64]; omega
            have im5 : IntKind.i64.wrap (m : Int) = (m : Int) := by rw [IntKind.wrap_i64]; omega
            have im6 : (m : Int) < (m : Int) + 1 := by omega
            have mn := (Int.toNat_natCast m)
            go_wp2
            go_region_held3 (fun W' => W'.cell? ⟨gb, m, none⟩ = some (.int .i64 p0) ∧ W'.cell? (ad.add m) = some (.int .i64 x0))
              (first | (with_reducible exact k1) | (with_reducible exact k2))
              (first
                | (go_at_call 39; (with_reducible refine (a1 _).mono ?_); rintro e w' ⟨rfl, rfl⟩)
                | (go_at_call 49; (with_reducible refine n1.mono ?_); rintro e w' ⟨rfl, rfl⟩))
            all_goals
              clear k1 k2 n1
              have K1 := K1.drew
              have hY1 := World.ownsRow.drew hY1
              have hB1 := hB1.drew
              generalize (wr.setCell ⟨w.heap.size, 0, none⟩ (.bool ((c0 || !o0) || !o1))).drew = w4 at *
              have n2 := number_any w.heap.size p2 o2 ((c0 || !o0) || !o1) w4 (K1.cell 0) (K1.frozen 0)
              have K2 := K1.set_ 0 (.bool (((c0 || !o0) || !o1) || !o2))
              have hY2 := ownsRow_setCell_other hY1 (a := ⟨w.heap.size, 0, none⟩) nv (.bool (((c0 || !o0) || !o1) || !o2))
              have hB2 := below_set hB1 (p := ⟨w.heap.size, 0, none⟩) (Nat.le_refl _) (.bool (((c0 || !o0) || !o1) || !o2))
              go_wp2_with (first
                | (go_at_call 39; (with_reducible refine (a2 _).mono ?_); rintro e w' ⟨rfl, rfl⟩)
                | (go_at_call 49; (with_reducible refine n2.mono ?_); rintro e w' ⟨rfl, rfl⟩)
                | (at_builtin; refine wpList_IntsO (w4.setCell ⟨w.heap.size, 0, none⟩ (.bool (((c0 || !o0) || !o1) || !o2))) rfl (.tmp 71) (.tmp 73) rfl w.heap.size _ bs p2 rfl hY2 w4.heap.size _ (size_set _ _ _) rfl (by rw [HBl.out]; omega) hB2.size ?_; intro v' w' hY' hg
                   have hB' := below_own hB2 hY2 hg
                   have K' := (K2.alloc _).grown hg (fun e => nv e.symm)
                   clear hg))
              go_roundw
              case rel =>
                have e : (c0 || !(o0 && (o1 && o2))) = (((c0 || !o0) || !o1) || !o2) := by rw [Bool.not_and, Bool.not_and, Bool.or_assoc, Bool.or_assoc]
                refine ⟨m + 1 + 1, v', by omega, by go_num, rfl, hB', ?_, ?_⟩
                · show Blk w' w.heap.size _ #[.bool (c0 || !begOk f0 0 l (m + 1))]
                  rw [HO.out, e]
                  exact K'
                · rw [HSn.out, HS.out]
                  exact hY'
              case measure => simp [intOf]; omega
        · obtain rfl : k = n := by omega
          obtain ⟨A1, c1v, rfl⟩ := own_form' hY
          have q0 : wr.cell? ⟨w.heap.size, 0, none⟩ = some (.bool (!(s2 && r2) || !begOk f0 0 l (k - 1))) := K.cell 0
          have hq := Reads.of_own hY
          rw [begins_len] at hq
          have HBl := Lib.hid (begins_len f0 0 l k)
          go_wp2
          go_region
          all_goals
            go_wp2
            go_ret2
            rw [begins_len]
            refine ⟨A1, c1v, ?_, ?_, hBr.drew⟩
            · show _ = Ending.returned (.tuple #[.slice A1 k c1v, .bool (s2 && r2 && begOk (firstJ _ _) (betweenJ _ _ _) l (k - 1))])
              rw [HOV.out, ← HF.out, ← HB.out]
              rfl
            · rw [HOV.out, ← HF.out, ← HB.out]
              exact hq.drew
    · by_cases h3 : how = 3
      · subst h3
        obtain rfl : f0 = 0 := by have e := HF.out; unfold firstJ at e; rwa [if_neg (by decide), if_neg (by decide)] at e
        have hmx : 1 ≤ max ((n : Int) - 1) 1 := by omega
        go_wp2
        have e : b0 = ov / max ((n : Int) - 1) 1 := by have e := HB.out; unfold betweenJ at e; rwa [if_pos rfl] at e
        rw [← e]
        clear e
        have K2' : Blk w3 w.heap.size 79 #[.bool (!(s2 && r2) || !begOk 0 b0 l (0 - 1))] := by rw [show begOk 0 b0 l (0 - 1) = true from rfl, Bool.not_true, Bool.or_false, ← HW.out]; exact K2
        clear K2
        go_loopw [45, 12] (fun i s wr => ∃ (k : Nat) (v : Value), k ≤ n ∧ i = .int .i64 k ∧ v = s ∧ Below w.heap.size w wr ∧ Blk wr w.heap.size 79 #[.bool (!(s2 && r2) || !begOk 0 b0 l (k - 1))] ∧ IntsO wr w.heap.size v (begins 0 b0 l k)) (fun i _ _ => n - (intOf i).toNat)
        case atStart => exact ⟨0, _, Nat.zero_le _, rfl, rfl, hB2, K2', IntsO.nil _ _⟩
        case round =>
          obtain ⟨k, v, hk, rfl, rfl, hBr, K, hY⟩ := hrel
          clear K2' hB2
          have nv := own_blk_ne hY K (by decide)
          by_cases hlt : k < n
          · cases k with
            | zero =>
              have hY0 : IntsO wr w.heap.size v [] := hY
              go_wp2_with (at_builtin; refine wpList_IntsO wr rfl (.tmp 71) (.tmp 73) rfl w.heap.size v [] 0 rfl hY0 _ _ rfl rfl (by simp) hBr.size ?_; intro v' w' hY' hg
                           have hB' := below_own hBr hY hg
                           have K' := (K.alloc _).grown hg (fun e => nv e.symm)
                           clear hg)
              go_roundw
              case rel => exact ⟨0 + 1, v', by omega, by go_num, rfl, hB', K', hY'⟩
              case measure => simp [intOf]; omega
            | succ m =>
              have hsn := begins_snoc 0 b0 l (m + 1)
              have hbl := begins_len 0 b0 l (m + 1)
              have hml : m < l.length := by rw [HL.out]; omega
              obtain ⟨ad, u, rfl, hab, hx, hcell⟩ := (hr.below hBr).at_ (k := m) (by omega)
              obtain rfl : u = .int .i64 l[m] := by
                rw [List.getElem?_map, List.getElem?_eq_getElem hml] at hx
                simpa using hx.symm
              have hYf : wr.ownsRow w.heap.size 2 1 v (m + 1) ((begins 0 b0 l (m + 1)).map (Value.int .i64)) := by have h := hY; unfold IntsO at h; rwa [hbl] at h
              obtain ⟨gb, cap, rfl, hgb, hgl⟩ := World.ownsRow.form hYf (by omega)
              have hcb := World.ownsRow.cells hYf (g := gb) rfl m (.int .i64 (begAt 0 b0 l m)) (by rw [List.getElem?_map, begins_at _ _ _ _ _ (Nat.lt_succ_self m)]; rfl)
              rw [add_zero_] at hcb
              have nvb : gb ≠ w.heap.size := fun e => nv (by rw [e]; rfl)
              have HS := Lib.hid (show begAt 0 b0 l (m + 1) = add2 (add2 (begAt 0 b0 l m) l[m]) b0 by show add2 (add2 (begAt 0 b0 l m) (l.getD m 0)) b0 = _; rw [List.getD_eq_getElem?_getD, List.getElem?_eq_getElem hml]; rfl)
              have HO := Lib.hid (show begOk 0 b0 l (m + 1) = (begOk 0 b0 l m && (addOk (begAt 0 b0 l m) l[m] && addOk (add2 (begAt 0 b0 l m) l[m]) b0)) by show (begOk 0 b0 l m && (addOk (begAt 0 b0 l m) (l.getD m 0) && addOk (add2 (begAt 0 b0 l m) (l.getD m 0)) b0)) = _; rw [List.getD_eq_getElem?_getD, List.getElem?_eq_getElem hml]; rfl)
              have a1 := fun w => add_any (begAt 0 b0 l m) l[m] w
              have a2 := fun w => add_any (add2 (begAt 0 b0 l m) l[m]) b0 w
              have K : Blk wr w.heap.size 79 #[.bool (!(s2 && r2) || !begOk 0 b0 l m)] := K
              have HSn := Lib.hid hsn
              have HBl := Lib.hid hbl
              clear hsn hbl hx hgb hgl hYf
              generalize (!(s2 && r2)) = c0 at *
              generalize begOk 0 b0 l m = o0 at *
              generalize begAt 0 b0 l m = p0 at *
              generalize l[m] = x0 at *
              generalize addOk p0 x0 = o1 at *
              generalize add2 p0 x0 = p1 at *
              generalize addOk p1 b0 = o2 at *
              generalize add2 p1 b0 = p2 at *
              generalize begins 0 b0 l (m + 1) = bs at *
              have K1 := K.set_ 0 (.bool ((c0 || !o0) || !o1))
              have n1 := number_any w.heap.size p1 o1 (c0 || !o0) wr.drew (K.drew.cell 0) (K.drew.frozen 0)
              have hY1 := ownsRow_setCell_other hY (a := ⟨w.heap.size, 0, none⟩) nv (.bool ((c0 || !o0) || !o1))
              have hB1 := below_set hBr (p := ⟨w.heap.size, 0, none⟩) (Nat.le_refl _) (.bool ((c0 || !o0) || !o1))
              have nab : (ad.add m).block ≠ w.heap.size := by rw [block_of_add]; omega
              have k1 : wr.drew.cell? ⟨gb, m, none⟩ = some (.int .i64 p0) ∧ wr.drew.cell? (ad.add m) = some (.int .i64 x0) := ⟨hcb, hcell⟩
              have k2 : (wr.setCell ⟨w.heap.size, 0, none⟩ (.bool ((c0 || !o0) || !o1))).drew.cell? ⟨gb, m, none⟩ = some (.int .i64 p0) ∧ (wr.setCell ⟨w.heap.size, 0, none⟩ (.bool ((c0 || !o0) || !o1))).drew.cell? (ad.add m) = some (.int .i64 x0) :=
                ⟨(World.cell?_setCell_far wr ⟨w.heap.size, 0, none⟩ ⟨gb, m, none⟩ _ (Ne.symm nvb)).trans hcb, (World.cell?_setCell_far wr ⟨w.heap.size, 0, none⟩ (ad.add m) _ (Ne.symm nab)).trans hcell⟩
              have im0 : (0 : Int) ≤ (m : Int) := Int.natCast_nonneg _
              have im1 : (m : Int) < (n : Int) := by omega
              have im2 : IntKind.i64.wrap ((m : Int) + 1 - 1) = (m : Int) := by rw [IntKind.wrap_i64]; omega
              have im3 : (m : Int) < ((m + 1 : Nat) : Int) := by omega
              have im4 : IntKind.i64.wrap (((m + 1 : Nat) : Int) - 1) = (m : Int) := by rw [IntKind.wrap_i64]; omega
              have im5 : IntKind.i64.wrap (m : Int) = (m : Int) := by rw [IntKind.wrap_i64]; omega
              have im6 : (m : Int) < (m : Int) + 1 := by omega
              have mn := (Int.toNat_natCast m)
              go_wp2
              go_region_held3 (fun W' => W'.cell? ⟨gb, m, none⟩ = some (.int .i64 p0) ∧ W'.cell? (ad.add m) = some (.int .i64 x0))
                (first | (with_reducible exact k1) | (with_reducible exact k2))
                (first
                  | (go_at_call 39; (with_reducible refine (a1 _).mono ?_); rintro e w' ⟨rfl, rfl⟩)
                  | (go_at_call 49; (with_reducible refine n1.mono ?_); rintro e w' ⟨rfl, rfl⟩))
              all_goals
                clear k1 k2 n1
                have K1 := K1.drew
                have hY1 := World.ownsRow.drew hY1
                have hB1 := hB1.drew
                generalize (wr.setCell ⟨w.heap.size, 0, none⟩ (.bool ((c0 || !o0) || !o1))).drew = w4 at *
                have n2 := number_any w.heap.size p2 o2 ((c0 || !o0) || !o1) w4 (K1.cell 0) (K1.frozen 0)
                have K2 := K1.set_ 0 (.bool (((c0 || !o0) || !o1) || !o2))
                have hY2 := ownsRow_setCell_other hY1 (a := ⟨w.heap.size, 0, none⟩) nv (.bool (((c0 || !o0) || !o1) || !o2))
                have hB2 := below_set hB1 (p := ⟨w.heap.size, 0, none⟩) (Nat.le_refl _) (.bool (((c0 || !o0) || !o1) || !o2))
                go_wp2_with (first
                  | (go_at_call 39; (with_reducible refine (a2 _).mono ?_); rintro e w' ⟨rfl, rfl⟩)
                  | (go_at_call 49; (with_reducible refine n2.mono ?_); rintro e w' ⟨rfl, rfl⟩)
                  | (at_builtin; refine wpList_IntsO (w4.setCell ⟨w.heap.size, 0, none⟩ (.bool (((c0 || !o0) || !o1) || !o2))) rfl (.tmp 71) (.tmp 73) rfl w.heap.size _ bs p2 rfl hY2 w4.heap.size _ (size_set _ _ _) rfl (by rw [HBl.out]; omega) hB2.size ?_; intro v' w' hY' hg
                     have hB' := below_own hB2 hY2 hg
                     have K' := (K2.alloc _).grown hg (fun e => nv e.symm)
                     clear hg))
                go_roundw
                case rel =>
                  have e : (c0 || !(o0 && (o1 && o2))) = (((c0 || !o0) || !o1) || !o2) := by rw [Bool.not_and, Bool.not_and, Bool.or_assoc, Bool.or_assoc]
                  refine ⟨m + 1 + 1, v', by omega, by go_num, rfl, hB', ?_, ?_⟩
                  · show Blk w' w.heap.size _ #[.bool (c0 || !begOk 0 b0 l (m + 1))]
                    rw [HO.out, e]
                    exact K'
                  · rw [HSn.out, HS.out]
                    exact hY'
                case measure => simp [intOf]; omega
          · obtain rfl : k = n := by omega
            obtain ⟨A1, c1v, rfl⟩ := own_form' hY
            have q0 : wr.cell? ⟨w.heap.size, 0, none⟩ = some (.bool (!(s2 && r2) || !begOk 0 b0 l (k - 1))) := K.cell 0
            have hq := Reads.of_own hY
            rw [begins_len] at hq
            have HBl := Lib.hid (begins_len 0 b0 l k)
            go_wp2
            go_region
            all_goals
              go_wp2
              go_ret2
              rw [begins_len]
              refine ⟨A1, c1v, ?_, ?_, hBr.drew⟩
              · show _ = Ending.returned (.tuple #[.slice A1 k c1v, .bool (s2 && r2 && begOk (firstJ _ _) (betweenJ _ _ _) l (k - 1))])
                rw [HOV.out, ← HF.out, ← HB.out]
                rfl
              · rw [HOV.out, ← HF.out, ← HB.out]
                exact hq.drew
      · obtain rfl : b0 = 0 := by have e := HB.out; unfold betweenJ at e; rwa [if_neg h3] at e
        obtain rfl : f0 = 0 := by have e := HF.out; unfold firstJ at e; rwa [if_neg h1, if_neg h2] at e
        have d1 : (how == 1) = false := by simpa using h1
        have d2 : (how == 2) = false := by simpa using h2
        have d3 : (how == 3) = false := by simpa using h3
        have d4 : decide (how = 1) = false := by simpa using h1
        have d5 : decide (how = 2) = false := by simpa using h2
        have d6 : decide (how = 3) = false := by simpa using h3
        go_wp2
        have K2' : Blk w3 w.heap.size 79 #[.bool (!(s2 && r2) || !begOk 0 0 l (0 - 1))] := by rw [show begOk 0 0 l (0 - 1) = true from rfl, Bool.not_true, Bool.or_false, ← HW.out]; exact K2
        clear K2
        go_loopw [45, 12] (fun i s wr => ∃ (k : Nat) (v : Value), k ≤ n ∧ i = .int .i64 k ∧ v = s ∧ Below w.heap.size w wr ∧ Blk wr w.heap.size 79 #[.bool (!(s2 && r2) || !begOk 0 0 l (k - 1))] ∧ IntsO wr w.heap.size v (begins 0 0 l k)) (fun i _ _ => n - (intOf i).toNat)
        case atStart => exact ⟨0, _, Nat.zero_le _, rfl, rfl, hB2, K2', IntsO.nil _ _⟩
        case round =>
          obtain ⟨k, v, hk, rfl, rfl, hBr, K, hY⟩ := hrel
          clear K2' hB2
          have nv := own_blk_ne hY K (by decide)
          by_cases hlt : k < n
          · cases k with
            | zero =>
              have hY0 : IntsO wr w.heap.size v [] := hY
              go_wp2_with (at_builtin; refine wpList_IntsO wr rfl (.tmp 71) (.tmp 73) rfl w.heap.size v [] 0 rfl hY0 _ _ rfl rfl (by simp) hBr.size ?_; intro v' w' hY' hg
                           have hB' := below_own hBr hY hg
                           have K' := (K.alloc _).grown hg (fun e => nv e.symm)
                           clear hg)
              go_roundw
              case rel => exact ⟨0 + 1, v', by omega, by go_num, rfl, hB', K', hY'⟩
              case measure => simp [intOf]; omega
            | succ m =>
              have hsn := begins_snoc 0 0 l (m + 1)
              have hbl := begins_len 0 0 l (m + 1)
              have hml : m < l.length := by rw [HL.out]; omega
              obtain ⟨ad, u, rfl, hab, hx, hcell⟩ := (hr.below hBr).at_ (k := m) (by omega)
              obtain rfl : u = .int .i64 l[m] := by
                rw [List.getElem?_map, List.getElem?_eq_getElem hml] at hx
                simpa using hx.symm
              have hYf : wr.ownsRow w.heap.size 2 1 v (m + 1) ((begins 0 0 l (m + 1)).map (Value.int .i64)) := by have h := hY; unfold IntsO at h; rwa [hbl] at h
              obtain ⟨gb, cap, rfl, hgb, hgl⟩ := World.ownsRow.form hYf (by omega)
              have hcb := World.ownsRow.cells hYf (g := gb) rfl m (.int .i64 (begAt 0 0 l m)) (by rw [List.getElem?_map, begins_at _ _ _ _ _ (Nat.lt_succ_self m)]; rfl)
              rw [add_zero_] at hcb
              have nvb : gb ≠ w.heap.size := fun e => nv (by rw [e]; rfl)
              have HS := Lib.hid (show begAt 0 0 l (m + 1) = add2 (add2 (begAt 0 0 l m) l[m]) 0 by show add2 (add2 (begAt 0 0 l m) (l.getD m 0)) 0 = _; rw [List.getD_eq_getElem?_getD, List.getElem?_eq_getElem hml]; rfl)
              have HO := Lib.hid (show begOk 0 0 l (m + 1) = (begOk 0 0 l m && (addOk (begAt 0 0 l m) l[m] && addOk (add2 (begAt 0 0 l m) l[m]) 0)) by show (begOk 0 0 l m && (addOk (begAt 0 0 l m) (l.getD m 0) && addOk (add2 (begAt 0 0 l m) (l.getD m 0)) 0)) = _; rw [List.getD_eq_getElem?_getD, List.getElem?_eq_getElem hml]; rfl)
              have a1 := fun w => add_any (begAt 0 0 l m) l[m] w
              have a2 := fun w => add_any (add2 (begAt 0 0 l m) l[m]) 0 w
              have K : Blk wr w.heap.size 79 #[.bool (!(s2 && r2) || !begOk 0 0 l m)] := K
              have HSn := Lib.hid hsn
              have HBl := Lib.hid hbl
              clear hsn hbl hx hgb hgl hYf
              generalize (!(s2 && r2)) = c0 at *
              generalize begOk 0 0 l m = o0 at *
              generalize begAt 0 0 l m = p0 at *
              generalize l[m] = x0 at *
              generalize addOk p0 x0 = o1 at *
              generalize add2 p0 x0 = p1 at *
              generalize addOk p1 0 = o2 at *
              generalize add2 p1 0 = p2 at *
              generalize begins 0 0 l (m + 1) = bs at *
              have K1 := K.set_ 0 (.bool ((c0 || !o0) || !o1))
              have n1 := number_any w.heap.size p1 o1 (c0 || !o0) wr.drew (K.drew.cell 0) (K.drew.frozen 0)
              have hY1 := ownsRow_setCell_other hY (a := ⟨w.heap.size, 0, none⟩) nv (.bool ((c0 || !o0) || !o1))
              have hB1 := below_set hBr (p := ⟨w.heap.size, 0, none⟩) (Nat.le_refl _) (.bool ((c0 || !o0) || !o1))
              have nab : (ad.add m).block ≠ w.heap.size := by rw [block_of_add]; omega
              have k1 : wr.drew.cell? ⟨gb, m, none⟩ = some (.int .i64 p0) ∧ wr.drew.cell? (ad.add m) = some (.int .i64 x0) := ⟨hcb, hcell⟩
              have k2 : (wr.setCell ⟨w.heap.size, 0, none⟩ (.bool ((c0 || !o0) || !o1))).drew.cell? ⟨gb, m, none⟩ = some (.int .i64 p0) ∧ (wr.setCell ⟨w.heap.size, 0, none⟩ (.bool ((c0 || !o0) || !o1))).drew.cell? (ad.add m) = some (.int .i64 x0) :=
                ⟨(World.cell?_setCell_far wr ⟨w.heap.size, 0, none⟩ ⟨gb, m, none⟩ _ (Ne.symm nvb)).trans hcb, (World.cell?_setCell_far wr ⟨w.heap.size, 0, none⟩ (ad.add m) _ (Ne.symm nab)).trans hcell⟩
              have im0 : (0 : Int) ≤ (m : Int) := Int.natCast_nonneg _
              have im1 : (m : Int) < (n : Int) := by omega
              have im2 : IntKind.i64.wrap ((m : Int) + 1 - 1) = (m : Int) := by rw [IntKind.wrap_i64]; omega
              have im3 : (m : Int) < ((m + 1 : Nat) : Int) := by omega
              have im4 : IntKind.i64.wrap (((m + 1 : Nat) : Int) - 1) = (m : Int) := by rw [IntKind.wrap_i64]; omega
              have im5 : IntKind.i64.wrap (m : Int) = (m : Int) := by rw [IntKind.wrap_i64]; omega
              have im6 : (m : Int) < (m : Int) + 1 := by omega
              have mn := (Int.toNat_natCast m)
              go_wp2
              go_region_held3 (fun W' => W'.cell? ⟨gb, m, none⟩ = some (.int .i64 p0) ∧ W'.cell? (ad.add m) = some (.int .i64 x0))
                (first | (with_reducible exact k1) | (with_reducible exact k2))
                (first
                  | (go_at_call 39; (with_reducible refine (a1 _).mono ?_); rintro e w' ⟨rfl, rfl⟩)
                  | (go_at_call 49; (with_reducible refine n1.mono ?_); rintro e w' ⟨rfl, rfl⟩))
              all_goals
                clear k1 k2 n1
                have K1 := K1.drew
                have hY1 := World.ownsRow.drew hY1
                have hB1 := hB1.drew
                generalize (wr.setCell ⟨w.heap.size, 0, none⟩ (.bool ((c0 || !o0) || !o1))).drew = w4 at *
                have n2 := number_any w.heap.size p2 o2 ((c0 || !o0) || !o1) w4 (K1.cell 0) (K1.frozen 0)
                have K2 := K1.set_ 0 (.bool (((c0 || !o0) || !o1) || !o2))
                have hY2 := ownsRow_setCell_other hY1 (a := ⟨w.heap.size, 0, none⟩) nv (.bool (((c0 || !o0) || !o1) || !o2))
                have hB2 := below_set hB1 (p := ⟨w.heap.size, 0, none⟩) (Nat.le_refl _) (.bool (((c0 || !o0) || !o1) || !o2))
                go_wp2_with (first
                  | (go_at_call 39; (with_reducible refine (a2 _).mono ?_); rintro e w' ⟨rfl, rfl⟩)
                  | (go_at_call 49; (with_reducible refine n2.mono ?_); rintro e w' ⟨rfl, rfl⟩)
                  | (at_builtin; refine wpList_IntsO (w4.setCell ⟨w.heap.size, 0, none⟩ (.bool (((c0 || !o0) || !o1) || !o2))) rfl (.tmp 71) (.tmp 73) rfl w.heap.size _ bs p2 rfl hY2 w4.heap.size _ (size_set _ _ _) rfl (by rw [HBl.out]; omega) hB2.size ?_; intro v' w' hY' hg
                     have hB' := below_own hB2 hY2 hg
                     have K' := (K2.alloc _).grown hg (fun e => nv e.symm)
                     clear hg))
                go_roundw
                case rel =>
                  have e : (c0 || !(o0 && (o1 && o2))) = (((c0 || !o0) || !o1) || !o2) := by rw [Bool.not_and, Bool.not_and, Bool.or_assoc, Bool.or_assoc]
                  refine ⟨m + 1 + 1, v', by omega, by go_num, rfl, hB', ?_, ?_⟩
                  · show Blk w' w.heap.size _ #[.bool (c0 || !begOk 0 0 l (m + 1))]
                    rw [HO.out, e]
                    exact K'
                  · rw [HSn.out, HS.out]
                    exact hY'
                case measure => simp [intOf]; omega
          · obtain rfl : k = n := by omega
            obtain ⟨A1, c1v, rfl⟩ := own_form' hY
            have q0 : wr.cell? ⟨w.heap.size, 0, none⟩ = some (.bool (!(s2 && r2) || !begOk 0 0 l (k - 1))) := K.cell 0
            have hq := Reads.of_own hY
            rw [begins_len] at hq
            have HBl := Lib.hid (begins_len 0 0 l k)
            go_wp2
            go_region
            all_goals
              go_wp2
              go_ret2
              rw [begins_len]
              refine ⟨A1, c1v, ?_, ?_, hBr.drew⟩
              · show _ = Ending.returned (.tuple #[.slice A1 k c1v, .bool (s2 && r2 && begOk (firstJ _ _) (betweenJ _ _ _) l (k - 1))])
                rw [HOV.out, ← HF.out, ← HB.out]
                rfl
              · rw [HOV.out, ← HF.out, ← HB.out]
                exact hq.drew
end Go.Proofs.Ytnjnkcjhhgffjaa
