/- The document's own answers of layer 8: read of a color, a number, a length, a percentage. Conditions: the text is not too long. -/
import Derived.Test.YtcacabpcobmgoaaGreatDoorRx8I
import Derived.Test.YtcacabpcobmgoaaGreatDoorValRead
/- The document's own answers of layer 8: read. Conditions: the text is not too long. -/
namespace Go.Proofs.YtcacabpcobmgoaaGreatDoor
open Go.ChangeShapes Go.WideShapes Go.ChangeAt Go.RowKit
namespace Val
/-- What read answers, of a kind. -/
def ReadOut (p k : Int) (l : List UInt8) (e : Ending) : Prop := ∃ (n : Int) (b : Bool), e = .returned (.tuple #[vV k n, .bool b]) ∧ oneP p k l = (if b = true then some (k, n) else none)
set_option maxRecDepth 100000 in
set_option maxHeartbeats 8000000 in
theorem rread_auto (p : Int) (l : List UInt8) (w : World) : Calls Tryz.prog 27 #[.int .i64 p, .int .i64 1, .string (toB l)] w fun e w' => ReadOut p 1 l e ∧ Below w.heap.size w w' := by
  have e : readK p 1 l = if l = [97, 117, 116, 111] then some 0 else none := rfl
  have hq := lit_eq l [97, 117, 116, 111]
  have e4 : (toB [97, 117, 116, 111]).toList = [97, 117, 116, 111] := by rw [ByteArray.toList_eq]; rfl
  rw [e4] at hq
  have ho : oneP p 1 l = (match readK p 1 l with | some n => if mayP p 1 n then some (1, n) else none | none => none) := rfl
  rw [e] at ho
  generalize toB l = t at *
  have cm := fun w => rmay_any p 1 0 w
  unfold vV at cm
  have KG := (Blk.new w 23 #[.int .i64 0, .int .i64 0]).alloc (.cells #[.int .i64 1, .int .i64 0] 23)
  have KV := Blk.new (w.alloc (.cells #[.int .i64 0, .int .i64 0] 23)) 23 #[.int .i64 1, .int .i64 0]
  rw [size_al] at KV
  have hBE := below_al (below_al (Below.refl w.heap.size w) (.cells #[.int .i64 0, .int .i64 0] 23)) (.cells #[.int .i64 1, .int .i64 0] 23)
  obtain ⟨cg0, cg1⟩ := blk2 KG
  obtain ⟨cv0, cv1⟩ := blk2 KV
  obtain ⟨fg0, fg1⟩ := fz2 KG
  rcases hq with ⟨h, hq⟩ | ⟨h, hq⟩
  · rw [if_pos h] at ho
    simp only at ho
    generalize mayP p 1 0 = b at *
    have HO := Lib.hid ho
    clear h e ho
    go_enter Tryz.func27, Tryz.ntmps27
    go_upto_region 29 with (fail)
    generalize (w.alloc (.cells #[.int .i64 0, .int .i64 0] 23)).alloc (.cells #[.int .i64 1, .int .i64 0] 23) = E at *
    first
    | (go_region_with (first
        | (go_at_call 15; (with_reducible refine (cm _).mono ?_); rintro e w4 ⟨rfl, hb4⟩
           have hB4 := below_next hBE.drew hb4
           have G4 := KG.drew.next hb4
           have V4 := KV.drew.next hb4
           obtain ⟨h0, h1⟩ := blk2 V4
           obtain ⟨i0, i1⟩ := blk2 G4
           obtain ⟨j0, j1⟩ := fz2 G4)))
    | (fail)
    all_goals
      go_wp2
      exact bodyPost_ret (v := .tuple #[.agg #[.int .i64 1, .int .i64 0], .bool b]) (by simp [results, Tryz.results27, go_sem, i0, i1]) rfl ⟨⟨0, b, rfl, HO.out⟩, below_set (below_set hB4 (Nat.le_refl _) _) (Nat.le_refl _) _⟩
  · rw [if_neg h] at ho
    have HO : Hid (oneP p 1 l = if false = true then some (1, 0) else none) := ho
    clear h e ho cm
    go_enter Tryz.func27, Tryz.ntmps27
    go_upto_region 29 with (fail)
    generalize (w.alloc (.cells #[.int .i64 0, .int .i64 0] 23)).alloc (.cells #[.int .i64 1, .int .i64 0] 23) = E at *
    first | (go_region_with (fail)) | (fail)
    all_goals
      go_wp2
      exact bodyPost_ret (v := .tuple #[.agg #[.int .i64 1, .int .i64 0], .bool false]) (by simp [results, Tryz.results27, go_sem, cg0, cg1]) rfl ⟨⟨0, false, rfl, HO.out⟩, below_set (below_set (hBE.drew) (Nat.le_refl _) _) (Nat.le_refl _) _⟩
end Val
end Go.Proofs.YtcacabpcobmgoaaGreatDoor
/- The document's own answers of layer 8: read of a word. Conditions: none. -/
namespace Go.Proofs.YtcacabpcobmgoaaGreatDoor
open Go.ChangeShapes Go.WideShapes Go.ChangeAt Go.RowKit
namespace Val
theorem idxOf_hit {l : List UInt8} : ∀ (ws : List (List UInt8)) (i n : Nat), ws.Nodup → ws[n]? = some l → idxOf l ws i = some (i + n) := by
  intro ws
  induction ws with
  | nil => intro i n _ h; cases h
  | cons x t ih =>
    intro i n hd h
    rw [List.nodup_cons] at hd
    unfold idxOf
    cases n with
    | zero =>
      rw [List.getElem?_cons_zero] at h
      rw [if_pos (Option.some.inj h)]
      rfl
    | succ n =>
      rw [List.getElem?_cons_succ] at h
      have hm : l ∈ t := List.mem_of_getElem? h
      rw [if_neg (fun e => hd.1 (by rw [e]; exact hm)), ih (i + 1) n hd.2 h]
      congr 1
      omega
theorem idxOf_no {l : List UInt8} : ∀ (ws : List (List UInt8)) (i : Nat), (∀ j : Nat, j < ws.length → ws[j]? ≠ some l) → idxOf l ws i = none := by
  intro ws
  induction ws with
  | nil => intro i _; rfl
  | cons x t ih =>
    intro i h
    unfold idxOf
    rw [if_neg (fun e => h 0 (by simp) (by rw [List.getElem?_cons_zero, e])), ih (i + 1) (fun j hj => by have := h (j + 1) (by rw [List.length_cons]; omega); rwa [List.getElem?_cons_succ] at this)]
theorem wordsP_nodup (p : Int) : (wordsP p).Nodup := by
  unfold wordsP
  repeat (split; · decide)
  decide
set_option maxHeartbeats 8000000 in
theorem rwords_made (p : Int) (w : World) : Calls Tryz.prog 33 #[.int .i64 p] w fun e w' => e = .returned (.slice (some ⟨w.heap.size, 0, none⟩) (wordsP p).length (wordsP p).length) ∧ w' = w.alloc (.cells (strs (wordsP p)).toArray 9) := by
  by_cases h1 : p = 1
  · subst h1
    go_enter Tryz.func33, Tryz.ntmps33
    go_wp2
    go_ret
    exact ⟨rfl, rfl⟩
  by_cases h2 : p = 19
  · subst h2
    go_enter Tryz.func33, Tryz.ntmps33
    go_wp2
    go_ret
    exact ⟨rfl, rfl⟩
  by_cases h3 : p = 22
  · subst h3
    go_enter Tryz.func33, Tryz.ntmps33
    go_wp2
    go_ret
    exact ⟨rfl, rfl⟩
  by_cases h4 : p = 23
  · subst h4
    go_enter Tryz.func33, Tryz.ntmps33
    go_wp2
    go_ret
    exact ⟨rfl, rfl⟩
  have e : wordsP p = [] := by unfold wordsP; rw [if_neg h1, if_neg h2, if_neg h3, if_neg h4]
  rw [e]
  have f1 : (p == 1) = false := beq_eq_false_iff_ne.2 h1
  have f2 : (p == 19) = false := beq_eq_false_iff_ne.2 h2
  have f3 : (p == 22) = false := beq_eq_false_iff_ne.2 h3
  have f4 : (p == 23) = false := beq_eq_false_iff_ne.2 h4
  clear h1 h2 h3 h4 e
  go_enter Tryz.func33, Tryz.ntmps33
  go_wp2
  go_ret
  exact ⟨rfl, rfl⟩
/-- What the loop has found among the first k words. -/
def Found (ws : List (List UInt8)) (l : List UInt8) (k n : Nat) (b : Bool) : Prop := if b = true then n < k ∧ ws[n]? = some l else n = 0 ∧ ∀ j : Nat, j < k → ws[j]? ≠ some l
theorem found_end {ws : List (List UInt8)} {l : List UInt8} {n : Nat} {b : Bool} (hd : ws.Nodup) (h : Found ws l ws.length n b) : idxOf l ws 0 = if b = true then some n else none := by
  unfold Found at h
  cases b with
  | true => rw [if_pos rfl] at h ⊢; rw [idxOf_hit ws 0 n hd h.2, Nat.zero_add]
  | false => rw [if_neg (by decide)] at h ⊢; exact idxOf_no ws 0 h.2
theorem found_hit {ws : List (List UInt8)} {l : List UInt8} {k : Nat} (h : ws[k]? = some l) : Found ws l (k + 1) k true := by unfold Found; rw [if_pos rfl]; exact ⟨by omega, h⟩
theorem found_miss {ws : List (List UInt8)} {l : List UInt8} {k n : Nat} {b : Bool} (h : ws[k]? ≠ some l) (hf : Found ws l k n b) : Found ws l (k + 1) n b := by
  unfold Found at *
  cases b with
  | true => rw [if_pos rfl] at hf ⊢; exact ⟨by omega, hf.2⟩
  | false =>
    rw [if_neg (by decide)] at hf ⊢
    refine ⟨hf.1, fun j hj => ?_⟩
    by_cases e : j = k
    · subst e; exact h
    · exact hf.2 j (by omega)
set_option maxRecDepth 100000 in
set_option maxHeartbeats 8000000 in
theorem rread_word (p : Int) (l : List UInt8) (w : World) : Calls Tryz.prog 27 #[.int .i64 p, .int .i64 5, .string (toB l)] w fun e w' => ReadOut p 5 l e ∧ Below w.heap.size w w' := by
  have hr : readK p 5 l = Option.map (fun n : Nat => (n : Int)) (idxOf l (wordsP p) 0) := rfl
  have KG0 := (Blk.new w 23 #[.int .i64 0, .int .i64 0]).alloc (.cells #[.int .i64 5, .int .i64 0] 23)
  have KV0 := Blk.new (w.alloc (.cells #[.int .i64 0, .int .i64 0] 23)) 23 #[.int .i64 5, .int .i64 0]
  rw [size_al] at KV0
  have hB0 := below_al (below_al (Below.refl w.heap.size w) (.cells #[.int .i64 0, .int .i64 0] 23)) (.cells #[.int .i64 5, .int .i64 0] 23)
  have cw := fun w => rwords_made p w
  have hd := wordsP_nodup p
  have h4 := wordsP_few p
  generalize wordsP p = ws at *
  have KS := Blk.new ((w.alloc (.cells #[.int .i64 0, .int .i64 0] 23)).alloc (.cells #[.int .i64 5, .int .i64 0] 23)) 9 (strs ws).toArray
  have KG1 := KG0.alloc (.cells (strs ws).toArray 9)
  have KV1 := KV0.alloc (.cells (strs ws).toArray 9)
  have hB1 := below_al hB0 (.cells (strs ws).toArray 9)
  rw [size_al, size_al] at KS
  have HDR : Hid (ws.Nodup ∧ readK p 5 l = Option.map (fun n : Nat => (n : Int)) (idxOf l ws 0)) := ⟨hd, hr⟩
  obtain ⟨t, ht⟩ : ∃ t, t = toB l := ⟨_, rfl⟩
  rw [← ht]
  have HT := Lib.hid ht
  clear hd hr KG0 KV0 hB0 ht
  go_enter Tryz.func27, Tryz.ntmps27
  go_upto_region 10 with (first
    | (go_at_call 33; (with_reducible refine (cw _).mono ?_); rintro e w1 ⟨rfl, rfl⟩))
  generalize ((w.alloc (.cells #[.int .i64 0, .int .i64 0] 23)).alloc (.cells #[.int .i64 5, .int .i64 0] 23)).alloc (.cells (strs ws).toArray 9) = E1 at *
  go_wp2
  go_loopw [9, 11] (fun s9 i wr => ∃ (k n : Nat) (b : Bool), k ≤ ws.length ∧ i = .int .i64 k ∧ s9 = .bool b ∧ n ≤ k ∧ Hid (Found ws l k n b) ∧ Below w.heap.size w wr ∧ Blk wr w.heap.size 23 #[.int .i64 0, .int .i64 0] ∧ Blk wr (w.heap.size + 1) 23 #[.int .i64 5, .int .i64 n] ∧ Blk wr (w.heap.size + 1 + 1) 9 (strs ws).toArray) (fun _ i _ => ws.length - (intOf i).toNat)
  case atStart => exact ⟨0, 0, false, Nat.zero_le _, rfl, rfl, Nat.le_refl _, ⟨rfl, fun j h => absurd h (by omega)⟩, hB1, KG1, KV1, KS⟩
  case round =>
    obtain ⟨k, n, fb, hk, rfl, rfl, hnk, HF, hBr, KGr, KVr, KSr⟩ := hrel
    clear hB1 KG1 KV1 KS
    by_cases hlt : k < ws.length
    · have hx := KSr.cell k
      have hxe : (strs ws).toArray[k]? = some (.string (toB (ws[k]'hlt))) := by
        unfold strs
        simp [hlt]
      rw [hxe] at hx
      have hge : ws[k]? = some (ws[k]'hlt) := List.getElem?_eq_getElem hlt
      obtain ⟨v0, v1⟩ := blk2 KVr
      obtain ⟨f0, f1⟩ := fz2 KVr
      by_cases he : ws[k]'hlt = l
      · have HF2 : Hid (Found ws l (k + 1) k true) := found_hit (by rw [hge, he])
        have hq : ((toB (ws[k]'hlt)).toList == t.toList) = true := (Lib.bytes_beq_iff _ _).2 (by rw [HT.out, he])
        have hBn := below_set hBr (p := ⟨w.heap.size + 1, 1, none⟩) (Nat.le_succ _) (.int .i64 (k : Int))
        have KGn := KGr.far (p := ⟨w.heap.size + 1, 1, none⟩) (Nat.ne_of_lt (Nat.lt_succ_self _)) (.int .i64 (k : Int))
        have KVn : Blk (wr.setCell ⟨w.heap.size + 1, 1, none⟩ (.int .i64 (k : Int))) (w.heap.size + 1) 23 #[.int .i64 5, .int .i64 (k : Int)] := KVr.set_ 1 (.int .i64 (k : Int))
        have KSn := KSr.far (p := ⟨w.heap.size + 1, 1, none⟩) (Nat.ne_of_gt (Nat.lt_succ_self _)) (.int .i64 (k : Int))
        clear HF he hge hxe
        generalize toB (ws[k]'hlt) = x at *
        go_wp2
        go_roundw
        case rel => exact ⟨k + 1, k, true, by omega, by go_num, rfl, by omega, HF2, hBn, KGn, KVn, KSn⟩
        case measure => simp [intOf]; omega
      · have HF2 : Hid (Found ws l (k + 1) n fb) := found_miss (by rw [hge]; intro e; exact he (Option.some.inj e)) HF.out
        have hq : ((toB (ws[k]'hlt)).toList == t.toList) = false := (Lib.bytes_beq_false_iff _ _).2 (by rw [HT.out]; intro e; exact he (by have := congrArg (fun s => s.data.toList) e; exact this))
        clear HF he hge hxe
        generalize toB (ws[k]'hlt) = x at *
        go_wp2
        go_roundw
        case rel => exact ⟨k + 1, n, fb, by omega, by go_num, rfl, by omega, HF2, hBr, KGr, KVr, KSr⟩
        case measure => simp [intOf]; omega
    · obtain rfl : k = ws.length := by omega
      have hi := found_end HDR.out.1 HF.out
      have hr := HDR.out.2
      rw [hi] at hr
      have KG := KGr
      have KV := KVr
      have hBE := hBr
      clear HF hi hnk KSr HDR
      obtain ⟨cg0, cg1⟩ := blk2 KG
      obtain ⟨cv0, cv1⟩ := blk2 KV
      obtain ⟨fg0, fg1⟩ := fz2 KG
      cases fb with
      | true =>
        rw [if_pos rfl] at hr
        have HO : Hid (oneP p 5 l = if mayP p 5 (n : Int) = true then some (5, (n : Int)) else none) := by
          show oneP p 5 l = _
          unfold oneP
          rw [hr]
          rfl
        have cm := fun w => rmay_any p 5 (n : Int) w
        unfold vV at cm
        generalize mayP p 5 (n : Int) = b at *
        clear hr
        go_upto_region 29 with (fail)
        first
        | (go_region_with (first
            | (go_at_call 15; (with_reducible refine (cm _).mono ?_); rintro e w4 ⟨rfl, hb4⟩
               have hB4 := below_next hBE.drew hb4
               have G4 := KG.drew.next hb4
               have V4 := KV.drew.next hb4
               obtain ⟨h0, h1⟩ := blk2 V4
               obtain ⟨i0, i1⟩ := blk2 G4
               obtain ⟨j0, j1⟩ := fz2 G4)))
        | (fail)
        all_goals
          go_wp2
          exact bodyPost_ret (v := .tuple #[.agg #[.int .i64 5, .int .i64 (n : Int)], .bool b]) (by simp [results, Tryz.results27, go_sem, i0, i1]) rfl ⟨⟨(n : Int), b, rfl, HO.out⟩, below_set (below_set hB4 (Nat.le_refl _) _) (Nat.le_refl _) _⟩
      | false =>
        rw [if_neg (by decide)] at hr
        have HO : Hid (oneP p 5 l = if false = true then some (5, (n : Int)) else none) := by
          show oneP p 5 l = _
          unfold oneP
          rw [hr]
          rfl
        clear hr
        go_upto_region 29 with (fail)
        first | (go_region_with (fail)) | (fail)
        all_goals
          go_wp2
          exact bodyPost_ret (v := .tuple #[.agg #[.int .i64 5, .int .i64 (n : Int)], .bool false]) (by simp [results, Tryz.results27, go_sem, cg0, cg1]) rfl ⟨⟨(n : Int), false, rfl, HO.out⟩, below_set (below_set (hBE.drew) (Nat.le_refl _) _) (Nat.le_refl _) _⟩
end Val
end Go.Proofs.YtcacabpcobmgoaaGreatDoor
namespace Go.Proofs.YtcacabpcobmgoaaGreatDoor
open Go.ChangeShapes Go.WideShapes Go.ChangeAt Go.RowKit
namespace Val
set_option maxRecDepth 100000 in
set_option maxHeartbeats 8000000 in
theorem rread_color (p : Int) (l : List UInt8) (hl : l.length ≤ mostB) (w : World) : Calls Tryz.prog 27 #[.int .i64 p, .int .i64 4, .string (toB l)] w fun e w' => ReadOut p 4 l e ∧ Below w.heap.size w w' := by
  have hz : (toB l).size ≤ mostB := by rw [toB_size]; exact hl
  have hr : readK p 4 l = Option.map (fun n : Nat => (n : Int)) (colorL l) := rfl
  have cc := fun w => rcolor_any (toB l) hz w
  rw [toB_list] at cc
  have KG0 := (Blk.new w 23 #[.int .i64 0, .int .i64 0]).alloc (.cells #[.int .i64 4, .int .i64 0] 23)
  have KV0 := Blk.new (w.alloc (.cells #[.int .i64 0, .int .i64 0] 23)) 23 #[.int .i64 4, .int .i64 0]
  rw [size_al] at KV0
  have hB0 := below_al (below_al (Below.refl w.heap.size w) (.cells #[.int .i64 0, .int .i64 0] 23)) (.cells #[.int .i64 4, .int .i64 0] 23)
  generalize toB l = t at *
  cases hc : colorL l with
  | some n =>
    rw [hc] at cc hr
    replace hr : readK p 4 l = some (n : Int) := hr
    unfold cV at cc
    have HO : Hid (oneP p 4 l = if mayP p 4 (n : Int) = true then some (4, (n : Int)) else none) := by
      show oneP p 4 l = _
      unfold oneP
      rw [hr]
    have cm := fun w => rmay_any p 4 (n : Int) w
    unfold vV at cm
    generalize mayP p 4 (n : Int) = b at *
    clear hr hc hz hl
    go_enter Tryz.func27, Tryz.ntmps27
    go_upto_region 29 with (first
      | (go_at_call 44; (with_reducible refine (cc _).mono ?_); rintro e w1 ⟨rfl, hb1⟩
         have hB1 := below_next hB0 hb1
         have G1 := KG0.next hb1
         have V1 := KV0.next hb1
         obtain ⟨a0, a1⟩ := blk2 V1
         obtain ⟨a2, a3⟩ := fz2 V1))
    have KG := G1.far (p := ⟨w.heap.size + 1, 1, none⟩) (Nat.ne_of_lt (Nat.lt_succ_self _)) (.int .i64 (n : Int))
    have KV : Blk (w1.setCell ⟨w.heap.size + 1, 1, none⟩ (.int .i64 (n : Int))) (w.heap.size + 1) 23 #[.int .i64 4, .int .i64 (n : Int)] := V1.set_ 1 (.int .i64 (n : Int))
    have hBE := below_set hB1 (p := ⟨w.heap.size + 1, 1, none⟩) (Nat.le_succ _) (.int .i64 (n : Int))
    obtain ⟨cg0, cg1⟩ := blk2 KG
    obtain ⟨cv0, cv1⟩ := blk2 KV
    obtain ⟨fg0, fg1⟩ := fz2 KG
    generalize w1.setCell ⟨w.heap.size + 1, 1, none⟩ (.int .i64 (n : Int)) = E at *
    clear G1 V1 hB1 KG0 KV0 hB0 a0 a1 a2 a3
    first
    | (go_region_with (first
        | (go_at_call 15; (with_reducible refine (cm _).mono ?_); rintro e w4 ⟨rfl, hb4⟩
           have hB4 := below_next hBE.drew hb4
           have G4 := KG.drew.next hb4
           have V4 := KV.drew.next hb4
           obtain ⟨h0, h1⟩ := blk2 V4
           obtain ⟨i0, i1⟩ := blk2 G4
           obtain ⟨j0, j1⟩ := fz2 G4)))
    | (fail)
    all_goals
      go_wp2
      exact bodyPost_ret (v := .tuple #[.agg #[.int .i64 4, .int .i64 (n : Int)], .bool b]) (by simp [results, Tryz.results27, go_sem, i0, i1]) rfl ⟨⟨(n : Int), b, rfl, HO.out⟩, below_set (below_set hB4 (Nat.le_refl _) _) (Nat.le_refl _) _⟩
  | none =>
    rw [hc] at cc hr
    replace hr : readK p 4 l = none := hr
    unfold cV at cc
    have HO : Hid (oneP p 4 l = if false = true then some (4, 0) else none) := by
      show oneP p 4 l = _
      unfold oneP
      rw [hr]
      rfl
    clear hr hc hz hl
    go_enter Tryz.func27, Tryz.ntmps27
    go_upto_region 29 with (first
      | (go_at_call 44; (with_reducible refine (cc _).mono ?_); rintro e w1 ⟨rfl, hb1⟩
         have hB1 := below_next hB0 hb1
         have G1 := KG0.next hb1
         have V1 := KV0.next hb1
         obtain ⟨a0, a1⟩ := blk2 V1
         obtain ⟨a2, a3⟩ := fz2 V1))
    have KG := G1.far (p := ⟨w.heap.size + 1, 1, none⟩) (Nat.ne_of_lt (Nat.lt_succ_self _)) (.int .i64 0)
    have KV : Blk (w1.setCell ⟨w.heap.size + 1, 1, none⟩ (.int .i64 0)) (w.heap.size + 1) 23 #[.int .i64 4, .int .i64 0] := V1.set_ 1 (.int .i64 0)
    have hBE := below_set hB1 (p := ⟨w.heap.size + 1, 1, none⟩) (Nat.le_succ _) (.int .i64 0)
    obtain ⟨cg0, cg1⟩ := blk2 KG
    obtain ⟨cv0, cv1⟩ := blk2 KV
    obtain ⟨fg0, fg1⟩ := fz2 KG
    generalize w1.setCell ⟨w.heap.size + 1, 1, none⟩ (.int .i64 0) = E at *
    clear G1 V1 hB1 KG0 KV0 hB0 a0 a1 a2 a3
    first | (go_region_with (fail)) | (fail)
    all_goals
      go_wp2
      exact bodyPost_ret (v := .tuple #[.agg #[.int .i64 4, .int .i64 0], .bool false]) (by simp [results, Tryz.results27, go_sem, cg0, cg1]) rfl ⟨⟨0, false, rfl, HO.out⟩, below_set (below_set (hBE.drew) (Nat.le_refl _) _) (Nat.le_refl _) _⟩
set_option maxRecDepth 100000 in
set_option maxHeartbeats 8000000 in
theorem rread_number (p : Int) (l : List UInt8) (hl : l.length ≤ mostB) (w : World) : Calls Tryz.prog 27 #[.int .i64 p, .int .i64 6, .string (toB l)] w fun e w' => ReadOut p 6 l e ∧ Below w.heap.size w w' := by
  have hz : (toB l).size ≤ mostB := by rw [toB_size]; exact hl
  obtain ⟨n, bb, hn, n1, n2, cc⟩ := rnumber_any (toB l).size (toB l) (Nat.le_refl _) hz
  rw [toB_list] at hn
  have hr : readK p 6 l = numL l := rfl
  rw [hn] at hr
  have KG0 := (Blk.new w 23 #[.int .i64 0, .int .i64 0]).alloc (.cells #[.int .i64 6, .int .i64 0] 23)
  have KV0 := Blk.new (w.alloc (.cells #[.int .i64 0, .int .i64 0] 23)) 23 #[.int .i64 6, .int .i64 0]
  rw [size_al] at KV0
  have hB0 := below_al (below_al (Below.refl w.heap.size w) (.cells #[.int .i64 0, .int .i64 0] 23)) (.cells #[.int .i64 6, .int .i64 0] 23)
  generalize toB l = t at *
  cases bb with
  | true =>
    rw [if_pos rfl] at hr
    have HO : Hid (oneP p 6 l = if mayP p 6 n = true then some (6, n) else none) := by
      show oneP p 6 l = _
      unfold oneP
      rw [hr]
    have cm := fun w => rmay_any p 6 n w
    unfold vV at cm
    generalize mayP p 6 n = b at *
    clear hr hn hz hl
    go_enter Tryz.func27, Tryz.ntmps27
    go_upto_region 29 with (first
      | (go_at_call 45; (with_reducible refine (cc _).mono ?_); rintro e w1 ⟨rfl, hb1⟩
         have hB1 := below_next hB0 hb1
         have G1 := KG0.next hb1
         have V1 := KV0.next hb1
         obtain ⟨a0, a1⟩ := blk2 V1
         obtain ⟨a2, a3⟩ := fz2 V1))
    have KG := G1.far (p := ⟨w.heap.size + 1, 1, none⟩) (Nat.ne_of_lt (Nat.lt_succ_self _)) (.int .i64 n)
    have KV : Blk (w1.setCell ⟨w.heap.size + 1, 1, none⟩ (.int .i64 n)) (w.heap.size + 1) 23 #[.int .i64 6, .int .i64 n] := V1.set_ 1 (.int .i64 n)
    have hBE := below_set hB1 (p := ⟨w.heap.size + 1, 1, none⟩) (Nat.le_succ _) (.int .i64 n)
    obtain ⟨cg0, cg1⟩ := blk2 KG
    obtain ⟨cv0, cv1⟩ := blk2 KV
    obtain ⟨fg0, fg1⟩ := fz2 KG
    generalize w1.setCell ⟨w.heap.size + 1, 1, none⟩ (.int .i64 n) = E at *
    clear G1 V1 hB1 KG0 KV0 hB0 a0 a1 a2 a3
    first
    | (go_region_with (first
        | (go_at_call 15; (with_reducible refine (cm _).mono ?_); rintro e w4 ⟨rfl, hb4⟩
           have hB4 := below_next hBE.drew hb4
           have G4 := KG.drew.next hb4
           have V4 := KV.drew.next hb4
           obtain ⟨h0, h1⟩ := blk2 V4
           obtain ⟨i0, i1⟩ := blk2 G4
           obtain ⟨j0, j1⟩ := fz2 G4)))
    | (fail)
    all_goals
      go_wp2
      exact bodyPost_ret (v := .tuple #[.agg #[.int .i64 6, .int .i64 n], .bool b]) (by simp [results, Tryz.results27, go_sem, i0, i1]) rfl ⟨⟨n, b, rfl, HO.out⟩, below_set (below_set hB4 (Nat.le_refl _) _) (Nat.le_refl _) _⟩
  | false =>
    rw [if_neg (by decide)] at hr
    have HO : Hid (oneP p 6 l = if false = true then some (6, n) else none) := by
      show oneP p 6 l = _
      unfold oneP
      rw [hr]
      rfl
    clear hr hn hz hl
    go_enter Tryz.func27, Tryz.ntmps27
    go_upto_region 29 with (first
      | (go_at_call 45; (with_reducible refine (cc _).mono ?_); rintro e w1 ⟨rfl, hb1⟩
         have hB1 := below_next hB0 hb1
         have G1 := KG0.next hb1
         have V1 := KV0.next hb1
         obtain ⟨a0, a1⟩ := blk2 V1
         obtain ⟨a2, a3⟩ := fz2 V1))
    have KG := G1.far (p := ⟨w.heap.size + 1, 1, none⟩) (Nat.ne_of_lt (Nat.lt_succ_self _)) (.int .i64 n)
    have KV : Blk (w1.setCell ⟨w.heap.size + 1, 1, none⟩ (.int .i64 n)) (w.heap.size + 1) 23 #[.int .i64 6, .int .i64 n] := V1.set_ 1 (.int .i64 n)
    have hBE := below_set hB1 (p := ⟨w.heap.size + 1, 1, none⟩) (Nat.le_succ _) (.int .i64 n)
    obtain ⟨cg0, cg1⟩ := blk2 KG
    obtain ⟨cv0, cv1⟩ := blk2 KV
    obtain ⟨fg0, fg1⟩ := fz2 KG
    generalize w1.setCell ⟨w.heap.size + 1, 1, none⟩ (.int .i64 n) = E at *
    clear G1 V1 hB1 KG0 KV0 hB0 a0 a1 a2 a3
    first | (go_region_with (fail)) | (fail)
    all_goals
      go_wp2
      exact bodyPost_ret (v := .tuple #[.agg #[.int .i64 6, .int .i64 n], .bool false]) (by simp [results, Tryz.results27, go_sem, cg0, cg1]) rfl ⟨⟨n, false, rfl, HO.out⟩, below_set (below_set (hBE.drew) (Nat.le_refl _) _) (Nat.le_refl _) _⟩
set_option maxRecDepth 100000 in
set_option maxHeartbeats 8000000 in
theorem rread_percent (p : Int) (l : List UInt8) (hl : l.length ≤ mostB) (w : World) : Calls Tryz.prog 27 #[.int .i64 p, .int .i64 3, .string (toB l)] w fun e w' => ReadOut p 3 l e ∧ Below w.heap.size w w' := by
  have hz : (toB l).size ≤ mostB := by rw [toB_size]; exact hl
  have ce := fun w => rends_any (toB l) ⟨#[37]⟩ hz (by decide) w
  rw [toB_list, show (⟨#[37]⟩ : ByteArray).data.toList = [37] from rfl] at ce
  have hr : readK p 3 l = (cutEnd [37] l).bind numL := rfl
  have KG0 := (Blk.new w 23 #[.int .i64 0, .int .i64 0]).alloc (.cells #[.int .i64 3, .int .i64 0] 23)
  have KV0 := Blk.new (w.alloc (.cells #[.int .i64 0, .int .i64 0] 23)) 23 #[.int .i64 3, .int .i64 0]
  rw [size_al] at KV0
  have hB0 := below_al (below_al (Below.refl w.heap.size w) (.cells #[.int .i64 0, .int .i64 0] 23)) (.cells #[.int .i64 3, .int .i64 0] 23)
  cases hc : cutEnd [37] l with
  | some t2 =>
    rw [hc] at ce hr
    replace hr : readK p 3 l = numL t2 := hr
    simp only [endV] at ce
    have hl2 : t2.length ≤ l.length := by
      unfold cutEnd at hc
      split at hc
      · rw [← Option.some.inj hc, List.length_take]; omega
      · cases hc
    obtain ⟨n, bb, hn, n1, n2, cc⟩ := rnumber_any (toB t2).size (toB t2) (Nat.le_refl _) (by rw [toB_size]; omega)
    rw [toB_list] at hn
    rw [hn] at hr
    generalize toB l = t at *
    generalize toB t2 = t3 at *
    cases bb with
    | true =>
      rw [if_pos rfl] at hr
      have HO : Hid (oneP p 3 l = if mayP p 3 n = true then some (3, n) else none) := by
        show oneP p 3 l = _
        unfold oneP
        rw [hr]
      have cm := fun w => rmay_any p 3 n w
      unfold vV at cm
      generalize mayP p 3 n = b at *
      clear hr hn hz hl hc hl2
      go_enter Tryz.func27, Tryz.ntmps27
      go_upto_region 29 with (first
        | (go_at_call 46; (with_reducible refine (ce _).mono ?_); rintro e w0 ⟨rfl, rfl⟩)
        | (go_at_call 45; (with_reducible refine (cc _).mono ?_); rintro e w1 ⟨rfl, hb1⟩
           have hB1 := below_next hB0 hb1
           have G1 := KG0.next hb1
           have V1 := KV0.next hb1
           obtain ⟨a0, a1⟩ := blk2 V1
           obtain ⟨a2, a3⟩ := fz2 V1))
      have KG := G1.far (p := ⟨w.heap.size + 1, 1, none⟩) (Nat.ne_of_lt (Nat.lt_succ_self _)) (.int .i64 n)
      have KV : Blk (w1.setCell ⟨w.heap.size + 1, 1, none⟩ (.int .i64 n)) (w.heap.size + 1) 23 #[.int .i64 3, .int .i64 n] := V1.set_ 1 (.int .i64 n)
      have hBE := below_set hB1 (p := ⟨w.heap.size + 1, 1, none⟩) (Nat.le_succ _) (.int .i64 n)
      obtain ⟨cg0, cg1⟩ := blk2 KG
      obtain ⟨cv0, cv1⟩ := blk2 KV
      obtain ⟨fg0, fg1⟩ := fz2 KG
      generalize w1.setCell ⟨w.heap.size + 1, 1, none⟩ (.int .i64 n) = E at *
      clear G1 V1 hB1 KG0 KV0 hB0 a0 a1 a2 a3
      first
      | (go_region_with (first
          | (go_at_call 15; (with_reducible refine (cm _).mono ?_); rintro e w4 ⟨rfl, hb4⟩
             have hB4 := below_next hBE.drew hb4
             have G4 := KG.drew.next hb4
             have V4 := KV.drew.next hb4
             obtain ⟨h0, h1⟩ := blk2 V4
             obtain ⟨i0, i1⟩ := blk2 G4
             obtain ⟨j0, j1⟩ := fz2 G4)))
      | (fail)
      all_goals
        go_wp2
        exact bodyPost_ret (v := .tuple #[.agg #[.int .i64 3, .int .i64 n], .bool b]) (by simp [results, Tryz.results27, go_sem, i0, i1]) rfl ⟨⟨n, b, rfl, HO.out⟩, below_set (below_set hB4 (Nat.le_refl _) _) (Nat.le_refl _) _⟩
    | false =>
      rw [if_neg (by decide)] at hr
      have HO : Hid (oneP p 3 l = if false = true then some (3, n) else none) := by
        show oneP p 3 l = _
        unfold oneP
        rw [hr]
        rfl
      clear hr hn hz hl hc hl2
      go_enter Tryz.func27, Tryz.ntmps27
      go_upto_region 29 with (first
        | (go_at_call 46; (with_reducible refine (ce _).mono ?_); rintro e w0 ⟨rfl, rfl⟩)
        | (go_at_call 45; (with_reducible refine (cc _).mono ?_); rintro e w1 ⟨rfl, hb1⟩
           have hB1 := below_next hB0 hb1
           have G1 := KG0.next hb1
           have V1 := KV0.next hb1
           obtain ⟨a0, a1⟩ := blk2 V1
           obtain ⟨a2, a3⟩ := fz2 V1))
      have KG := G1.far (p := ⟨w.heap.size + 1, 1, none⟩) (Nat.ne_of_lt (Nat.lt_succ_self _)) (.int .i64 n)
      have KV : Blk (w1.setCell ⟨w.heap.size + 1, 1, none⟩ (.int .i64 n)) (w.heap.size + 1) 23 #[.int .i64 3, .int .i64 n] := V1.set_ 1 (.int .i64 n)
      have hBE := below_set hB1 (p := ⟨w.heap.size + 1, 1, none⟩) (Nat.le_succ _) (.int .i64 n)
      obtain ⟨cg0, cg1⟩ := blk2 KG
      obtain ⟨cv0, cv1⟩ := blk2 KV
      obtain ⟨fg0, fg1⟩ := fz2 KG
      generalize w1.setCell ⟨w.heap.size + 1, 1, none⟩ (.int .i64 n) = E at *
      clear G1 V1 hB1 KG0 KV0 hB0 a0 a1 a2 a3
      first | (go_region_with (fail)) | (fail)
      all_goals
        go_wp2
        exact bodyPost_ret (v := .tuple #[.agg #[.int .i64 3, .int .i64 n], .bool false]) (by simp [results, Tryz.results27, go_sem, cg0, cg1]) rfl ⟨⟨n, false, rfl, HO.out⟩, below_set (below_set (hBE.drew) (Nat.le_refl _) _) (Nat.le_refl _) _⟩
  | none =>
    rw [hc] at ce hr
    replace hr : readK p 3 l = none := hr
    simp only [endV] at ce
    obtain ⟨n, bb, hn, n1, n2, cc⟩ := rnumber_any 0 ⟨#[]⟩ (by decide) (by decide)
    obtain rfl : bb = false := by cases bb with
      | false => rfl
      | true => cases hn
    generalize toB l = t at *
    have HO : Hid (oneP p 3 l = if false = true then some (3, n) else none) := by
      show oneP p 3 l = _
      unfold oneP
      rw [hr]
      rfl
    clear hr hn hz hl hc
    go_enter Tryz.func27, Tryz.ntmps27
    go_upto_region 29 with (first
      | (go_at_call 46; (with_reducible refine (ce _).mono ?_); rintro e w0 ⟨rfl, rfl⟩)
      | (go_at_call 45; (with_reducible refine (cc _).mono ?_); rintro e w1 ⟨rfl, hb1⟩
         have hB1 := below_next hB0 hb1
         have G1 := KG0.next hb1
         have V1 := KV0.next hb1
         obtain ⟨a0, a1⟩ := blk2 V1
         obtain ⟨a2, a3⟩ := fz2 V1))
    have KG := G1.far (p := ⟨w.heap.size + 1, 1, none⟩) (Nat.ne_of_lt (Nat.lt_succ_self _)) (.int .i64 n)
    have KV : Blk (w1.setCell ⟨w.heap.size + 1, 1, none⟩ (.int .i64 n)) (w.heap.size + 1) 23 #[.int .i64 3, .int .i64 n] := V1.set_ 1 (.int .i64 n)
    have hBE := below_set hB1 (p := ⟨w.heap.size + 1, 1, none⟩) (Nat.le_succ _) (.int .i64 n)
    obtain ⟨cg0, cg1⟩ := blk2 KG
    obtain ⟨cv0, cv1⟩ := blk2 KV
    obtain ⟨fg0, fg1⟩ := fz2 KG
    generalize w1.setCell ⟨w.heap.size + 1, 1, none⟩ (.int .i64 n) = E at *
    clear G1 V1 hB1 KG0 KV0 hB0 a0 a1 a2 a3
    first | (go_region_with (fail)) | (fail)
    all_goals
      go_wp2
      exact bodyPost_ret (v := .tuple #[.agg #[.int .i64 3, .int .i64 n], .bool false]) (by simp [results, Tryz.results27, go_sem, cg0, cg1]) rfl ⟨⟨n, false, rfl, HO.out⟩, below_set (below_set (hBE.drew) (Nat.le_refl _) _) (Nat.le_refl _) _⟩
set_option maxRecDepth 100000 in
set_option maxHeartbeats 8000000 in
theorem rread_length (p : Int) (l : List UInt8) (hl : l.length ≤ mostB) (w : World) : Calls Tryz.prog 27 #[.int .i64 p, .int .i64 2, .string (toB l)] w fun e w' => ReadOut p 2 l e ∧ Below w.heap.size w w' := by
  have hz : (toB l).size ≤ mostB := by rw [toB_size]; exact hl
  have ce := fun w => rends_any (toB l) ⟨#[112, 120]⟩ hz (by decide) w
  rw [toB_list, show (⟨#[112, 120]⟩ : ByteArray).data.toList = [112, 120] from rfl] at ce
  have hr : readK p 2 l = if l = [48] then some 0 else (cutEnd [112, 120] l).bind numL := rfl
  have KG0 := (Blk.new w 23 #[.int .i64 0, .int .i64 0]).alloc (.cells #[.int .i64 2, .int .i64 0] 23)
  have KV0 := Blk.new (w.alloc (.cells #[.int .i64 0, .int .i64 0] 23)) 23 #[.int .i64 2, .int .i64 0]
  rw [size_al] at KV0
  have hB0 := below_al (below_al (Below.refl w.heap.size w) (.cells #[.int .i64 0, .int .i64 0] 23)) (.cells #[.int .i64 2, .int .i64 0] 23)
  by_cases h : l = [48]
  · subst h
    rw [if_pos rfl] at hr
    obtain ⟨n, bb, hn, n1, n2, cc⟩ := rnumber_any 1 ⟨#[48]⟩ (by decide) (by decide)
    have h0 : numL (⟨#[48]⟩ : ByteArray).data.toList = some 0 := by decide
    rw [h0] at hn
    obtain rfl : bb = true := by cases bb with
      | true => rfl
      | false => cases hn
    obtain rfl : n = 0 := (Option.some.inj hn).symm
    rw [show cutEnd [112, 120] [48] = none from by decide] at ce
    simp only [endV] at ce
    rw [show toB [48] = ⟨#[48]⟩ from rfl] at ce ⊢
    have HO : Hid (oneP p 2 [48] = if mayP p 2 0 = true then some (2, 0) else none) := by
      show oneP p 2 [48] = _
      unfold oneP
      rw [hr]
    have cm := fun w => rmay_any p 2 0 w
    unfold vV at cm
    generalize mayP p 2 0 = b at *
    clear hr hn h0 hz hl
    go_enter Tryz.func27, Tryz.ntmps27
    go_upto_region 29 with (first
      | (go_at_call 46; (with_reducible refine (ce _).mono ?_); rintro e w0 ⟨rfl, rfl⟩)
      | (go_at_call 45; (with_reducible refine (cc _).mono ?_); rintro e w1 ⟨rfl, hb1⟩
         have hB1 := below_next hB0 hb1
         have G1 := KG0.next hb1
         have V1 := KV0.next hb1
         obtain ⟨a0, a1⟩ := blk2 V1
         obtain ⟨a2, a3⟩ := fz2 V1))
    have KG := G1.far (p := ⟨w.heap.size + 1, 1, none⟩) (Nat.ne_of_lt (Nat.lt_succ_self _)) (.int .i64 0)
    have KV : Blk (w1.setCell ⟨w.heap.size + 1, 1, none⟩ (.int .i64 0)) (w.heap.size + 1) 23 #[.int .i64 2, .int .i64 0] := V1.set_ 1 (.int .i64 0)
    have hBE := below_set hB1 (p := ⟨w.heap.size + 1, 1, none⟩) (Nat.le_succ _) (.int .i64 0)
    obtain ⟨cg0, cg1⟩ := blk2 KG
    obtain ⟨cv0, cv1⟩ := blk2 KV
    obtain ⟨fg0, fg1⟩ := fz2 KG
    generalize w1.setCell ⟨w.heap.size + 1, 1, none⟩ (.int .i64 0) = E at *
    clear G1 V1 hB1 KG0 KV0 hB0 a0 a1 a2 a3
    first
    | (go_region_with (first
        | (go_at_call 15; (with_reducible refine (cm _).mono ?_); rintro e w4 ⟨rfl, hb4⟩
           have hB4 := below_next hBE.drew hb4
           have G4 := KG.drew.next hb4
           have V4 := KV.drew.next hb4
           obtain ⟨h0, h1⟩ := blk2 V4
           obtain ⟨i0, i1⟩ := blk2 G4
           obtain ⟨j0, j1⟩ := fz2 G4)))
    | (fail)
    all_goals
      go_wp2
      exact bodyPost_ret (v := .tuple #[.agg #[.int .i64 2, .int .i64 0], .bool b]) (by simp [results, Tryz.results27, go_sem, i0, i1]) rfl ⟨⟨0, b, rfl, HO.out⟩, below_set (below_set hB4 (Nat.le_refl _) _) (Nat.le_refl _) _⟩
  · rw [if_neg h] at hr
    have hq : ((toB l).toList == [48]) = false := by
      rw [beq_eq_false_iff_ne, ByteArray.toList_eq]
      exact h
    clear h
    cases hc : cutEnd [112, 120] l with
    | some t2 =>
      rw [hc] at ce hr
      replace hr : readK p 2 l = numL t2 := hr
      simp only [endV] at ce
      have hl2 : t2.length ≤ l.length := by
        unfold cutEnd at hc
        split at hc
        · rw [← Option.some.inj hc, List.length_take]; omega
        · cases hc
      obtain ⟨n, bb, hn, n1, n2, cc⟩ := rnumber_any (toB t2).size (toB t2) (Nat.le_refl _) (by rw [toB_size]; omega)
      rw [toB_list] at hn
      rw [hn] at hr
      generalize toB l = t at *
      generalize toB t2 = t3 at *
      cases bb with
      | true =>
        rw [if_pos rfl] at hr
        have HO : Hid (oneP p 2 l = if mayP p 2 n = true then some (2, n) else none) := by
          show oneP p 2 l = _
          unfold oneP
          rw [hr]
        have cm := fun w => rmay_any p 2 n w
        unfold vV at cm
        generalize mayP p 2 n = b at *
        clear hr hn hz hl hc hl2
        go_enter Tryz.func27, Tryz.ntmps27
        go_upto_region 29 with (first
          | (go_at_call 46; (with_reducible refine (ce _).mono ?_); rintro e w0 ⟨rfl, rfl⟩)
          | (go_at_call 45; (with_reducible refine (cc _).mono ?_); rintro e w1 ⟨rfl, hb1⟩
             have hB1 := below_next hB0 hb1
             have G1 := KG0.next hb1
             have V1 := KV0.next hb1
             obtain ⟨a0, a1⟩ := blk2 V1
             obtain ⟨a2, a3⟩ := fz2 V1))
        have KG := G1.far (p := ⟨w.heap.size + 1, 1, none⟩) (Nat.ne_of_lt (Nat.lt_succ_self _)) (.int .i64 n)
        have KV : Blk (w1.setCell ⟨w.heap.size + 1, 1, none⟩ (.int .i64 n)) (w.heap.size + 1) 23 #[.int .i64 2, .int .i64 n] := V1.set_ 1 (.int .i64 n)
        have hBE := below_set hB1 (p := ⟨w.heap.size + 1, 1, none⟩) (Nat.le_succ _) (.int .i64 n)
        obtain ⟨cg0, cg1⟩ := blk2 KG
        obtain ⟨cv0, cv1⟩ := blk2 KV
        obtain ⟨fg0, fg1⟩ := fz2 KG
        generalize w1.setCell ⟨w.heap.size + 1, 1, none⟩ (.int .i64 n) = E at *
        clear G1 V1 hB1 KG0 KV0 hB0 a0 a1 a2 a3
        first
        | (go_region_with (first
            | (go_at_call 15; (with_reducible refine (cm _).mono ?_); rintro e w4 ⟨rfl, hb4⟩
               have hB4 := below_next hBE.drew hb4
               have G4 := KG.drew.next hb4
               have V4 := KV.drew.next hb4
               obtain ⟨h0, h1⟩ := blk2 V4
               obtain ⟨i0, i1⟩ := blk2 G4
               obtain ⟨j0, j1⟩ := fz2 G4)))
        | (fail)
        all_goals
          go_wp2
          exact bodyPost_ret (v := .tuple #[.agg #[.int .i64 2, .int .i64 n], .bool b]) (by simp [results, Tryz.results27, go_sem, i0, i1]) rfl ⟨⟨n, b, rfl, HO.out⟩, below_set (below_set hB4 (Nat.le_refl _) _) (Nat.le_refl _) _⟩
      | false =>
        rw [if_neg (by decide)] at hr
        have HO : Hid (oneP p 2 l = if false = true then some (2, n) else none) := by
          show oneP p 2 l = _
          unfold oneP
          rw [hr]
          rfl
        clear hr hn hz hl hc hl2
        go_enter Tryz.func27, Tryz.ntmps27
        go_upto_region 29 with (first
          | (go_at_call 46; (with_reducible refine (ce _).mono ?_); rintro e w0 ⟨rfl, rfl⟩)
          | (go_at_call 45; (with_reducible refine (cc _).mono ?_); rintro e w1 ⟨rfl, hb1⟩
             have hB1 := below_next hB0 hb1
             have G1 := KG0.next hb1
             have V1 := KV0.next hb1
             obtain ⟨a0, a1⟩ := blk2 V1
             obtain ⟨a2, a3⟩ := fz2 V1))
        have KG := G1.far (p := ⟨w.heap.size + 1, 1, none⟩) (Nat.ne_of_lt (Nat.lt_succ_self _)) (.int .i64 n)
        have KV : Blk (w1.setCell ⟨w.heap.size + 1, 1, none⟩ (.int .i64 n)) (w.heap.size + 1) 23 #[.int .i64 2, .int .i64 n] := V1.set_ 1 (.int .i64 n)
        have hBE := below_set hB1 (p := ⟨w.heap.size + 1, 1, none⟩) (Nat.le_succ _) (.int .i64 n)
        obtain ⟨cg0, cg1⟩ := blk2 KG
        obtain ⟨cv0, cv1⟩ := blk2 KV
        obtain ⟨fg0, fg1⟩ := fz2 KG
        generalize w1.setCell ⟨w.heap.size + 1, 1, none⟩ (.int .i64 n) = E at *
        clear G1 V1 hB1 KG0 KV0 hB0 a0 a1 a2 a3
        first | (go_region_with (fail)) | (fail)
        all_goals
          go_wp2
          exact bodyPost_ret (v := .tuple #[.agg #[.int .i64 2, .int .i64 n], .bool false]) (by simp [results, Tryz.results27, go_sem, cg0, cg1]) rfl ⟨⟨n, false, rfl, HO.out⟩, below_set (below_set (hBE.drew) (Nat.le_refl _) _) (Nat.le_refl _) _⟩
    | none =>
      rw [hc] at ce hr
      replace hr : readK p 2 l = none := hr
      simp only [endV] at ce
      obtain ⟨n, bb, hn, n1, n2, cc⟩ := rnumber_any 0 ⟨#[]⟩ (by decide) (by decide)
      obtain rfl : bb = false := by cases bb with
        | false => rfl
        | true => cases hn
      generalize toB l = t at *
      have HO : Hid (oneP p 2 l = if false = true then some (2, n) else none) := by
        show oneP p 2 l = _
        unfold oneP
        rw [hr]
        rfl
      clear hr hn hz hl hc
      go_enter Tryz.func27, Tryz.ntmps27
      go_upto_region 29 with (first
        | (go_at_call 46; (with_reducible refine (ce _).mono ?_); rintro e w0 ⟨rfl, rfl⟩)
        | (go_at_call 45; (with_reducible refine (cc _).mono ?_); rintro e w1 ⟨rfl, hb1⟩
           have hB1 := below_next hB0 hb1
           have G1 := KG0.next hb1
           have V1 := KV0.next hb1
           obtain ⟨a0, a1⟩ := blk2 V1
           obtain ⟨a2, a3⟩ := fz2 V1))
      have KG := G1.far (p := ⟨w.heap.size + 1, 1, none⟩) (Nat.ne_of_lt (Nat.lt_succ_self _)) (.int .i64 n)
      have KV : Blk (w1.setCell ⟨w.heap.size + 1, 1, none⟩ (.int .i64 n)) (w.heap.size + 1) 23 #[.int .i64 2, .int .i64 n] := V1.set_ 1 (.int .i64 n)
      have hBE := below_set hB1 (p := ⟨w.heap.size + 1, 1, none⟩) (Nat.le_succ _) (.int .i64 n)
      obtain ⟨cg0, cg1⟩ := blk2 KG
      obtain ⟨cv0, cv1⟩ := blk2 KV
      obtain ⟨fg0, fg1⟩ := fz2 KG
      generalize w1.setCell ⟨w.heap.size + 1, 1, none⟩ (.int .i64 n) = E at *
      clear G1 V1 hB1 KG0 KV0 hB0 a0 a1 a2 a3
      first | (go_region_with (fail)) | (fail)
      all_goals
        go_wp2
        exact bodyPost_ret (v := .tuple #[.agg #[.int .i64 2, .int .i64 n], .bool false]) (by simp [results, Tryz.results27, go_sem, cg0, cg1]) rfl ⟨⟨n, false, rfl, HO.out⟩, below_set (below_set (hBE.drew) (Nat.le_refl _) _) (Nat.le_refl _) _⟩
end Val
end Go.Proofs.YtcacabpcobmgoaaGreatDoor
