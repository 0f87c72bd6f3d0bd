/- ValueTells' walk, from what value's functions answer, and what the document's own do. Conditions: the former; the text is not too long. -/
import Derived.Test.YtcacabpcobmgoaaGreatDoorRx8N
import Derived.Test.YtcacabpcobmgoaaGreatDoorRx7Trim
import Derived.Test.YtcacabpcobmgoaaGreatDoorRx7Lower
import Derived.Test.YtcacabpcobmgoaaGreatDoorRx8E
import Derived.Test.YtcacabpcobmgoaaGreatDoorValAwake
import Derived.Laws.Rows
import Derived.Test.YtcacabpcobmgoaaGreatDoorRx8M
import Derived.Test.YtcacabpcobmgoaaGreatDoorValBackW
import Derived.Deep.RegionWith
/- The document's own answers of layer 8: Read. Conditions: the text is not too long. -/
namespace Go.Proofs.YtcacabpcobmgoaaGreatDoor
open Go.ChangeShapes Go.WideShapes Go.ChangeAt Go.RowKit
namespace Val
theorem rread_any (p : Int) (k : Nat) (hk : 1 ≤ k ∧ k < 7) (l : List UInt8) (hl : l.length ≤ mostB) (w : World) : Calls Tryz.prog 27 #[.int .i64 p, .int .i64 (k : Int), .string (toB l)] w fun e w' => ReadOut p (k : Int) l e ∧ Below w.heap.size w w' := by
  have h : k = 1 ∨ k = 2 ∨ k = 3 ∨ k = 4 ∨ k = 5 ∨ k = 6 := by omega
  rcases h with rfl | rfl | rfl | rfl | rfl | rfl
  · exact rread_auto p l w
  · exact rread_length p l hl w
  · exact rread_percent p l hl w
  · exact rread_color p l hl w
  · exact rread_word p l w
  · exact rread_number p l hl w
def oneJ (p : Int) (l : List UInt8) (j : Nat) : Option (Int × Int) := if j = 0 then none else oneP p (j : Int) l
theorem readP_J (p : Int) (l : List UInt8) : readP p l = (List.range 7).findSome? (oneJ p l) := by
  have e : (List.range 7).findSome? (oneJ p l) = ([0, 1, 2, 3, 4, 5, 6] : List Nat).findSome? (oneJ p l) := rfl
  rw [e]
  unfold readP
  simp only [List.findSome?_cons, List.findSome?_nil, oneJ]
  rfl
set_option maxRecDepth 100000 in
set_option maxHeartbeats 16000000 in
theorem rRead_any (p : Int) (s : ByteArray) (hs : s.size ≤ mostB) (w : World) : Calls Tryz.prog 9 #[.int .i64 p, .string s] w fun e w' => e = .returned (.tuple #[vO (readF p s.data.toList), .bool (readF p s.data.toList).isSome]) ∧ Below w.heap.size w w' := by
  have c1 := fun w => rtrim_any s w (by unfold mostB at hs; unfold maxLen; omega)
  have hs2 : (onB trimL s).size ≤ mostB := by
    have := trim_len s.data.toList
    rw [← Lib.size_eq] at this
    have e : (onB trimL s).size = (trimL s.data.toList).length := by show (toB (trimL s.data.toList)).size = _; rw [toB_size]
    omega
  have c2 := fun w => rlower_any (onB trimL s) w hs2
  have e2 : onB lowL (onB trimL s) = toB (lowL (trimL s.data.toList)) := rfl
  rw [e2] at c2
  have hs3 : (lowL (trimL s.data.toList)).length ≤ mostB := by
    rw [low_len]
    have e : (onB trimL s).size = (trimL s.data.toList).length := by show (toB (trimL s.data.toList)).size = _; rw [toB_size]
    omega
  obtain ⟨l, hl⟩ : ∃ l, l = lowL (trimL s.data.toList) := ⟨_, rfl⟩
  obtain ⟨R, hR⟩ : ∃ R, R = readF p s.data.toList := ⟨_, rfl⟩
  have hR2 : R = readP p l := by rw [hR, hl]; rfl
  rw [← hR]
  rw [readP_J] at hR2
  rw [← hl] at c2 hs3
  clear e2 hs2 hR hl
  have c3 := fun (k : Nat) (hk : 1 ≤ k ∧ k < 7) w => rread_any p k hk l hs3 w
  generalize onB trimL s = t1 at *
  generalize toB l = t2 at *
  clear hs3
  obtain ⟨f, hf⟩ : ∃ f : Nat → Option (Int × Int), f = oneJ p l := ⟨_, rfl⟩
  have hR3 : R = (List.range 7).findSome? f := by rw [hf]; exact hR2
  have HF := Lib.hid hR3
  have Hf := Lib.hid hf
  clear hR3 hR2 hf
  have Kr := Blk.new w 23 #[.int .i64 0, .int .i64 0]
  have hB := below_al (Below.refl w.heap.size w) (.cells #[.int .i64 0, .int .i64 0] 23)
  unfold ReadOut vV at c3
  go_enter Tryz.func9, Tryz.ntmps9
  go_wp2_with (first
    | (go_at_call 26; (with_reducible refine (c1 _).mono ?_); rintro e w1 ⟨rfl, rfl⟩)
    | (go_at_call 25; (with_reducible refine (c2 _).mono ?_); rintro e w2 ⟨rfl, hb2⟩
       have hB2 := below_next hB hb2
       have K2 := Kr.next hb2))
  clear Kr hB hb2
  go_loopw [7, 8, 9] (fun i _ _ wr => ∃ k : Nat, 1 ≤ k ∧ k ≤ 7 ∧ i = .int .i64 k ∧ Hid (∀ j : Nat, j < k → f j = none) ∧ Below w.heap.size w wr ∧ Blk wr w.heap.size 23 #[.int .i64 0, .int .i64 0]) (fun i _ _ _ => 7 - (intOf i).toNat)
  case atStart => exact ⟨1, Nat.le_refl _, by omega, rfl, fun j h => by obtain rfl : j = 0 := (by omega); rw [Hf.out]; rfl, hB2, K2⟩
  case round =>
    obtain ⟨k, hk1, hk, rfl, HK, hBr, Kr⟩ := hrel
    clear hB2 K2
    by_cases hlt : k < 7
    · have kl : (k : Int) ≤ 6 := by omega
      have c := fun w => c3 k ⟨hk1, hlt⟩ w
      have hfk : f k = oneP p (k : Int) l := by rw [Hf.out]; unfold oneJ; rw [if_neg (by omega)]
      have HFK := Lib.hid hfk
      clear hfk c3
      go_wp2_with (first
        | (go_at_call 27; (with_reducible refine (c _).mono ?_); rintro e w3 ⟨⟨n, b, rfl, ho⟩, hb3⟩
           have hB3 := below_next hBr hb3
           have K3 := Kr.next hb3
           have HO := Lib.hid (HFK.out.trans ho)
           clear ho
           have K4 := K3.alloc (.cells #[.int .i64 (k : Int), .int .i64 n] 23)
           have Kv := Blk.new w3 23 #[.int .i64 (k : Int), .int .i64 n]
           have hB4 := below_al hB3 (.cells #[.int .i64 (k : Int), .int .i64 n] 23)
           obtain ⟨cv0, cv1⟩ := blk2 Kv
           obtain ⟨cr0, cr1⟩ := blk2 K4
           obtain ⟨f0, f1⟩ := fz2 K4
           cases b))
      · have HK' : Hid (∀ j : Nat, j < k + 1 → f j = none) := by
          intro j hj
          by_cases e : j = k
          · subst e; exact HO.out
          · exact HK.out j (by omega)
        go_roundw
        case rel => exact ⟨k + 1, by omega, by omega, by go_num, HK', hB4, K4⟩
        case measure => simp [intOf]; omega
      · obtain rfl : R = some ((k : Int), n) := by rw [HF.out]; exact find_at hlt HK.out HO.out
        exact bodyPost_ret (v := .tuple #[.agg #[.int .i64 (k : Int), .int .i64 n], .bool true]) (by simp [results, Tryz.results9, go_sem, cr0, cr1]) rfl ⟨rfl, below_set (below_set hB4 (Nat.le_refl _) _) (Nat.le_refl _) _⟩
    · obtain rfl : k = 7 := by omega
      obtain rfl : R = none := by rw [HF.out]; exact find_no HK.out
      obtain ⟨cr0, cr1⟩ := blk2 Kr
      obtain ⟨f0, f1⟩ := fz2 Kr
      clear HK HF c3 Hf
      go_wp2
      exact bodyPost_ret (v := .tuple #[.agg #[.int .i64 0, .int .i64 0], .bool false]) (by simp [results, Tryz.results9, go_sem, cr0, cr1]) rfl ⟨rfl, below_set (below_set hBr (Nat.le_refl _) _) (Nat.le_refl _) _⟩
end Val
end Go.Proofs.YtcacabpcobmgoaaGreatDoor
/- The document's own answers of layer 8: First. Conditions: none. -/
namespace Go.Proofs.YtcacabpcobmgoaaGreatDoor
open Go.ChangeShapes Go.WideShapes Go.ChangeAt Go.RowKit
namespace Val
theorem first_hit_fin : ∀ p : Fin 27, ∀ k : Fin 7, 2 ≤ k.val → ¬ (p.val = 1 ∨ p.val = 2 ∨ p.val = 3 ∨ p.val = 17 ∨ p.val = 18 ∨ p.val = 21) → hasP (p.val : Int) (k.val : Int) = true → (∀ j : Fin 7, 2 ≤ j.val → j.val < k.val → hasP (p.val : Int) (j.val : Int) = false) → firstP (p.val : Int) = ((k.val : Int), 0) := by decide +kernel
theorem first_miss_fin : ∀ p : Fin 27, ¬ (p.val = 1 ∨ p.val = 2 ∨ p.val = 3 ∨ p.val = 17 ∨ p.val = 18 ∨ p.val = 21) → (∀ j : Fin 7, 2 ≤ j.val → hasP (p.val : Int) (j.val : Int) = false) → firstP (p.val : Int) = (0, 0) := by decide +kernel
set_option maxRecDepth 100000 in
set_option maxHeartbeats 8000000 in
theorem rfirst_any (p : Int) (w : World) : Calls Tryz.prog 19 #[.int .i64 p] w fun e w' => e = .returned (vV (firstP p).1 (firstP p).2) ∧ Below w.heap.size w w' := by
  unfold vV
  by_cases hs : p = 1 ∨ p = 2 ∨ p = 3 ∨ p = 17 ∨ p = 18 ∨ p = 21
  · rcases hs with rfl | rfl | rfl | rfl | rfl | rfl
    all_goals
      go_enter Tryz.func19, Tryz.ntmps19
      go_wp2
      exact bodyPost_ret (results_cell_row Tryz.results19 _ _ w.heap.size 23 _ _ _ rfl (heap_alloc_new _ _) Tryz.underlying23 rfl (by kernel_rfl)) rfl ⟨rfl, below_al (Below.refl _ _) _⟩
  · have q1 : (p == 1) = false := beq_eq_false_iff_ne.2 (by omega)
    have q2 : (p == 2) = false := beq_eq_false_iff_ne.2 (by omega)
    have q3 : (p == 3) = false := beq_eq_false_iff_ne.2 (by omega)
    have q17 : (p == 17) = false := beq_eq_false_iff_ne.2 (by omega)
    have q18 : (p == 18) = false := beq_eq_false_iff_ne.2 (by omega)
    have q21 : (p == 21) = false := beq_eq_false_iff_ne.2 (by omega)
    have HS := Lib.hid hs
    clear hs
    go_enter Tryz.func19, Tryz.ntmps19
    go_wp2
    go_loop [3] (fun i => ∃ k : Nat, 2 ≤ k ∧ k ≤ 7 ∧ i = .int .i64 k ∧ Hid (∀ j : Nat, 2 ≤ j → j < k → hasP p (j : Int) = false)) (fun i => 7 - (intOf i).toNat)
    case atStart => exact ⟨2, Nat.le_refl _, by omega, rfl, fun j h1 h2 => absurd h2 (by omega)⟩
    case round =>
      obtain ⟨k, hk2, hk, rfl, HK⟩ := hrel
      by_cases hlt : k < 7
      · have kl : (k : Int) ≤ 6 := by omega
        have c := fun w => rhas_any p (k : Int) w
        cases hh : hasP p (k : Int) with
        | true =>
          rw [hh] at c
          have hr := range_has hh
          have hf : firstP p = ((k : Int), 0) := by
            obtain ⟨q, rfl⟩ : ∃ q : Nat, p = (q : Int) := ⟨p.toNat, by omega⟩
            exact first_hit_fin ⟨q, by omega⟩ ⟨k, hlt⟩ hk2 (fun z => HS.out (by simp only at z; omega)) hh (fun j h1 h2 => HK.out j.val h1 h2)
          clear HK HS hh hr
          go_wp2_with (go_at_call 32; (with_reducible refine (c _).mono ?_); rintro e w1 ⟨rfl, rfl⟩)
          exact bodyPost_ret (results_cell_row Tryz.results19 _ _ w.heap.size 23 _ _ _ rfl (heap_alloc_new _ _) Tryz.underlying23 rfl (by kernel_rfl)) rfl ⟨by first | rfl | (rw [hf]), below_al (Below.refl _ _) _⟩
        | false =>
          rw [hh] at c
          have HK' : Hid (∀ j : Nat, 2 ≤ j → j < k + 1 → hasP p (j : Int) = false) := by
            intro j h1 h2
            by_cases e : j = k
            · subst e; exact hh
            · exact HK.out j h1 (by omega)
          clear HK hh
          go_wp2_with (go_at_call 32; (with_reducible refine (c _).mono ?_); rintro e w1 ⟨rfl, rfl⟩)
          go_round
          case rel => exact ⟨k + 1, by omega, by omega, by go_num, HK'⟩
          case measure => simp [intOf]; omega
      · obtain rfl : k = 7 := by omega
        have hf : firstP p = (0, 0) := by
          by_cases hr : 1 ≤ p ∧ p ≤ 26
          · obtain ⟨q, rfl⟩ : ∃ q : Nat, p = (q : Int) := ⟨p.toNat, by omega⟩
            exact first_miss_fin ⟨q, by omega⟩ (fun z => HS.out (by simp only at z; omega)) (fun j h1 => HK.out j.val h1 j.isLt)
          · exact first_else (by omega)
        clear HK HS
        go_wp2
        exact bodyPost_ret (results_cell_row Tryz.results19 _ _ w.heap.size 23 _ _ _ rfl (heap_alloc_new _ _) Tryz.underlying23 rfl (by kernel_rfl)) rfl ⟨by first | rfl | (rw [hf]), below_al (Below.refl _ _) _⟩
end Val
end Go.Proofs.YtcacabpcobmgoaaGreatDoor
namespace Go.Proofs.YtcacabpcobmgoaaGreatDoor
open Go.ChangeShapes Go.WideShapes Go.ChangeAt Go.RowKit
open Val (sallv)
namespace valueTells
set_option maxHeartbeats 40000000 in
set_option maxRecDepth 100000 in
theorem walk (cAwake : ∀ w, Val.Tabs w → Calls Tryz.prog 7 #[] w fun e w' => e = .returned (.bool true) ∧ Below w.heap.size w w') (cRead : Val.ReadC) (cProp : Val.PropC) (cName : Val.NameC) (cMay : Val.MayC) (cPrint : Val.PrintC) (cFirst : Val.FirstC) (cPassed : Val.PassedC)
    (p : Int) (s : ByteArray) (hs : s.size ≤ maxLen) (k n : Int) (w : World) (hT : Val.Tabs w) :
    Calls Tryz.prog 3 #[.int .i64 p, .string s, .agg #[.int .i64 k, .int .i64 n]] w fun e w' => e = .returned (.bool true) ∧ Below w.heap.size w w' := by
  unfold maxLen at hs
  have hB := below_al (Below.refl w.heap.size w) (.cells #[.int .i64 k, .int .i64 n] 23)
  by_cases h5 : 200 < s.size
  · go_enter Tryz.func3, Tryz.ntmps3
    go_wp2_with (go_at_call 7; (with_reducible refine (cAwake _ (hT.at_ hB)).mono ?_); rintro e w1 ⟨rfl, hb⟩)
    go_ret
    exact ⟨rfl, below_next hB hb⟩
  have h5' : s.size ≤ 200 := by omega
  clear h5 hs
  have hm : s.size ≤ mostB := by unfold mostB; omega
  have Kv := Blk.new w 23 #[.int .i64 k, .int .i64 n]
  have cA := fun w => cRead p s w hm
  have cB := fun w => Val.rRead_any p s hm w
  obtain ⟨ka, na, hv⟩ : ∃ ka na, vO (readF p s.data.toList) = vV ka na := by
    cases readF p s.data.toList with
    | none => exact ⟨_, _, rfl⟩
    | some x => exact ⟨_, _, rfl⟩
  rw [hv] at cA cB
  generalize (readF p s.data.toList).isSome = fb at *
  clear hv
  have d1 := fun w => cProp s w hm
  have d2 := fun w => Val.rprop_any s w
  have d3 := fun w => cName p w
  have d4 := fun w => Val.rname_any p w
  have d5 := fun w => cMay p k n w
  have d6 := fun w => Val.rmay_any p k n w
  have d7 := fun w => cPrint p k n w
  have d8 := fun w => Val.rprint_any p k n w
  have d9 := fun w => cFirst p w
  have d10 := fun w => Val.rfirst_any p w
  have d11 := fun w => cPassed p w
  have d12 := fun w => Val.rpassed_any p w
  unfold vV at *
  generalize propP s.data.toList = xp at *
  generalize toB (nameP p) = xn at *
  generalize mayP p k n = xm at *
  generalize toB (printP p k n) = xt at *
  generalize (firstP p).1 = xk at *
  generalize (firstP p).2 = xf at *
  generalize decide (p = 16 ∨ p = 18 ∨ p = 19) = xd at *
  go_enter Tryz.func3, Tryz.ntmps3
  go_upto_region 7 with (first
    | (go_at_call 7; (with_reducible refine (cAwake _ (hT.at_ hB)).mono ?_); rintro e w1 ⟨rfl, hb1⟩
       have hB1 := below_next hB hb1
       have V1 := Kv.next hb1
       clear hb1)
    | (go_at_call 8; (with_reducible refine (cA _ (hT.at_ hB1)).mono ?_); rintro e w2 ⟨rfl, hb2⟩
       have hB2 := below_al (below_next hB1 hb2) (.cells #[.int .i64 ka, .int .i64 na] 23)
       have V2 := (V1.next hb2).alloc (.cells #[.int .i64 ka, .int .i64 na] 23)
       have A2 := Blk.new w2 23 #[.int .i64 ka, .int .i64 na]
       clear hb2)
    | (go_at_call 9; (with_reducible refine (cB _).mono ?_); rintro e w3 ⟨rfl, hb3⟩
       have hB3 := below_al (below_next hB2 hb3) (.cells #[.int .i64 ka, .int .i64 na] 23)
       have V3 := (V2.next hb3).alloc (.cells #[.int .i64 ka, .int .i64 na] 23)
       have A3 := (A2.next hb3).alloc (.cells #[.int .i64 ka, .int .i64 na] 23)
       have B3 := Blk.new w3 23 #[.int .i64 ka, .int .i64 na]
       clear hb3))
  clear V1 V2 A2 hB1 hB2 cA cB cAwake Kv hB
  generalize w3.alloc (.cells #[.int .i64 ka, .int .i64 na] 23) = E at *
  generalize w3.heap.size = g3 at *
  generalize w2.heap.size = g2 at *
  have z1 := V3.lt
  have z2 := A3.lt
  have z3 := B3.lt
  obtain ⟨a0, a1⟩ := blk2 V3
  obtain ⟨b0, b1⟩ := blk2 A3
  obtain ⟨e0, e1⟩ := blk2 B3
  have q7 : ∀ W', ((∀ b o, b < E.heap.size → W'.cell? ⟨b, o, none⟩ = E.cell? ⟨b, o, none⟩) ∧ Below E.heap.size E W') → Calls Tryz.prog 16 #[.int .i64 p, .agg #[.int .i64 k, .int .i64 n]] W' fun e w' => e = .returned (.string xt) ∧ Below W'.heap.size W' w' := fun W' h => d7 W' (hT.at_ (below_next hB3 h.2))
  clear d7 V3 A3 B3
  first
  | (go_region_held3 (fun W' => (∀ b o, b < E.heap.size → W'.cell? ⟨b, o, none⟩ = E.cell? ⟨b, o, none⟩) ∧ Below E.heap.size E W')
      (first | assumption | exact ⟨fun _ _ _ => rfl, (Below.refl _ _).drew⟩)
      (first
        | (go_at_call 10; (with_reducible refine (d1 _).mono ?_); rintro e w9 ⟨rfl, hb9⟩; have S9 := sallv (by assumption) hb9)
        | (go_at_call 11; (with_reducible refine (d2 _).mono ?_); rintro e w9 ⟨rfl, hb9⟩; have S9 := sallv (by assumption) hb9)
        | (go_at_call 12; (with_reducible refine (d3 _).mono ?_); rintro e w9 ⟨rfl, hb9⟩; have S9 := sallv (by assumption) hb9)
        | (go_at_call 13; (with_reducible refine (d4 _).mono ?_); rintro e w9 ⟨rfl, hb9⟩; have S9 := sallv (by assumption) hb9)
        | (go_at_call 14; (with_reducible refine (d5 _).mono ?_); rintro e w9 ⟨rfl, hb9⟩; have S9 := sallv (by assumption) hb9)
        | (go_at_call 15; (with_reducible refine (d6 _).mono ?_); rintro e w9 ⟨rfl, hb9⟩; have S9 := sallv (by assumption) hb9)
        | (go_at_call 16; (with_reducible refine (q7 _ (by assumption)).mono ?_); rintro e w9 ⟨rfl, hb9⟩; have S9 := sallv (by assumption) hb9)
        | (go_at_call 17; (with_reducible refine (d8 _).mono ?_); rintro e w9 ⟨rfl, hb9⟩; have S9 := sallv (by assumption) hb9)
        | (go_at_call 18; (with_reducible refine (d9 _).mono ?_); rintro e w9 ⟨rfl, hb9⟩; have S9 := sallv (by assumption) hb9)
        | (go_at_call 19; (with_reducible refine (d10 _).mono ?_); rintro e w9 ⟨rfl, hb9⟩; have S9 := sallv (by assumption) hb9)
        | (go_at_call 20; (with_reducible refine (d11 _).mono ?_); rintro e w9 ⟨rfl, hb9⟩; have S9 := sallv (by assumption) hb9)
        | (go_at_call 21; (with_reducible refine (d12 _).mono ?_); rintro e w9 ⟨rfl, rfl⟩)))
  | (fail)
  all_goals
    rename_i hS
    go_wp2
    go_ret
    exact ⟨by first | rfl | (congr 2; simp), below_next hB3 hS.2⟩
end valueTells
end Go.Proofs.YtcacabpcobmgoaaGreatDoor
