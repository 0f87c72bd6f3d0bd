/- MeterDoes' walk, from what meter's functions answer. Conditions: those answers; the list lies in memory as it is read. -/
import Derived.Test.YtbcbjcdpcbjhnaaMeterSpec
import Derived.Test.YtbcbjcdpcbjhnaaRx3
import Derived.Test.YtbcbjcdpcbjhnaaStillE
import Derived.Deep.RegionHeld3
import Derived.Deep.DrawnRows
namespace Go.Proofs.Ytbcbjcdpcbjhnaa
open Go.ChangeShapes Go.WideShapes Go.ChangeAt Go.RowKit
namespace meterDoes
theorem rest_of_held {P : Program} {ops : Array Oper} {Q : Exit → Act → World → Prop} {S : World → Prop} {md : Region.Mode} {N2 : Nat} {done : Array Bool} {a : Act} {w : World} (h : wpAnyH P md ops Q S N2 done a w) : beforeRest P md ops Q N2 done .normal a w := wpAny_of_held _ _ _ _ h
theorem held_at {P : Program} {ops : Array Oper} {Q : Exit → Act → World → Prop} {md : Region.Mode} {S : World → Prop} {i : Nat} (d : Nat) {oi : Oper} {v : Value} {fuel : Nat} {listed : Array Bool} {a : Act} {w : World} (hi : ops[i]? = some oi) (hd : oi.dst = some d)
    (hB : (Region.noSelect ops && (Region.free md ops listed i && (Region.ready md ops listed).contains i)) = true)
    (hQ : ∀ c a w, Q (.panic c) (a.put oi.dst v) w → Q (.panic c) a w) (hw : Region.wanted oi (yielded ops a.tmps) = true) (hS : S w) (hy : ∀ w, S w → (execOp a.eval oi).run P w = .ok (.value v) w)
    (rest : wpAnyH P md ops Q S fuel (listed.setIfInBounds i true) { a with tmps := a.tmps.setIfInBounds d v } w) : wpAnyH P md ops Q S (fuel + 1) listed a w :=
  held_take hi hB hQ hw hS hy (by unfold Act.put; rw [hd]; exact rest)
attribute [local go_sem ↓] Go.wp_at_zero Go.wp_at_succ
set_option maxHeartbeats 40000000 in
set_option maxRecDepth 100000 in
theorem walk (cAwake : ∀ w, Calls Try.prog 6 #[] w fun e w' => e = .returned (.bool true) ∧ Below w.heap.size w w') (cNew : NewC) (cNo : NoC) (cTake : TakeC) (cTaken : TakenC) (cLeft : LeftC) (cOver : OverC) (cBound : BoundC)
    (lim : Int) (A : Option Addr) (n c : Nat) (l : List Int) (nn rr bb : Int) (w : World) (hn : n ≤ 17592186043904) (hr : Reads w w.heap.size 1 A n (l.map (Value.int .i64))) :
    Calls Try.prog 3 #[.int .i64 lim, .slice A n c, .int .i64 nn, .int .i64 rr, .int .i64 bb] w fun e w' => e = .returned (.bool true) ∧ Below w.heap.size w w' := by
  by_cases h5 : 200 < n
  · go_enter Try.func3, Try.ntmps3
    go_wp2_with (go_at_call 6; refine (cAwake _).mono ?_; rintro e w1 ⟨rfl, hb⟩)
    go_ret
    exact ⟨rfl, hb⟩
  have h5' : n ≤ 200 := by omega
  clear h5
  by_cases hl : lim < 0 ∨ 1099511627776 < lim
  · have c1 := fun w => cNo lim w hl
    have c2 := fun w => rno_any lim w hl
    have c3 := fun w => cBound nn rr bb w
    have c4 := fun w => rbound_any nn rr bb w
    generalize bound nn rr bb = bd at *
    clear hl
    go_enter Try.func3, Try.ntmps3
    go_wp2_with (first
      | (go_at_call 6; refine (cAwake _).mono ?_; rintro e w1 ⟨rfl, hb1⟩; have hB := hb1; clear hb1)
      | (go_at_call 7; (with_reducible refine (c1 _).mono ?_); rintro e w2 ⟨rfl, hb2⟩; have hB2 := below_next hB hb2; clear hb2)
      | (go_at_call 8; (with_reducible refine (c2 _).mono ?_); rintro e w2 ⟨rfl, hb2⟩; have hB3 := below_next hB2 hb2; clear hb2)
      | (go_at_call 9; (with_reducible refine (c3 _).mono ?_); rintro e w2 ⟨rfl, hb2⟩; have hB4 := below_next hB3 hb2; clear hb2)
      | (go_at_call 10; (with_reducible refine (c4 _).mono ?_); rintro e w2 ⟨rfl, rfl⟩))
    go_loop [15] (fun i => i = .int .i64 0) (fun _ => 0)
    case atStart => exact rfl
    case round =>
      obtain rfl := hrel
      go_wp2
      go_ret
      exact ⟨rfl, hB4⟩
  · have l1 : 0 ≤ lim := by omega
    have l2 : lim ≤ 1099511627776 := by omega
    have c1 := fun w => cNew lim w l1 l2
    have c2 := fun w => rnew_any lim w l1 l2
    have c3 := fun w => cBound nn rr bb w
    have c4 := fun w => rbound_any nn rr bb w
    generalize bound nn rr bb = bd at *
    clear hl
    go_enter Try.func3, Try.ntmps3
    go_wp2_with (first
      | (go_at_call 6; refine (cAwake _).mono ?_; rintro e w1 ⟨rfl, hb1⟩)
      | (go_at_call 7; (with_reducible refine (c1 _).mono ?_); rintro e w2 ⟨rfl, K2, hb2⟩; have hle := hb1.size; have hB2 := below_next hb1 hb2; clear hb1 hb2)
      | (go_at_call 8; (with_reducible refine (c2 _).mono ?_); rintro e w3 ⟨rfl, L3, hb3⟩; have hB3 := below_next hB2 hb3; have K3 := K2.next hb3; have hne := K2.lt; clear hb3)
      | (go_at_call 9; (with_reducible refine (c3 _).mono ?_); rintro e w4 ⟨rfl, hb4⟩; have hB4 := below_next hB3 hb4; have K4 := K3.next hb4; have L4 := L3.next hb4; clear hb4)
      | (go_at_call 10; (with_reducible refine (c4 _).mono ?_); rintro e w5 ⟨rfl, rfl⟩))
    have hlh := hB2.size
    have hlen : l.length = n := by have := hr.1; simpa using this
    clear c1 c2 c3 c4 K2 K3 L3 hB2 hB3
    generalize w1.heap.size = g at *
    generalize w2.heap.size = h at *
    have hm0 := mtr_new l1 l2
    go_loopw [15] (fun i wr => ∃ (k : Nat) (t : Int) (o : Bool), k ≤ n ∧ i = .int .i64 k ∧ mtr lim t o ∧ Below w.heap.size w wr ∧ Blk wr g 52 (enc lim t o) ∧ Blk wr h 35 (encR lim t o)) (fun i _ => n - (intOf i).toNat)
    case atStart => exact ⟨0, 0, false, Nat.zero_le _, rfl, hm0, hB4, K4, L4⟩
    case round =>
      obtain ⟨k, t, o, hk, rfl, mk, hBr, Kr, Lr⟩ := hrel
      by_cases hlt : k < n
      · have hkl : k < l.length := by omega
        obtain ⟨x, hxe⟩ : ∃ x, l[k]? = some x := ⟨l[k], List.getElem?_eq_getElem hkl⟩
        obtain ⟨ad, rfl, hab, hcc⟩ := hr.2 (by omega)
        have HC : Hid (∀ W, Below w.heap.size w W → W.cell? (ad.add k) = some (.int .i64 x)) := by
          intro W hW
          have hx : (l.map (Value.int .i64))[k]? = some (.int .i64 x) := by rw [List.getElem?_map, hxe]; rfl
          rw [hW.cell (p := ad.add k) (by rw [block_of_add]; exact hab)]
          exact hcc k _ hx
        clear hcc hxe
        have mk' := mtr_take mk x
        have ct := fun w K => cTake g lim t o x w mk K
        have rt := fun w K => rtake_any h lim t o x w mk K
        have e1 := fun w K => cTaken g lim (takeT lim t o x) (takeO lim t o x) w mk' K
        have e2 := fun w K => cOver g lim (takeT lim t o x) (takeO lim t o x) w mk' K
        have e3 := fun w K => cLeft g lim (takeT lim t o x) (takeO lim t o x) w mk' K
        generalize takeB lim t o x = tb at *
        generalize takeT lim t o x = tt at *
        generalize takeO lim t o x = to at *
        have MK := Lib.hid mk'
        obtain ⟨m1, m2, m3, m4⟩ := mk'
        clear m4 hr mk hm0
        have q2 : IntKind.i64.wrap tt = tt := IntWalk.i64_in _ (by omega)
        have q4 : IntKind.i64.wrap (lim - (lim - tt)) = tt := by rw [show lim - (lim - tt) = tt by omega]; exact q2
        have q3 : 0 ≤ lim - tt := by omega
        have hc0 := HC.out _ hBr.drew
        have hB5 := hBr.drew
        have K5 := Kr.drew
        have L5 := Lr.drew
        go_wp2
        refine region_split (m := 13) (N2 := 31) (done := #[true, true, true, true, true, true, true, true, true, true, true, true, true, true, false, false, false, false, false, false, false, false, false, false, false, false, false, false, false, false, false, false, false, false, false, false, false, false, false, false, false, false, false, false, false]) (S1 := fun w' => w'.cell? (ad.add k) = some (.int .i64 x)) (by kernel_rfl) (by kernel_rfl) (by kernel_rfl) (by kernel_rfl) hc0 (fun hHeld => ?_)
        refine held_at (i := 0) 62 (v := ?_) rfl rfl (by kernel_rfl) (fun _ _ _ h => h) rfl (by assumption) ?_ ?_
        rotate_left
        · intro w9 hSw; (try dsimp only at hSw); (try go_split_ands); go_simp; (try with_reducible rfl)
        (try simp only [List.setIfInBounds_toArray]); (try simp only [List.set_cons_succ]); (try simp only [List.set_cons_zero])
        refine held_at (i := 1) 63 (v := ?_) rfl rfl (by kernel_rfl) (fun _ _ _ h => h) rfl (by assumption) ?_ ?_
        rotate_left
        · intro w9 hSw; (try dsimp only at hSw); (try go_split_ands); go_simp; (try with_reducible rfl)
        (try simp only [List.setIfInBounds_toArray]); (try simp only [List.set_cons_succ]); (try simp only [List.set_cons_zero])
        refine held_at (i := 2) 64 (v := ?_) rfl rfl (by kernel_rfl) (fun _ _ _ h => h) rfl (by assumption) ?_ ?_
        rotate_left
        · intro w9 hSw; (try dsimp only at hSw); (try go_split_ands); go_simp; (try with_reducible rfl)
        (try simp only [List.setIfInBounds_toArray]); (try simp only [List.set_cons_succ]); (try simp only [List.set_cons_zero])
        refine held_at (i := 3) 65 (v := ?_) rfl rfl (by kernel_rfl) (fun _ _ _ h => h) rfl (by assumption) ?_ ?_
        rotate_left
        · intro w9 hSw; (try dsimp only at hSw); (try go_split_ands); go_simp; (try with_reducible rfl)
        (try simp only [List.setIfInBounds_toArray]); (try simp only [List.set_cons_succ]); (try simp only [List.set_cons_zero])
        refine held_at (i := 4) 66 (v := ?_) rfl rfl (by kernel_rfl) (fun _ _ _ h => h) rfl (by assumption) ?_ ?_
        rotate_left
        · intro w9 hSw; (try dsimp only at hSw); (try go_split_ands); go_simp; (try with_reducible rfl)
        (try simp only [List.setIfInBounds_toArray]); (try simp only [List.set_cons_succ]); (try simp only [List.set_cons_zero])
        refine held_at (i := 6) 68 (v := ?_) rfl rfl (by kernel_rfl) (fun _ _ _ h => h) rfl (by assumption) ?_ ?_
        rotate_left
        · intro w9 hSw; (try dsimp only at hSw); (try go_split_ands); go_simp; (try with_reducible rfl)
        (try simp only [List.setIfInBounds_toArray]); (try simp only [List.set_cons_succ]); (try simp only [List.set_cons_zero])
        refine held_at (i := 7) 69 (v := ?_) rfl rfl (by kernel_rfl) (fun _ _ _ h => h) rfl (by assumption) ?_ ?_
        rotate_left
        · intro w9 hSw; (try dsimp only at hSw); (try go_split_ands); go_simp; (try with_reducible rfl)
        (try simp only [List.setIfInBounds_toArray]); (try simp only [List.set_cons_succ]); (try simp only [List.set_cons_zero])
        refine held_at (i := 8) 70 (v := ?_) rfl rfl (by kernel_rfl) (fun _ _ _ h => h) rfl (by assumption) ?_ ?_
        rotate_left
        · intro w9 hSw; (try dsimp only at hSw); (try go_split_ands); go_simp; (try with_reducible rfl)
        (try simp only [List.setIfInBounds_toArray]); (try simp only [List.set_cons_succ]); (try simp only [List.set_cons_zero])
        refine held_at (i := 9) 71 (v := ?_) rfl rfl (by kernel_rfl) (fun _ _ _ h => h) rfl (by assumption) ?_ ?_
        rotate_left
        · intro w9 hSw; (try dsimp only at hSw); (try go_split_ands); go_simp; (try with_reducible rfl)
        (try simp only [List.setIfInBounds_toArray]); (try simp only [List.set_cons_succ]); (try simp only [List.set_cons_zero])
        refine held_at (i := 10) 72 (v := ?_) rfl rfl (by kernel_rfl) (fun _ _ _ h => h) rfl (by assumption) ?_ ?_
        rotate_left
        · intro w9 hSw; (try dsimp only at hSw); (try go_split_ands); go_simp; (try with_reducible rfl)
        (try simp only [List.setIfInBounds_toArray]); (try simp only [List.set_cons_succ]); (try simp only [List.set_cons_zero])
        refine wpAnyH_ready (rs := [5]) (by kernel_rfl) (by simp) ?_
        refine AllReadyH.cons rfl (fun K hK => ?_) AllReadyH.nil
        go_simp
        go_at_call 11
        (with_reducible refine (ct _ (by with_reducible assumption)).mono ?_)
        rintro e w6 ⟨rfl, K6, hg6⟩
        have L6 := L5.only (g := h) hg6 (by omega)
        have hB6 := below_only (w := w) hB5 hg6 (by omega)
        have hc6 := HC.out _ hB6
        unfold encR at L6
        obtain ⟨_, _, _, _, _, _⟩ := blk3 L6
        refine hK.out _ _ (by with_reducible assumption) (fun hHeld => ?_)
        clear hK K
        (try simp only [Act.put]); (try simp only [List.setIfInBounds_toArray]); (try simp only [List.set_cons_succ]); (try simp only [List.set_cons_zero])
        refine wpAnyH_ready (rs := [11]) (by kernel_rfl) (by simp) ?_
        refine AllReadyH.cons rfl (fun K hK => ?_) AllReadyH.nil
        go_simp
        go_at_call 12
        (with_reducible refine (rt _ (by unfold encR; with_reducible assumption)).mono ?_)
        rintro e w7 ⟨rfl, L7, hg7⟩
        have K7 := K6.only (g := g) hg7 (by omega)
        have hB7 := below_only (w := w) hB6 hg7 (by omega)
        have hc7 := HC.out _ hB7
        unfold encR at L7
        obtain ⟨l70, l71, l72, _, _, _⟩ := blk3 L7
        refine hK.out _ _ (by with_reducible assumption) (fun hHeld => ?_)
        clear hK K
        (try simp only [Act.put]); (try simp only [List.setIfInBounds_toArray]); (try simp only [List.set_cons_succ]); (try simp only [List.set_cons_zero])
        refine held_at (i := 12) 74 (v := ?_) rfl rfl (by kernel_rfl) (fun _ _ _ h => h) rfl (by assumption) ?_ ?_
        rotate_left
        · intro w9 hSw; (try dsimp only at hSw); (try go_split_ands); go_simp; (try with_reducible rfl)
        (try simp only [List.setIfInBounds_toArray]); (try simp only [List.set_cons_succ]); (try simp only [List.set_cons_zero])
        refine held_at (i := 13) 75 (v := ?_) rfl rfl (by kernel_rfl) (fun _ _ _ h => h) rfl (by assumption) ?_ ?_
        rotate_left
        · intro w9 hSw; (try dsimp only at hSw); (try go_split_ands); go_simp; (try with_reducible rfl)
        (try simp only [List.setIfInBounds_toArray]); (try simp only [List.set_cons_succ]); (try simp only [List.set_cons_zero])
        refine wpAnyH_done (by kernel_rfl) ?_ _
        refine rest_of_held (S := fun w' => w'.cell? ⟨h, 0, none⟩ = some (.int .i64 lim) ∧ w'.cell? ⟨h, 1, none⟩ = some (.int .i64 (lim - tt)) ∧ w'.cell? ⟨h, 2, none⟩ = some (.bool to)) ?_
        have hHeld := And.intro l70 (And.intro l71 l72)
        refine held_at (i := 14) 76 (v := ?_) rfl rfl (by kernel_rfl) (fun _ _ _ h => h) rfl (by assumption) ?_ ?_
        rotate_left
        · intro w9 hSw; (try dsimp only at hSw); (try go_split_ands); go_simp; (try with_reducible rfl)
        (try simp only [List.setIfInBounds_toArray]); (try simp only [List.set_cons_succ]); (try simp only [List.set_cons_zero])
        refine held_at (i := 16) 78 (v := ?_) rfl rfl (by kernel_rfl) (fun _ _ _ h => h) rfl (by assumption) ?_ ?_
        rotate_left
        · intro w9 hSw; (try dsimp only at hSw); (try go_split_ands); go_simp; (try with_reducible rfl)
        (try simp only [List.setIfInBounds_toArray]); (try simp only [List.set_cons_succ]); (try simp only [List.set_cons_zero])
        refine held_at (i := 17) 79 (v := ?_) rfl rfl (by kernel_rfl) (fun _ _ _ h => h) rfl (by assumption) ?_ ?_
        rotate_left
        · intro w9 hSw; (try dsimp only at hSw); (try go_split_ands); go_simp; (try with_reducible rfl)
        (try simp only [List.setIfInBounds_toArray]); (try simp only [List.set_cons_succ]); (try simp only [List.set_cons_zero])
        refine held_at (i := 18) 80 (v := ?_) rfl rfl (by kernel_rfl) (fun _ _ _ h => h) rfl (by assumption) ?_ ?_
        rotate_left
        · intro w9 hSw; (try dsimp only at hSw); (try go_split_ands); go_simp; (try with_reducible rfl)
        (try simp only [List.setIfInBounds_toArray]); (try simp only [List.set_cons_succ]); (try simp only [List.set_cons_zero])
        refine held_at (i := 19) 81 (v := ?_) rfl rfl (by kernel_rfl) (fun _ _ _ h => h) rfl (by assumption) ?_ ?_
        rotate_left
        · intro w9 hSw; (try dsimp only at hSw); (try go_split_ands); go_simp; (try with_reducible rfl)
        (try simp only [List.setIfInBounds_toArray]); (try simp only [List.set_cons_succ]); (try simp only [List.set_cons_zero])
        refine held_at (i := 20) 82 (v := ?_) rfl rfl (by kernel_rfl) (fun _ _ _ h => h) rfl (by assumption) ?_ ?_
        rotate_left
        · intro w9 hSw; (try dsimp only at hSw); (try go_split_ands); go_simp; (try with_reducible rfl)
        (try simp only [List.setIfInBounds_toArray]); (try simp only [List.set_cons_succ]); (try simp only [List.set_cons_zero])
        refine held_at (i := 21) 83 (v := ?_) rfl rfl (by kernel_rfl) (fun _ _ _ h => h) rfl (by assumption) ?_ ?_
        rotate_left
        · intro w9 hSw; (try dsimp only at hSw); (try go_split_ands); go_simp; (try with_reducible rfl)
        (try simp only [List.setIfInBounds_toArray]); (try simp only [List.set_cons_succ]); (try simp only [List.set_cons_zero])
        refine held_at (i := 22) 84 (v := ?_) rfl rfl (by kernel_rfl) (fun _ _ _ h => h) rfl (by assumption) ?_ ?_
        rotate_left
        · intro w9 hSw; (try dsimp only at hSw); (try go_split_ands); go_simp; (try with_reducible rfl)
        (try simp only [List.setIfInBounds_toArray]); (try simp only [List.set_cons_succ]); (try simp only [List.set_cons_zero])
        refine held_at (i := 23) 85 (v := ?_) rfl rfl (by kernel_rfl) (fun _ _ _ h => h) rfl (by assumption) ?_ ?_
        rotate_left
        · intro w9 hSw; (try dsimp only at hSw); (try go_split_ands); go_simp; (try with_reducible rfl)
        (try simp only [List.setIfInBounds_toArray]); (try simp only [List.set_cons_succ]); (try simp only [List.set_cons_zero])
        refine held_at (i := 24) 86 (v := ?_) rfl rfl (by kernel_rfl) (fun _ _ _ h => h) rfl (by assumption) ?_ ?_
        rotate_left
        · intro w9 hSw; (try dsimp only at hSw); (try go_split_ands); go_simp; (try with_reducible rfl)
        (try simp only [List.setIfInBounds_toArray]); (try simp only [List.set_cons_succ]); (try simp only [List.set_cons_zero])
        refine wpAnyH_ready (rs := [15]) (by kernel_rfl) (by simp) ?_
        refine AllReadyH.cons rfl (fun K hK => ?_) AllReadyH.nil
        go_simp
        go_at_call 13
        (with_reducible refine (e1 _ (by with_reducible assumption)).mono ?_)
        rintro e w8 ⟨rfl, rfl⟩
        refine hK.out _ _ ⟨l70, l71, l72⟩ (fun hHeld => ?_)
        clear hK K
        (try simp only [Act.put]); (try simp only [List.setIfInBounds_toArray]); (try simp only [List.set_cons_succ]); (try simp only [List.set_cons_zero])
        refine held_at (i := 25) 87 (v := ?_) rfl rfl (by kernel_rfl) (fun _ _ _ h => h) rfl (by assumption) ?_ ?_
        rotate_left
        · intro w9 hSw; (try dsimp only at hSw); (try go_split_ands); go_simp; (try with_reducible rfl)
        (try simp only [List.setIfInBounds_toArray]); (try simp only [List.set_cons_succ]); (try simp only [List.set_cons_zero])
        refine held_at (i := 26) 88 (v := ?_) rfl rfl (by kernel_rfl) (fun _ _ _ h => h) rfl (by assumption) ?_ ?_
        rotate_left
        · intro w9 hSw; (try dsimp only at hSw); (try go_split_ands); go_simp; (try with_reducible rfl)
        (try simp only [List.setIfInBounds_toArray]); (try simp only [List.set_cons_succ]); (try simp only [List.set_cons_zero])
        refine held_at (i := 27) 89 (v := ?_) rfl rfl (by kernel_rfl) (fun _ _ _ h => h) rfl (by assumption) ?_ ?_
        rotate_left
        · intro w9 hSw; (try dsimp only at hSw); (try go_split_ands); go_simp; (try with_reducible rfl)
        (try simp only [List.setIfInBounds_toArray]); (try simp only [List.set_cons_succ]); (try simp only [List.set_cons_zero])
        refine held_at (i := 28) 90 (v := ?_) rfl rfl (by kernel_rfl) (fun _ _ _ h => h) rfl (by assumption) ?_ ?_
        rotate_left
        · intro w9 hSw; (try dsimp only at hSw); (try go_split_ands); go_simp; (try with_reducible rfl)
        (try simp only [List.setIfInBounds_toArray]); (try simp only [List.set_cons_succ]); (try simp only [List.set_cons_zero])
        refine held_at (i := 30) 92 (v := ?_) rfl rfl (by kernel_rfl) (fun _ _ _ h => h) rfl (by assumption) ?_ ?_
        rotate_left
        · intro w9 hSw; (try dsimp only at hSw); (try go_split_ands); go_simp; (try with_reducible rfl)
        (try simp only [List.setIfInBounds_toArray]); (try simp only [List.set_cons_succ]); (try simp only [List.set_cons_zero])
        refine held_at (i := 31) 93 (v := ?_) rfl rfl (by kernel_rfl) (fun _ _ _ h => h) rfl (by assumption) ?_ ?_
        rotate_left
        · intro w9 hSw; (try dsimp only at hSw); (try go_split_ands); go_simp; (try with_reducible rfl)
        (try simp only [List.setIfInBounds_toArray]); (try simp only [List.set_cons_succ]); (try simp only [List.set_cons_zero])
        refine held_at (i := 32) 94 (v := ?_) rfl rfl (by kernel_rfl) (fun _ _ _ h => h) rfl (by assumption) ?_ ?_
        rotate_left
        · intro w9 hSw; (try dsimp only at hSw); (try go_split_ands); go_simp; (try with_reducible rfl)
        (try simp only [List.setIfInBounds_toArray]); (try simp only [List.set_cons_succ]); (try simp only [List.set_cons_zero])
        refine held_at (i := 33) 95 (v := ?_) rfl rfl (by kernel_rfl) (fun _ _ _ h => h) rfl (by assumption) ?_ ?_
        rotate_left
        · intro w9 hSw; (try dsimp only at hSw); (try go_split_ands); go_simp; (try with_reducible rfl)
        (try simp only [List.setIfInBounds_toArray]); (try simp only [List.set_cons_succ]); (try simp only [List.set_cons_zero])
        refine wpAnyH_ready (rs := [29]) (by kernel_rfl) (by simp) ?_
        refine AllReadyH.cons rfl (fun K hK => ?_) AllReadyH.nil
        go_simp
        go_at_call 14
        (with_reducible refine (e3 _ (by with_reducible assumption)).mono ?_)
        rintro e w9 ⟨rfl, n5, hw5⟩
        have K9 : Blk w9 g 52 (enc lim tt to) := by rw [← hw5]; exact Blk.drewN K7 n5
        have L9 : Blk w9 h 35 #[.int .i64 lim, .int .i64 (lim - tt), .bool to] := by rw [← hw5]; exact Blk.drewN L7 n5
        have hB9 : Below w.heap.size w w9 := by rw [← hw5]; exact below_dr hB7 n5
        clear hw5
        obtain ⟨l90, l91, l92, _, _, _⟩ := blk3 L9
        refine hK.out _ _ ⟨l90, l91, l92⟩ (fun hHeld => ?_)
        clear hK K
        (try simp only [Act.put]); (try simp only [List.setIfInBounds_toArray]); (try simp only [List.set_cons_succ]); (try simp only [List.set_cons_zero])
        refine held_at (i := 34) 96 (v := ?_) rfl rfl (by kernel_rfl) (fun _ _ _ h => h) rfl (by assumption) ?_ ?_
        rotate_left
        · intro w9 hSw; (try dsimp only at hSw); (try go_split_ands); go_simp; (try with_reducible rfl)
        (try simp only [List.setIfInBounds_toArray]); (try simp only [List.set_cons_succ]); (try simp only [List.set_cons_zero])
        refine held_at (i := 35) 97 (v := ?_) rfl rfl (by kernel_rfl) (fun _ _ _ h => h) rfl (by assumption) ?_ ?_
        rotate_left
        · intro w9 hSw; (try dsimp only at hSw); (try go_split_ands); go_simp; (try with_reducible rfl)
        (try simp only [List.setIfInBounds_toArray]); (try simp only [List.set_cons_succ]); (try simp only [List.set_cons_zero])
        refine held_at (i := 36) 98 (v := ?_) rfl rfl (by kernel_rfl) (fun _ _ _ h => h) rfl (by assumption) ?_ ?_
        rotate_left
        · intro w9 hSw; (try dsimp only at hSw); (try go_split_ands); go_simp; (try with_reducible rfl)
        (try simp only [List.setIfInBounds_toArray]); (try simp only [List.set_cons_succ]); (try simp only [List.set_cons_zero])
        refine held_at (i := 37) 99 (v := ?_) rfl rfl (by kernel_rfl) (fun _ _ _ h => h) rfl (by assumption) ?_ ?_
        rotate_left
        · intro w9 hSw; (try dsimp only at hSw); (try go_split_ands); go_simp; (try with_reducible rfl)
        (try simp only [List.setIfInBounds_toArray]); (try simp only [List.set_cons_succ]); (try simp only [List.set_cons_zero])
        refine held_at (i := 39) 101 (v := ?_) rfl rfl (by kernel_rfl) (fun _ _ _ h => h) rfl (by assumption) ?_ ?_
        rotate_left
        · intro w9 hSw; (try dsimp only at hSw); (try go_split_ands); go_simp; (try with_reducible rfl)
        (try simp only [List.setIfInBounds_toArray]); (try simp only [List.set_cons_succ]); (try simp only [List.set_cons_zero])
        refine held_at (i := 40) 102 (v := ?_) rfl rfl (by kernel_rfl) (fun _ _ _ h => h) rfl (by assumption) ?_ ?_
        rotate_left
        · intro w9 hSw; (try dsimp only at hSw); (try go_split_ands); go_simp; (try with_reducible rfl)
        (try simp only [List.setIfInBounds_toArray]); (try simp only [List.set_cons_succ]); (try simp only [List.set_cons_zero])
        refine held_at (i := 41) 103 (v := ?_) rfl rfl (by kernel_rfl) (fun _ _ _ h => h) rfl (by assumption) ?_ ?_
        rotate_left
        · intro w9 hSw; (try dsimp only at hSw); (try go_split_ands); go_simp; (try with_reducible rfl)
        (try simp only [List.setIfInBounds_toArray]); (try simp only [List.set_cons_succ]); (try simp only [List.set_cons_zero])
        refine held_at (i := 42) 104 (v := ?_) rfl rfl (by kernel_rfl) (fun _ _ _ h => h) rfl (by assumption) ?_ ?_
        rotate_left
        · intro w9 hSw; (try dsimp only at hSw); (try go_split_ands); go_simp; (try with_reducible rfl)
        (try simp only [List.setIfInBounds_toArray]); (try simp only [List.set_cons_succ]); (try simp only [List.set_cons_zero])
        refine wpAnyH_ready (rs := [38]) (by kernel_rfl) (by simp) ?_
        refine AllReadyH.cons rfl (fun K hK => ?_) AllReadyH.nil
        go_simp
        go_at_call 15
        (with_reducible refine (e2 _ (by with_reducible assumption)).mono ?_)
        rintro e wA ⟨rfl, rfl⟩
        refine hK.out _ _ ⟨l90, l91, l92⟩ (fun hHeld => ?_)
        clear hK K
        (try simp only [Act.put]); (try simp only [List.setIfInBounds_toArray]); (try simp only [List.set_cons_succ]); (try simp only [List.set_cons_zero])
        refine held_at (i := 43) 105 (v := ?_) rfl rfl (by kernel_rfl) (fun _ _ _ h => h) rfl (by assumption) ?_ ?_
        rotate_left
        · intro w9 hSw; (try dsimp only at hSw); (try go_split_ands); go_simp; (try with_reducible rfl)
        (try simp only [List.setIfInBounds_toArray]); (try simp only [List.set_cons_succ]); (try simp only [List.set_cons_zero])
        refine held_at (i := 44) 106 (v := ?_) rfl rfl (by kernel_rfl) (fun _ _ _ h => h) rfl (by assumption) ?_ ?_
        rotate_left
        · intro w9 hSw; (try dsimp only at hSw); (try go_split_ands); go_simp; (try with_reducible rfl)
        (try simp only [List.setIfInBounds_toArray]); (try simp only [List.set_cons_succ]); (try simp only [List.set_cons_zero])
        refine wpAnyH_done (by kernel_rfl) ?_ _
        go_wp2
        go_roundw
        case rel => exact ⟨k + 1, tt, to, by omega, by go_num, MK.out, by with_reducible assumption, by with_reducible assumption, by unfold encR; with_reducible assumption⟩
        case measure => simp [intOf]; omega
      · go_wp2
        go_ret
        exact ⟨rfl, hBr⟩
end meterDoes
end Go.Proofs.Ytbcbjcdpcbjhnaa
