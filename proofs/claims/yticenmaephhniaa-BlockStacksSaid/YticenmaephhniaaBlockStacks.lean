/- Rows.BlockStacksSaid: the law's walk. Conditions: the items lie in memory as they are read. -/
import Derived.Test.YticenmaephhniaaBlockI
import Derived.Test.YticenmaephhniaaBlockJ
namespace Go.Proofs.Yticenmaephhniaa
open Go.ChangeShapes Go.WideShapes Go.ChangeAt Go.RowKit
namespace blockStacks
theorem n_at {w : World} {B : Nat} {A : Option Addr} {n : Nat} {bs : List Int} (h : Reads w B 1 A n (bs.map (Value.int .i64))) {k : Nat} {x : Int} (hk : bs[k]? = some x) : ∃ ad, A = some ad ∧ ad.block < B ∧ w.cell? (ad.add k) = some (.int .i64 x) := by
  have hx : (bs.map (Value.int .i64))[k]? = some (.int .i64 x) := by rw [List.getElem?_map, hk]; rfl
  have hn : 0 < n := by
    have h1 := h.1
    have := (List.getElem?_eq_some_iff.1 hx).1
    omega
  obtain ⟨ad, rfl, hb, hc⟩ := h.2 hn
  exact ⟨ad, rfl, hb, hc _ _ hx⟩
set_option maxHeartbeats 16000000 in
set_option maxRecDepth 100000 in
theorem walk (cA : ∀ w, Calls Try.prog 5 #[] w fun e w' => e = .returned (.bool true) ∧ Below w.heap.size w w') (A : Option Addr) (n c : Nat) (l : List It) (w : World) (hn : n ≤ 17592186044415) (hr : Reads w w.heap.size 3 A n (flatS l)) :
    Calls Try.prog 4 #[.slice A n c] w fun e w' => e = .returned (.bool true) ∧ Below w.heap.size w w' := by
  by_cases h2 : 200 < n
  · go_enter Try.func4, Try.ntmps4
    go_wp2_with (go_at_call 5; (with_reducible refine (cA _).mono ?_); rintro e w1 ⟨rfl, hb⟩)
    go_ret
    exact ⟨rfl, hb⟩
  have hn2 : n ≤ 200 := by omega
  clear hn h2
  have HL := Lib.hid (len_S hr)
  have cS := fun w' (hb : Below w.heap.size w w') => stack_any A n c l w' ((hr.below hb).more hb.size) (by omega)
  obtain ⟨bs, high, ex, hst⟩ : ∃ bs high ex, stackF l = (bs, high, ex) := ⟨_, _, _, rfl⟩
  cases ex with
  | false =>
    have cS : ∀ w', Below w.heap.size w w' → Calls Try.prog 8 #[.slice A n c] w' fun e w'' => ∃ (A' : Option Addr) (c' : Nat), e = .returned (.tuple #[.slice A' n c', .int .i64 high, .bool false]) ∧ Reads w'' w''.heap.size 1 A' n (bs.map (Value.int .i64)) ∧ Below w'.heap.size w' w'' := by
      intro w' hb
      have := cS w' hb
      rwa [hst] at this
    clear hst
    go_enter Try.func4, Try.ntmps4
    go_wp2_with (first
      | (go_at_call 5; (with_reducible refine (cA _).mono ?_); rintro e w1 ⟨rfl, hb⟩)
      | (go_at_call 8; (with_reducible refine (cS _ (by assumption)).mono ?_); rintro e w2 ⟨A', c', rfl, hR, hb2⟩))
    go_ret
    exact ⟨rfl, below_next hb hb2⟩
  | true =>
    have cS : ∀ w', Below w.heap.size w w' → Calls Try.prog 8 #[.slice A n c] w' fun e w'' => ∃ (A' : Option Addr) (c' : Nat), e = .returned (.tuple #[.slice A' n c', .int .i64 high, .bool true]) ∧ Reads w'' w''.heap.size 1 A' n (bs.map (Value.int .i64)) ∧ Below w'.heap.size w' w'' := by
      intro w' hb
      have := cS w' hb
      rwa [hst] at this
    have HST := Lib.hid hst
    clear hst
    go_enter Try.func4, Try.ntmps4
    go_wp2_with (first
      | (go_at_call 5; (with_reducible refine (cA _).mono ?_); rintro e w1 ⟨rfl, hb⟩)
      | (go_at_call 8; (with_reducible refine (cS _ (by assumption)).mono ?_); rintro e w2 ⟨A', c', rfl, hR, hb2⟩))
    have hB2 := below_next hb hb2
    have hr2 := (hr.below hB2).more hB2.size
    clear cS hb hb2 hr cA
    go_loopw [33, 6, 7] (fun i pl sm wr => ∃ k : Nat, k ≤ n ∧ i = .int .i64 k ∧ pl = .bool (plainL (l.take k)) ∧ sm = .int .i64 (sumH (l.take k)) ∧ Below w2.heap.size w2 wr) (fun i _ _ _ => n - (intOf i).toNat)
    case atStart => exact ⟨0, Nat.zero_le _, rfl, rfl, rfl, Below.refl _ _⟩
    case round =>
      obtain ⟨k, hk, rfl, rfl, rfl, hBr⟩ := hrel
      have hRr := hR.below hBr
      have hrr := hr2.below hBr
      have hle := hBr.size
      have hr2' := hr2
      have hR' := hR
      clear hR hr2
      by_cases hlt : k < n
      · obtain ⟨x, hx⟩ : ∃ x, l[k]? = some x := ⟨l[k]'(by rw [HL.out]; omega), List.getElem?_eq_getElem _⟩
        obtain ⟨ad, rfl, hadb, e0, e1, e2⟩ := it_of hrr hx
        have hxk : l.take (k + 1) = l.take k ++ [x] := by rw [List.take_add_one, hx]; rfl
        have HP := Lib.hid (show plainL (l.take (k + 1)) = (plainL (l.take k) && (x.t == 0 && x.b == 0)) by rw [hxk, plain_snoc])
        have HM := Lib.hid (show sumH (l.take (k + 1)) = sumH (l.take k) + x.h by rw [hxk, sum_snoc])
        obtain ⟨b, hbk, ob, oh, obh, hb0, hbz⟩ := stack_step HST.out hx
        have hall : ∀ y ∈ l.take k, ok y.h = true := by
          intro y hy
          obtain ⟨j, hj, rfl⟩ := List.getElem_of_mem (List.mem_of_mem_take hy)
          obtain ⟨_, _, _, h3, _⟩ := stack_step HST.out (List.getElem?_eq_getElem hj)
          exact h3
        have hsb := sumH_bd hall
        have hlk : (l.take k).length ≤ 200 := by rw [List.length_take]; omega
        have ohb := ok_iff.1 oh
        have hsw : IntKind.i64.wrap (sumH (l.take k) + x.h) = sumH (l.take k) + x.h := by rw [IntKind.wrap_i64]; omega
        obtain ⟨ad', hA', hadb', hbc⟩ := n_at hRr hbk
        have hBa := below_al (hB2.trans (hBr.mono hB2.size)) (.cells #[.int .i64 x.t, .int .i64 x.h, .int .i64 x.b] 32)
        have hBr' := below_al hBr (.cells #[.int .i64 x.t, .int .i64 x.h, .int .i64 x.b] 32)
        subst hA'
        have hwk : IntKind.i64.wrap ((k : Int) - 1) = ((k : Int) - 1) := by rw [IntKind.wrap_i64]; omega
        clear hall hsb hlk ohb hRr hrr hadb
        obtain ⟨xt, xh, xb⟩ := x
        have hb0 : k = 0 → b = xt := hb0
        have hbz : ∀ z, 0 < k → l[k - 1]? = some z → ∃ b', bs[k - 1]? = some b' ∧ (meetF z.b xt).2 = true ∧ ok (meetF z.b xt).1 = true ∧ ok (b' + z.h) = true ∧ b = b' + z.h + (meetF z.b xt).1 := hbz
        simp only at e0 e1 e2 HP HM obh oh hsw hBa hBr'
        generalize plainL (l.take k) = p at *
        generalize sumH (l.take k) = sm at *
        go_upto_region 14 with (fail)
        obtain ⟨wb, hwb⟩ : ∃ wb, wb = wr.alloc (.cells #[.int .i64 xt, .int .i64 xh, .int .i64 xb] 32) := ⟨_, rfl⟩
        have q0 : wb.cell? ⟨wr.heap.size, 0, none⟩ = some (.int .i64 xt) := by rw [hwb]; exact (Blk.new _ _ _).cell 0
        have q1 : wb.cell? ⟨wr.heap.size, 1, none⟩ = some (.int .i64 xh) := by rw [hwb]; exact (Blk.new _ _ _).cell 1
        have q2 : wb.cell? ⟨wr.heap.size, 2, none⟩ = some (.int .i64 xb) := by rw [hwb]; exact (Blk.new _ _ _).cell 2
        have g0 : wb.cell? (ad'.add k) = some (.int .i64 b) := by rw [hwb]; exact (World.cell?_alloc_lt _ _ _ (by rw [block_of_add]; omega)).trans hbc
        have HG := Lib.hid (show ∀ p : Addr, p.block < w2.heap.size → wb.cell? p = w2.cell? p by
          intro p hp
          rw [hwb, World.cell?_alloc_lt _ _ _ (by omega)]
          exact hBr.cell hp)
        rw [← hwb] at hBa hBr' ⊢
        clear hwb e0 e1 e2 hbc hadb' hBr
        go_cut [6] (fun s wx => s = .bool (p && (xt == 0 && xb == 0)) ∧ wx = wb)
        case first =>
          clear HP HM HST
          cases p
          · go_wp2_with (fail)
            go_meet
            exact ⟨rfl, rfl⟩
          · by_cases h1 : xt = 0
            · have h1b : (xt == 0) = true := by simpa using h1
              clear h1
              by_cases h2 : xb = 0
              · have h2b : (xb == 0) = true := by simpa using h2
                clear h2
                go_wp2_with (fail)
                go_meet
                exact ⟨by rw [h1b, h2b]; rfl, rfl⟩
              · have h2b : (xb == 0) = false := by simpa using h2
                clear h2
                go_wp2_with (fail)
                go_meet
                exact ⟨by rw [h1b, h2b]; rfl, rfl⟩
            · have h1b : (xt == 0) = false := by simpa using h1
              clear h1
              go_wp2_with (fail)
              go_meet
              exact ⟨by rw [h1b]; rfl, rfl⟩
        obtain ⟨rfl, hwx⟩ := hcut
        rw [hwx]
        clear hwx
        generalize (p && (xt == 0 && xb == 0)) = p2 at *
        by_cases hk0 : k = 0
        · obtain rfl := hb0 hk0
          clear hr2' hR'
          have g0 : wb.cell? ad' = some (.int .i64 b) := by rw [hk0] at g0; simpa [Addr.add] using g0
          have hk1 : ((k : Int) == 0) = true := by simpa using hk0
          have hn1 : 0 < n := by omega
          clear hbz hb0 hk0
          go_upto_region 17 with (fail)
          go_quiet (fail)
          go_wp2
          go_roundw
          case rel => exact ⟨k + 1, by omega, by go_num, by rw [HP.out], by rw [HM.out], below_dr hBr' _⟩
          case measure => simp [intOf]; omega
        · obtain ⟨z, hz⟩ : ∃ z, l[k - 1]? = some z := ⟨l[k - 1]'(by rw [HL.out]; omega), List.getElem?_eq_getElem _⟩
          obtain ⟨b', hb', M2, oM, obz, rfl⟩ := hbz z (Nat.pos_of_ne_zero hk0) hz
          obtain ⟨ad2, ha2, hadb2, f0, f1, f2⟩ := it_of hr2' hz
          injection ha2 with ha2
          subst ha2
          obtain ⟨ad3, ha3, hadb3, h0⟩ := n_at hR' hb'
          injection ha3 with ha3
          subst ha3
          have cm := fun w => meet_any z.b xt w
          rw [M2] at cm
          have x1 : wb.cell? (ad'.add (k - 1)) = some (.int .i64 b') := (HG.out _ (by rw [block_of_add]; exact hadb3)).trans h0
          have x2 : wb.cell? ⟨(ad.add ((k - 1) * 3)).block, (ad.add ((k - 1) * 3)).off + 1, none⟩ = some (.int .i64 z.h) := (HG.out _ (by show (ad.add _).block < _; rw [block_of_add]; exact hadb2)).trans f1
          have x3 : wb.cell? ⟨(ad.add ((k - 1) * 3)).block, (ad.add ((k - 1) * 3)).off + 2, none⟩ = some (.int .i64 z.b) := (HG.out _ (by show (ad.add _).block < _; rw [block_of_add]; exact hadb2)).trans f2
          have hk1 : ((k : Int) == 0) = false := by simpa using hk0
          have hk2 : IntKind.i64.wrap ((k : Int) - 1) = ((k - 1 : Nat) : Int) := by rw [IntKind.wrap_i64]; omega
          have hk3 : k - 1 < n := by omega
          clear hbz hb0 hk0 hwk M2 hx hz hb' hbk h0 f0 f1 f2 hr2' hR' HG
          obtain ⟨zt, zh, zb⟩ := z
          simp only at cm x2 x3 oM obz g0
          generalize (meetF zb xt).1 = gp at *
          have y1 := ok_iff.1 oM
          have y2 := ok_iff.1 obz
          have hw1 : IntKind.i64.wrap (b' + zh) = b' + zh := by rw [IntKind.wrap_i64]; omega
          have hw2 : IntKind.i64.wrap (b' + zh + gp) = b' + zh + gp := by rw [IntKind.wrap_i64]; omega
          clear y1 y2 oM obz
          go_upto_region 19 with (fail)
          go_quiet ((go_at_call 7; exact Calls.quiet_of_same ((cm _).mono (fun e w' h => ⟨h.1, h.2.symm⟩))))
          clear cm x3
          go_upto_region 20 with (fail)
          go_quiet (fail)
          go_wp2
          go_roundw
          case rel => exact ⟨k + 1, by omega, by go_num, by rw [HP.out], by rw [HM.out], below_dr hBr' _⟩
          case measure => simp [intOf]; omega
      · obtain rfl : k = n := by omega
        have hBw := hB2.trans (hBr.mono hB2.size)
        have htl : l.take k = l := List.take_of_length_le (by rw [HL.out]; omega)
        rw [htl]
        clear htl hlt
        by_cases h0 : k = 0
        · have hh : high = 0 := by
            have h1 := HST.out
            obtain rfl : l = [] := List.length_eq_zero_iff.1 (HL.out.trans h0)
            have h2 : stackF [] = ([], 0, true) := rfl
            rw [h2] at h1
            injection h1 with _ h1
            injection h1 with h1 _
            exact h1.symm
          subst hh
          have hk1 : ((k : Int) == 0) = true := by simpa using h0
          clear h0
          go_wp2
          go_ret
          exact ⟨rfl, hBw⟩
        · obtain ⟨y, hy⟩ : ∃ y, l[l.length - 1]? = some y := ⟨l[l.length - 1]'(by rw [HL.out]; omega), List.getElem?_eq_getElem _⟩
          obtain ⟨b, hb, o1, o2, o3, o4, hhigh, hplain, hall⟩ := stack_end HST.out hy
          have hsb := sumH_bd hall
          rw [HL.out] at hy hb hsb
          obtain ⟨ad2, rfl, hadb2, f0, f1, f2⟩ := it_of hrr hy
          obtain ⟨ad3, rfl, hadb3, h3⟩ := n_at hRr hb
          have y1 := ok_iff.1 o1
          have y2 := ok_iff.1 o2
          have hw1 : IntKind.i64.wrap (b + y.h) = b + y.h := by rw [IntKind.wrap_i64]; omega
          have hw2 : IntKind.i64.wrap (b + y.h + y.b) = b + y.h + y.b := by rw [IntKind.wrap_i64]; omega
          have hk1 : ((k : Int) == 0) = false := by simpa using h0
          have hk2 : IntKind.i64.wrap ((k : Int) - 1) = ((k - 1 : Nat) : Int) := by rw [IntKind.wrap_i64]; omega
          have hk3 : k - 1 < k := by omega
          clear o1 o2 o3 o4 hall hsb y1 y2 hy hb hr2' hR' hrr hRr hB2 hBr hle
          obtain ⟨yt, yh, yb⟩ := y
          simp only at f0 f1 f2 hw1 hw2 hhigh
          subst hhigh
          have HPl := Lib.hid hplain
          clear hplain
          generalize plainL l = p at *
          cases p
          · go_upto_region 26 with (fail)
            go_quiet (fail)
            go_wp2
            go_ret
            exact ⟨rfl, below_dr hBw _⟩
          · have hpl := HPl.out rfl
            have hplb : (max (b + yh + yb) 0 == max (sumH l) 0) = true := by simpa using hpl
            go_upto_region 26 with (fail)
            go_quiet (fail)
            go_wp2
            go_ret
            exact ⟨rfl, below_dr hBw _⟩
end blockStacks
end Go.Proofs.Yticenmaephhniaa
