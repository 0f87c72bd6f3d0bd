/- What the landed package measure's gapsAndWidths and Max answer, and what its rows yields. Conditions: the pieces lie in memory as they are read. -/
import Derived.Test.YtgglffmfkhbcgaaLineB
import Derived.Test.YtgglffmfkhbcgaaLineE
import Derived.Test.YtgglffmfkhbcgaaFxSum
namespace Go.Proofs.Ytgglffmfkhbcgaa
open Go.ChangeShapes Go.WideShapes Go.ChangeAt Go.RowKit Go.Shelf
namespace meas
set_option maxHeartbeats 8000000 in
set_option maxRecDepth 100000 in
theorem gaw_any (A : Option Addr) (n c B : Nat) (l : List Pc) (w : World) (hB : B ≤ w.heap.size) (hr : Reads w B 6 A n (flatP l)) (hn : n ≤ 1000000) :
    Calls Try.prog 34 #[.slice A n c] w fun e w' => ∃ A' c', e = .returned (.slice A' (gwP l).length c') ∧ Reads w' w'.heap.size 1 A' (gwP l).length ((gwP l).map (Value.int .i64)) ∧ (gwP l).length ≤ c' ∧ Below w.heap.size w w' := by
  have HL := Lib.hid (len_P hr)
  go_enter Try.func34, Try.ntmps34
  go_wp2
  go_loopw [8, 3] (fun i s wr => ∃ (k : Nat) (v : Value), k ≤ n ∧ i = .int .i64 k ∧ v = s ∧ Below w.heap.size w wr ∧ IntsO wr w.heap.size v (gwP (l.take k))) (fun i _ _ => n - (intOf i).toNat)
  case atStart => exact ⟨0, _, Nat.zero_le _, rfl, rfl, Below.refl _ _, IntsO.nil _ _⟩
  case round =>
    obtain ⟨k, v, hk, rfl, rfl, hBr, hY⟩ := hrel
    have hr1 := hr.below (hBr.mono hB)
    have hle := hBr.size
    by_cases hlt : k < n
    · obtain ⟨p, hp⟩ : ∃ p, l[k]? = some p := ⟨l[k]'(by rw [HL.out]; exact hlt), List.getElem?_eq_getElem _⟩
      obtain ⟨ad, rfl, hb, e0, e1, e2, e3, e4, e5⟩ := pc_of hr1 hp
      have HS := Lib.hid (show gwP (l.take (k + 1)) = gwP (l.take k) ++ [p.g, p.w] by rw [List.take_add_one, hp]; exact gwP_snoc _ _)
      have hgl : (gwP (l.take k)).length ≤ 2000000 := by rw [gwP_len, List.length_take]; omega
      obtain ⟨pb, pw, ph, pg, pt, pk⟩ := p
      simp only at e0 e1 e2 e3 e4 e5 HS
      have hBa := below_al hBr (.cells #[.int .i64 pb, .int .i64 pw, .int .i64 ph, .int .i64 pg, .string pt, .bool pk] 32)
      have hYa : IntsO (wr.alloc (.cells #[.int .i64 pb, .int .i64 pw, .int .i64 ph, .int .i64 pg, .string pt, .bool pk] 32)) w.heap.size v (gwP (l.take k)) := World.ownsRow.alloc hY _
      clear hp hr1 hb
      generalize gwP (l.take k) = xs at *
      go_wp2_with (at_builtin; refine wpList_IntsO2 _ rfl (.tmp 12) (.tmp 17) rfl w.heap.size v xs pg pw rfl hYa (wr.heap.size + 1) _ (size_al wr _) rfl (by omega) hBa.size ?_; intro v' w' hY' hg
                   have hB' := below_own hBa hYa hg
                   clear hg)
      go_roundw
      case rel => exact ⟨k + 1, v', by omega, by go_num, rfl, hB', by rw [HS.out]; exact hY'⟩
      case measure => simp [intOf]; omega
    · obtain rfl : k = n := by omega
      have htk : l.take k = l := List.take_of_length_le (by rw [HL.out]; omega)
      rw [htk] at hY
      obtain ⟨A1, c1, rfl⟩ := own_form' hY
      go_wp2
      go_ret
      exact ⟨A1, c1, rfl, Reads.of_own hY, own_cap hY, hBr⟩
/-- Of a row that isn't empty: at least two numbers, and all but the first. -/
theorem gaw_row (A : Option Addr) (n c B : Nat) (l : List Pc) (w : World) (hB : B ≤ w.heap.size) (hr : Reads w B 6 A n (flatP l)) (hn : n ≤ 1000000) (hn0 : 0 < n) (N N2 : Nat) (hN : N = (gwP l).length) (hN2 : N2 = N - 1) :
    Calls Try.prog 34 #[.slice A n c] w fun e w' => ∃ b b2 c' c2, e = .returned (.slice (some b) N c') ∧ Reads w' w'.heap.size 1 (some b) N ((gwP l).map (Value.int .i64)) ∧ Reads w' w'.heap.size 1 (some b2) N2 (((gwP l).drop 1).map (Value.int .i64)) ∧
      (∀ w2, (Instr.slice 38 (.slice (some b) N c') (some (.int .i64 1)) none none).run Try.prog w2 = .ok (.slice (some b2) N2 c2) w2) ∧ Below w.heap.size w w' := by
  subst hN2
  have hl := len_P hr
  have hg := gwP_len l
  refine (gaw_any A n c B l w hB hr hn).mono ?_
  rintro e w' ⟨A', c', rfl, hr', hc, hb⟩
  rw [← hN] at hr' hc ⊢
  obtain ⟨b, rfl, hbb, hcells⟩ := hr'.2 (by omega)
  refine ⟨b, b.add 1, c', c' - 1, rfl, hr', ⟨by rw [List.length_map, List.length_drop]; omega, fun _ => ⟨_, rfl, by rw [block_of_add]; exact hbb, fun j u hu => ?_⟩⟩, fun w2 => ?_, hb⟩
  · rw [add_of_add]
    refine hcells _ u ?_
    rw [← hu, List.getElem?_map, List.getElem?_map, List.getElem?_drop]
  · have h := run_slice_l (P := Try.prog) (w := w2) (t := 38) (a := some b) (len := N) (cap := c') Try.underlying38 .i64 1 (by omega) (by omega)
    rw [h]
    have hs : (sizeOf (Try.prog.elem 38)).run Try.prog w2 = .ok 1 w2 := by kernel_rfl
    rw [hs]
    have hne : ¬ c' = 1 := by omega
    simp [Result.andThen, sliced, hne]

theorem max_any (A : Option Addr) (n c : Nat) (l : List Pc) (w : World) (hr : Reads w w.heap.size 6 A n (flatP l)) (hn : n ≤ 1000000) :
    Calls Try.prog 13 #[.slice A n c] w fun e w' => e = .returned (.tuple #[.int .i64 (sumL (gwP l)).1, .bool (sumL (gwP l)).2]) ∧ Below w.heap.size w w' := by
  have HL := Lib.hid (len_P hr)
  have hg := gwP_len l
  have cg := gaw_any A n c w.heap.size l w (Nat.le_refl _) hr hn
  have hN : (gwP l).length ≤ 2000000 := by rw [hg, HL.out]; omega
  clear hg
  have sm := fun (A : Option Addr) (c : Nat) (w' : World) (h : Reads w' w'.heap.size 1 A (gwP l).length ((gwP l).map (Value.int .i64))) => sum_any A (gwP l).length c w'.heap.size (gwP l) w' h (by omega)
  generalize sumL (gwP l) = S at *
  go_enter Try.func13, Try.ntmps13
  go_wp2_with (first
    | (go_at_call 34; (with_reducible refine cg.mono ?_); rintro e w1 ⟨A1, c1, rfl, hr1, hc1, hb1⟩
       have sm1 := sm A1 c1 w1 hr1
       generalize (gwP l).length = N at *)
    | (go_at_call 33; (with_reducible refine sm1.mono ?_); rintro e w2 ⟨rfl, rfl⟩))
  go_ret2
  exact ⟨rfl, hb1⟩
/-- Whatever lies below n, but blocks L and M, lies as it lay. -/
structure KeepsTwo (L M n : Nat) (w w' : World) : Prop where
  os : w'.os = w.os
  tape : w'.tape = w.tape
  output : w'.output = w.output
  size : w.heap.size ≤ w'.heap.size
  block : ∀ k, k < n → k ≠ L → k ≠ M → w'.heap[k]? = w.heap[k]?
section
variable {L M n : Nat} {a b c w w' : World}
theorem KeepsTwo.refl (L M n : Nat) (w : World) : KeepsTwo L M n w w := ⟨rfl, rfl, rfl, Nat.le_refl _, fun _ _ _ _ => rfl⟩
theorem KeepsTwo.trans (h : KeepsTwo L M n a b) (k : KeepsTwo L M n b c) : KeepsTwo L M n a c :=
  ⟨k.os.trans h.os, k.tape.trans h.tape, k.output.trans h.output, Nat.le_trans h.size k.size, fun i hi hn hm => (k.block i hi hn hm).trans (h.block i hi hn hm)⟩
theorem KeepsTwo.of_below (L M : Nat) (h : Below n a b) : KeepsTwo L M n a b := ⟨h.os, h.tape, h.output, h.size, fun k hk _ _ => h.block k hk⟩
theorem KeepsTwo.drew (h : KeepsTwo L M n a w) : KeepsTwo L M n a w.drew := ⟨h.os, h.tape, h.output, h.size, h.block⟩
theorem KeepsTwo.set1 (h : KeepsTwo L M n a w) (v : Value) : KeepsTwo L M n a (w.setCell ⟨L, 0, none⟩ v) :=
  h.trans ⟨rfl, rfl, rfl, by simp, fun k _ hk _ => Below.heap_setCell w _ v k hk⟩
theorem KeepsTwo.set2 (h : KeepsTwo L M n a w) (v : Value) : KeepsTwo L M n a (w.setCell ⟨M, 0, none⟩ v) :=
  h.trans ⟨rfl, rfl, rfl, by simp, fun k _ _ hk => Below.heap_setCell w _ v k hk⟩
theorem KeepsTwo.grown {row : Option Nat} (h : KeepsTwo L M n a w) (hg : w.grownBy w' row) (hn : n ≤ w.heap.size) (hr : ∀ k, row = some k → n ≤ k) : KeepsTwo L M n a w' :=
  h.trans (.of_below L M ((Below.refl n w).grown hg hn hr))
theorem KeepsTwo.below {m : Nat} (h : KeepsTwo L M n a b) (hm : m ≤ n) (hL : m ≤ L) (hM : m ≤ M) : Below m a b :=
  ⟨h.os, h.tape, h.output, h.size, fun k hk => h.block k (by omega) (by omega) (by omega)⟩
theorem KeepsTwo.cell {o : Nat} {k : Nat} (h : KeepsTwo L M n a b) (hk : k < n) (hL : k ≠ L) (hM : k ≠ M) : b.cell? ⟨k, o, none⟩ = a.cell? ⟨k, o, none⟩ := World.cell?_of_block (w := a) (a := ⟨k, o, none⟩) (h.block k hk hL hM)
theorem keepsTwo_t (h : KeepsTwo L M n a b) (k : KeepsTwo L M n b c) : KeepsTwo L M n a c := h.trans k
theorem keepsTwo_b {w : World} (hn : n ≤ w.heap.size) (W : World) (l : Nat) (o o' : Obj) (hl : w.heap.size ≤ l) (h : W.heap[l]? = some o) (h1 : o.isCells = false) (h2 : o.isWalk = false) : KeepsTwo L M n W (W.putObj l o') :=
  .of_below L M (belowK_b hn W l o o' hl h h1 h2)
end
attribute [local go_sem] Oper.semAt_some
attribute [local go_sem] rowsL.wide_fn
attribute [local simp] rowsL.wide_fn
abbrev encs (A : Option Addr) (n c : Nat) (x : rowsL.Rw n) : Array Value := #[.slice (A.map fun a => a.add (x.1.1 * 6)) (x.1.2 - x.1.1) (c - x.1.1)]
set_option maxHeartbeats 8000000 in
set_option maxRecDepth 100000 in
theorem iter_in (li m Bs n₁ L M : Nat) (A : Option Addr) (n c B : Nat) (l : List Pc) (hnc : n ≤ c) (hn : n ≤ 1000000) (hm : 1 ≤ m) (hBs : Bs < n₁) (hLs : Bs ≠ L) (hMs : Bs ≠ M) (hBn : B ≤ n₁) (hBL : B ≤ L) (hBM : B ≤ M) (J Jx : List (rowsL.Rw n) → World → Prop) (W : World)
    (hr : Reads W B 6 A n (flatP l))
    (hY : ∀ pre x W1, J pre W1 → pre.length < n + 1 → YieldAt Fence.wide (m - 1) Try.prog li (encs A n c x) W1 fun e W' =>
      (e = .returned (.bool true) ∧ J (pre ++ [x]) W' ∧ KeepsTwo L M n₁ W1 W') ∨ (e = .returned (.bool false) ∧ Jx (pre ++ [x]) W'))
    (hc1 : W.cell? ⟨Bs, 0, none⟩ = some (.slice A n c)) (h0 : J [] W) :
    CallsIn Fence.wide m Try.prog 54 #[.func (.yield li) #[] #[], .pointer (some ⟨Bs, 0, none⟩)] W fun e W' => (∃ v, e = .returned v) ∧
      ((∃ ys : List (rowsL.Rw n), ys.map (·.1) = (rowsTo l n).1 ∧ J ys W') ∨ (∃ pre : List (rowsL.Rw n), True ∧ Jx pre W')) := by
  have HL := Lib.hid (len_P hr)
  refine callsIn_of_wp Try.func54 rfl trivial ?_ rfl
  simp only [Try.ntmps54, List.size_toArray, List.length_cons, List.length_nil, Nat.reduceAdd, Nat.reduceSub, Array.replicate_succ, Array.replicate_zero, List.push_toArray, List.append_toArray, List.nil_append, List.cons_append]
  gi_wp2
  gi_loopw [4, 3] (fun i b wr => ∃ (a k beg : Nat) (ys : List (rowsL.Rw n)), Hid (a = k + 1) ∧ (a ≤ n ∨ a = 1) ∧ 1 ≤ a ∧ i = .int .i64 a ∧ b = .int .i64 beg ∧ Hid (beg = (rowsTo l k).2) ∧ Hid (ys.map (·.1) = (rowsTo l k).1) ∧ Hid (J ys wr) ∧ KeepsTwo L M n₁ W wr)
    (fun i _ _ => n - (intOf i).toNat)
  case atStart => exact ⟨1, 0, 0, [], Lib.hid rfl, Or.inr rfl, Nat.le_refl _, rfl, rfl, Lib.hid rfl, Lib.hid rfl, Lib.hid h0, KeepsTwo.refl _ _ _ _⟩
  case round =>
    obtain ⟨a, k, beg, ys, HA, ha, ha1, rfl, rfl, HB, HY, HJ, hKB⟩ := hrel
    have d1 : wr.cell? ⟨Bs, 0, none⟩ = some (.slice A n c) := (hKB.cell hBs hLs hMs).trans hc1
    have hr1 : Reads wr B 6 A n (flatP l) := hr.keep fun p hp => World.cell?_of_block (hKB.block p.block (by omega) (by omega) (by omega))
    have hbk : beg < a := by rw [HA.out, HB.out]; exact Nat.lt_succ_of_le (rowsTo_le l k)
    have hyl : ys.length ≤ k := by have := congrArg List.length HY.out; rw [List.length_map] at this; rw [this]; exact rowsL.rowsTo_len l k
    have hak := HA.out
    have hyl2 : ys.length < n + 1 := by omega
    clear hak hyl
    by_cases hkl : a < n
    · have hkn : k < n := by have := HA.out; omega
      have ia : (a : Int) < (n : Int) := by omega
      have hkl2 : a ≤ n := by omega
      obtain ⟨p, hp⟩ : ∃ p, l[a]? = some p := ⟨l[a]'(by rw [HL.out]; exact hkl), List.getElem?_eq_getElem _⟩
      obtain ⟨ad, rfl, hab, e0, e1, e2, e3, e4, e5⟩ := pc_of hr1 hp
      obtain ⟨pb, pw, ph, pg, pt, pk⟩ := p
      simp only at e5
      have HR := Lib.hid (show rowEnd l a = pk by unfold rowEnd; rw [hp])
      cases pk
      · clear e0 e1 e2 e3 e4 hp hr1
        gi_wp2
        go_roundw
        case rel =>
          have e : rowsTo l (k + 1) = rowsTo l k := rowsL.rowsTo_same (by rw [← HA.out]; exact HR.out)
          exact ⟨a + 1, k + 1, beg, ys, Lib.hid (by rw [HA.out]), Or.inl (by omega), by omega, by go_num, rfl, Lib.hid (by rw [e]; exact HB.out), Lib.hid (by rw [e]; exact HY.out), HJ, hKB⟩
        case measure => simp [intOf]; omega
      · have hsl : ∀ w, (Instr.slice 22 (.slice (some ad) n c) (some (.int .i64 beg)) (some (.int .i64 a)) none).run Try.prog w = .ok (.slice (some (ad.add (beg * 6))) (a - beg) (c - beg)) w := by
          intro w
          have h := run_slice_lh (P := Try.prog) (w := w) (t := 22) (a := some ad) (len := n) (cap := c) Try.underlying22 .i64 .i64 beg a (by omega) (by omega) (by omega)
          rw [h]
          have hs : (sizeOf (Try.prog.elem 22)).run Try.prog w = .ok 6 w := by kernel_rfl
          rw [hs]
          have hne : ¬ c = beg := by omega
          simp [Result.andThen, sliced, hne]
        obtain ⟨fn, tmps, assign, body, hy, hR⟩ := hY ys ⟨(beg, a), hbk, hkl2⟩ _ HJ.out hyl2
        dsimp only [encs, Option.map] at hy
        clear e0 e1 e2 e3 e4 hp hr1
        gi_wp2
        refine hR.mono ?_
        rintro e W3 (⟨rfl, hJ3, hk3⟩ | ⟨rfl, hJx3⟩)
        · gi_wp2
          go_roundw
          case rel =>
            have e : rowsTo l (k + 1) = ((rowsTo l k).1 ++ [((rowsTo l k).2, k + 1)], k + 1) := rowsL.rowsTo_more (by rw [← HA.out]; exact HR.out)
            exact ⟨a + 1, k + 1, a, ys ++ [⟨(beg, a), hbk, hkl2⟩], Lib.hid (by rw [HA.out]), Or.inl (by omega), by omega, by go_num, rfl, Lib.hid (by rw [e]; exact HA.out), Lib.hid (by rw [e, List.map_append, HY.out, ← HB.out, ← HA.out]; rfl), Lib.hid hJ3, hKB.trans hk3⟩
          case measure => simp [intOf]; omega
        · gi_wp2
          refine bodyPost_ret (results_none rfl _ _ _) rfl ?_
          exact ⟨⟨_, rfl⟩, .inr ⟨_, trivial, hJx3⟩⟩
    · have ia : ¬ (a : Int) < (n : Int) := by omega
      by_cases hn0 : n = 0
      · have hb0 : ¬ (beg : Int) < (n : Int) := by omega
        have hk0 : k = n := by have := HA.out; omega
        have HK := Lib.hid hk0
        have HN0 := Lib.hid hn0
        clear hn0 hk0
        gi_wp2
        refine bodyPost_end (results_none rfl _ _ _) rfl ?_
        exact ⟨⟨_, rfl⟩, .inl ⟨_, by rw [HY.out, HK.out], HJ.out⟩⟩
      · obtain rfl : a = n := by omega
        have hb0 : (beg : Int) < (a : Int) := by omega
        obtain ⟨p, hp⟩ : ∃ p, l[0]? = some p := ⟨l[0]'(by rw [HL.out]; omega), List.getElem?_eq_getElem _⟩
        obtain ⟨ad, rfl, hab, _⟩ := pc_of hr1 hp
        have HR := Lib.hid (show rowEnd l a = true by unfold rowEnd; rw [List.getElem?_eq_none (by rw [HL.out]; exact Nat.le_refl _)])
        have hsl : ∀ w, (Instr.slice 22 (.slice (some ad) a c) (some (.int .i64 beg)) none none).run Try.prog w = .ok (.slice (some (ad.add (beg * 6))) (a - beg) (c - beg)) w := by
          intro w
          have h := run_slice_l (P := Try.prog) (w := w) (t := 22) (a := some ad) (len := a) (cap := c) Try.underlying22 .i64 beg (by omega) (by omega)
          rw [h]
          have hs : (sizeOf (Try.prog.elem 22)).run Try.prog w = .ok 6 w := by kernel_rfl
          rw [hs]
          have hne : ¬ c = beg := by omega
          simp [Result.andThen, sliced, hne]
        obtain ⟨fn, tmps, assign, body, hy, hR⟩ := hY ys ⟨(beg, a), hbk, Nat.le_refl _⟩ _ HJ.out hyl2
        dsimp only [encs, Option.map] at hy
        clear hp hr1 hn0
        gi_wp2
        refine hR.mono ?_
        rintro e W3 (⟨rfl, hJ3, hk3⟩ | ⟨rfl, hJx3⟩)
        · gi_wp2
          refine bodyPost_end (results_none rfl _ _ _) rfl ?_
          have e : rowsTo l (k + 1) = ((rowsTo l k).1 ++ [((rowsTo l k).2, k + 1)], k + 1) := rowsL.rowsTo_more (by rw [← HA.out]; exact HR.out)
          refine ⟨⟨_, rfl⟩, .inl ⟨ys ++ [⟨(beg, a), hbk, Nat.le_refl _⟩], ?_, hJ3⟩⟩
          rw [show rowsTo l a = rowsTo l (k + 1) by rw [← HA.out], e, List.map_append, HY.out, ← HB.out, ← HA.out]; rfl
        · gi_wp2
          refine bodyPost_end (results_none rfl _ _ _) rfl ?_
          exact ⟨⟨_, rfl⟩, .inr ⟨_, trivial, hJx3⟩⟩
theorem rows_any (A : Option Addr) (n c : Nat) (w : World) : Calls Try.prog 32 #[.slice A n c] w fun e w' =>
    e = .returned (.func (.func 54) #[] #[.pointer (some ⟨w.heap.size, 0, none⟩)]) ∧ w' = w.alloc (.cells #[.slice A n c] 22) := by
  go_enter Try.func32, Try.ntmps32
  go_wp2
  go_ret
  exact ⟨rfl, rfl⟩
theorem iter_stops (m Bs n₁ L M : Nat) (A : Option Addr) (n c B : Nat) (l : List Pc) (hnc : n ≤ c) (hn : n ≤ 1000000) (hm : 1 ≤ m) (hBs : Bs < n₁) (hLs : Bs ≠ L) (hMs : Bs ≠ M) (hBn : B ≤ n₁) (hBL : B ≤ L) (hBM : B ≤ M) (w : World) (hw : n₁ ≤ w.heap.size) (hr : Reads w B 6 A n (flatP l)) (hc1 : w.cell? ⟨Bs, 0, none⟩ = some (.slice A n c)) :
    SeqStopsK Fence.wide m Try.prog 54 #[.pointer (some ⟨Bs, 0, none⟩)] (encs A n c) (KeepsTwo L M n₁) (fun ys => ys.map (·.1) = (rowsTo l n).1) (fun _ => True) (n + 1) w :=
  fun li J Jx W hW _ _ hY h0 => iter_in li m Bs n₁ L M A n c B l hnc hn hm hBs hLs hMs hBn hBL hBM J Jx W (hr.below (hW.mono (by omega))) hY ((hW.cell (p := ⟨Bs, 0, none⟩) (by show Bs < w.heap.size; omega)).trans hc1) h0
end meas
end Go.Proofs.Ytgglffmfkhbcgaa
