/- What the landed package line's rows yields. Conditions: the pieces lie in memory as they are read. -/
import Derived.Test.YtgglffmfkhbcgaaLineA
import Derived.Deep.Draws
import Derived.Sort.QuietIn
import Derived.WalkSmall
namespace Go.Proofs.Ytgglffmfkhbcgaa
open Go.ChangeShapes Go.WideShapes Go.ChangeAt Go.RowKit Go.Shelf
namespace rowsL
attribute [local go_sem] Oper.semAt_some
theorem wide_fn (f : FuncId) : Fence.wide.fn f = True := rfl
attribute [local go_sem] wide_fn
attribute [local simp] wide_fn
/-- A row: where it begins, and ends. -/
abbrev Rw (n : Nat) := { x : Nat × Nat // x.1 < x.2 ∧ x.2 ≤ n }
abbrev encs (A : Option Addr) (n : Nat) (x : Rw n) : Array Value := #[.slice (A.map fun a => a.add (x.1.1 * 6)) (x.1.2 - x.1.1) (x.1.2 - x.1.1)]
theorem rowsTo_more {l : List Pc} {k : Nat} (h : rowEnd l (k + 1) = true) : rowsTo l (k + 1) = ((rowsTo l k).1 ++ [((rowsTo l k).2, k + 1)], k + 1) := by rw [rowsTo, if_pos h]
theorem rowsTo_same {l : List Pc} {k : Nat} (h : rowEnd l (k + 1) = false) : rowsTo l (k + 1) = rowsTo l k := by rw [rowsTo, if_neg (by rw [h]; simp)]
theorem rowsTo_len (l : List Pc) : ∀ k, (rowsTo l k).1.length ≤ k
  | 0 => Nat.le_refl _
  | k + 1 => by
    have := rowsTo_len l k
    cases h : rowEnd l (k + 1)
    · rw [rowsTo_same h]; omega
    · rw [rowsTo_more h]; simp; omega
set_option maxHeartbeats 8000000 in
set_option maxRecDepth 100000 in
theorem iter_in (li m Bs n₁ L : Nat) (A : Option Addr) (n c B : Nat) (l : List Pc) (hnc : n ≤ c) (hn : n ≤ 1000000) (hm : 1 ≤ m) (hBs : Bs < n₁) (hLs : Bs ≠ L) (hBn : B ≤ n₁) (hBL : B ≤ L) (J Jx : List (Rw n) → World → Prop) (W : World) (hJ : AbidesFrom W.heap.size J)
    (hr : Reads W B 6 A n (flatP l))
    (hY : ∀ pre x W1, J pre W1 → pre.length < n + 1 → YieldAt Fence.wide (m - 1) Try.prog li (encs A n x) W1 fun e W' =>
      (e = .returned (.bool true) ∧ J (pre ++ [x]) W' ∧ KeepsBut L n₁ W1 W') ∨ (e = .returned (.bool false) ∧ Jx (pre ++ [x]) W'))
    (hc1 : W.cell? ⟨Bs, 0, none⟩ = some (.slice A n c)) (h0 : J [] W) :
    CallsIn Fence.wide m Try.prog 48 #[.func (.yield li) #[] #[], .pointer (some ⟨Bs, 0, none⟩)] W fun e W' => (∃ v, e = .returned v) ∧
      ((∃ ys : List (Rw n), ys.map (·.1) = (rowsTo l n).1 ∧ J ys W') ∨ (∃ pre : List (Rw n), True ∧ Jx pre W')) := by
  have HL := Lib.hid (len_P hr)
  refine callsIn_of_wp Try.func48 rfl trivial ?_ rfl
  simp only [Try.ntmps48, List.size_toArray, List.length_cons, List.length_nil, Nat.reduceAdd, Nat.reduceSub, Array.replicate_succ, Array.replicate_zero, List.push_toArray, List.append_toArray, List.nil_append, List.cons_append]
  gi_wp2
  gi_loopw [4, 3] (fun i b wr => ∃ (a k beg : Nat) (ys : List (Rw n)), Hid (a = k + 1) ∧ a ≤ n + 1 ∧ 1 ≤ a ∧ i = .int .i64 a ∧ b = .int .i64 beg ∧ Hid (beg = (rowsTo l k).2) ∧ Hid (ys.map (·.1) = (rowsTo l k).1) ∧ Hid (J ys wr) ∧ KeepsBut L n₁ W wr)
    (fun i _ _ => n + 1 - (intOf i).toNat)
  case atStart => exact ⟨1, 0, 0, [], Lib.hid rfl, by omega, Nat.le_refl _, rfl, rfl, Lib.hid rfl, Lib.hid rfl, Lib.hid h0, KeepsBut.refl _ _ _⟩
  case round =>
    obtain ⟨a, k, beg, ys, HA, ha, ha1, rfl, rfl, HB, HY, HJ, hKB⟩ := hrel
    have d1 : wr.cell? ⟨Bs, 0, none⟩ = some (.slice A n c) := (hKB.cell hBs hLs).trans hc1
    have hr1 : Reads wr B 6 A n (flatP l) := hr.keep fun p hp => World.cell?_of_block (hKB.block p.block (by omega) (by omega))
    by_cases hkl : a ≤ n
    · have hbk : beg < a := by rw [HA.out, HB.out]; exact Nat.lt_succ_of_le (rowsTo_le l k)
      have hyl : ys.length ≤ k := by have := congrArg List.length HY.out; rw [List.length_map] at this; rw [this]; exact rowsTo_len l k
      have hkn : k < n := by have := HA.out; omega
      have ia : (a : Int) ≤ (n : Int) := by omega
      by_cases hlt : a < n
      · obtain ⟨p, hp⟩ : ∃ p, l[a]? = some p := ⟨l[a]'(by rw [HL.out]; exact hlt), List.getElem?_eq_getElem _⟩
        obtain ⟨ad, rfl, hab, e0, e1, e2, e3, e4, e5⟩ := pc_of hr1 hp
        have ia2 : (a : Int) < (n : Int) := by omega
        obtain ⟨pb, pw, ph, pg, pt, pk⟩ := p
        simp only at e5
        have HR := Lib.hid (show rowEnd l a = pk by unfold rowEnd; rw [hp])
        cases pk
        · clear e0 e1 e2 e3 e4 hp hr1
          gi_wp2
          go_roundw
          case rel =>
            have e : rowsTo l (k + 1) = rowsTo l k := rowsTo_same (by rw [← HA.out]; exact HR.out)
            exact ⟨a + 1, k + 1, beg, ys, Lib.hid (by rw [HA.out]), by omega, by omega, by go_num, rfl, Lib.hid (by rw [e]; exact HB.out), Lib.hid (by rw [e]; exact HY.out), HJ, hKB⟩
          case measure => simp [intOf]; omega
        · have hsl : ∀ w, (Instr.slice 22 (.slice (some ad) n c) (some (.int .i64 beg)) (some (.int .i64 a)) (some (.int .i64 a))).run Try.prog w = .ok (.slice (some (ad.add (beg * 6))) (a - beg) (a - beg)) w := by
            intro w
            have h := run_slice_lhm (P := Try.prog) (w := w) (t := 22) (a := some ad) (len := n) (cap := c) Try.underlying22 .i64 .i64 .i64 beg a a (by omega) (by omega) (by omega) (by omega)
            rw [h]
            have hs : (sizeOf (Try.prog.elem 22)).run Try.prog w = .ok 6 w := by kernel_rfl
            rw [hs]
            have hne : ¬ a = beg := by omega
            simp [Result.andThen, sliced, hne]
          obtain ⟨fn, tmps, assign, body, hy, hR⟩ := hY ys ⟨(beg, a), hbk, hkl⟩ _ HJ.out (by omega)
          dsimp only [encs, Option.map] at hy
          clear e0 e1 e2 e3 e4 hp hr1
          gi_wp2
          refine hR.mono ?_
          rintro e W3 (⟨rfl, hJ3, hk3⟩ | ⟨rfl, hJx3⟩)
          · gi_wp2
            go_roundw
            case rel =>
              have e : rowsTo l (k + 1) = ((rowsTo l k).1 ++ [((rowsTo l k).2, k + 1)], k + 1) := rowsTo_more (by rw [← HA.out]; exact HR.out)
              exact ⟨a + 1, k + 1, a, ys ++ [⟨(beg, a), hbk, hkl⟩], Lib.hid (by rw [HA.out]), by omega, by omega, by go_num, rfl, Lib.hid (by rw [e]; exact HA.out), Lib.hid (by rw [e, List.map_append, HY.out, ← HB.out, ← HA.out]; rfl), Lib.hid hJ3, hKB.trans hk3⟩
            case measure => simp [intOf]; omega
          · gi_wp2
            refine bodyPost_ret (results_none rfl _ _ _) rfl ?_
            exact ⟨⟨_, rfl⟩, .inr ⟨_, trivial, hJx3⟩⟩
      · obtain rfl : a = n := by omega
        have hn0 : 0 < l.length := by rw [HL.out]; omega
        obtain ⟨ad, rfl, hab, e0, e1, e2, e3, e4, e5⟩ := pc_of hr1 (List.getElem?_eq_getElem hn0)
        have HR := Lib.hid (show rowEnd l a = true by unfold rowEnd; rw [List.getElem?_eq_none (by rw [HL.out]; exact Nat.le_refl _)])
        have hsl : ∀ w, (Instr.slice 22 (.slice (some ad) a c) (some (.int .i64 beg)) (some (.int .i64 a)) (some (.int .i64 a))).run Try.prog w = .ok (.slice (some (ad.add (beg * 6))) (a - beg) (a - beg)) w := by
          intro w
          have h := run_slice_lhm (P := Try.prog) (w := w) (t := 22) (a := some ad) (len := a) (cap := c) Try.underlying22 .i64 .i64 .i64 beg a a (by omega) (by omega) (by omega) (by omega)
          rw [h]
          have hs : (sizeOf (Try.prog.elem 22)).run Try.prog w = .ok 6 w := by kernel_rfl
          rw [hs]
          have hne : ¬ a = beg := by omega
          simp [Result.andThen, sliced, hne]
        obtain ⟨fn, tmps, assign, body, hy, hR⟩ := hY ys ⟨(beg, a), hbk, hkl⟩ _ HJ.out (by omega)
        dsimp only [encs, Option.map] at hy
        clear e0 e1 e2 e3 e4 e5 hr1
        gi_wp2
        refine hR.mono ?_
        rintro e W3 (⟨rfl, hJ3, hk3⟩ | ⟨rfl, hJx3⟩)
        · gi_wp2
          go_roundw
          case rel =>
            have e : rowsTo l (k + 1) = ((rowsTo l k).1 ++ [((rowsTo l k).2, k + 1)], k + 1) := rowsTo_more (by rw [← HA.out]; exact HR.out)
            exact ⟨a + 1, k + 1, a, ys ++ [⟨(beg, a), hbk, hkl⟩], Lib.hid (by rw [HA.out]), by omega, by omega, by go_num, rfl, Lib.hid (by rw [e]; exact HA.out), Lib.hid (by rw [e, List.map_append, HY.out, ← HB.out, ← HA.out]; rfl), Lib.hid hJ3, hKB.trans hk3⟩
          case measure => simp [intOf]
        · gi_wp2
          refine bodyPost_ret (results_none rfl _ _ _) rfl ?_
          exact ⟨⟨_, rfl⟩, .inr ⟨_, trivial, hJx3⟩⟩
    · have hk : k = n := by have := HA.out; omega
      have HK := Lib.hid hk
      have ia : ¬ (a : Int) ≤ (n : Int) := by omega
      gi_wp2
      refine bodyPost_end (results_none rfl _ _ _) rfl ?_
      exact ⟨⟨_, rfl⟩, .inl ⟨_, by rw [HY.out, HK.out], HJ.out⟩⟩
theorem rows_any (A : Option Addr) (n c : Nat) (w : World) : Calls Try.prog 29 #[.slice A n c] w fun e w' =>
    e = .returned (.func (.func 48) #[] #[.pointer (some ⟨w.heap.size, 0, none⟩)]) ∧ w' = w.alloc (.cells #[.slice A n c] 22) := by
  go_enter Try.func29, Try.ntmps29
  go_wp2
  go_ret
  exact ⟨rfl, rfl⟩
theorem iter_stops (m Bs n₁ L : Nat) (A : Option Addr) (n c B : Nat) (l : List Pc) (hnc : n ≤ c) (hn : n ≤ 1000000) (hm : 1 ≤ m) (hBs : Bs < n₁) (hLs : Bs ≠ L) (hBn : B ≤ n₁) (hBL : B ≤ L) (w : World) (hw : n₁ ≤ w.heap.size) (hr : Reads w B 6 A n (flatP l)) (hc1 : w.cell? ⟨Bs, 0, none⟩ = some (.slice A n c)) :
    SeqStopsK Fence.wide m Try.prog 48 #[.pointer (some ⟨Bs, 0, none⟩)] (encs A n) (KeepsBut L n₁) (fun ys => ys.map (·.1) = (rowsTo l n).1) (fun _ => True) (n + 1) w :=
  fun li J Jx W hW hJ _ hY h0 => iter_in li m Bs n₁ L A n c B l hnc hn hm hBs hLs hBn hBL J Jx W hJ (hr.below (hW.mono (by omega))) hY ((hW.cell (p := ⟨Bs, 0, none⟩) (by show Bs < w.heap.size; omega)).trans hc1) h0
end rowsL
end Go.Proofs.Ytgglffmfkhbcgaa
