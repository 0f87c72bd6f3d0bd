/- What Stack of package block answers. Conditions: the items lie in memory as they are read. -/
import Derived.Test.YtfamhjmdffaphaaBlockG
import Derived.Lib.MinMax
namespace Go.Proofs.Ytfamhjmdffaphaa
open Go.ChangeShapes Go.WideShapes Go.ChangeAt Go.RowKit
structure Pst where
  bs : List Int
  en : Int
  cut : Bool
def pstep (m : Int × Bool) (s : Pst) (x : It) : Pst :=
  ⟨s.bs ++ [add2 s.en m.1], add2 (add2 s.en m.1) x.h, ((s.cut || !m.2) || !addOk s.en m.1) || !addOk (add2 s.en m.1) x.h⟩
def pmeet (l : List It) (k : Nat) (x : It) : Int × Bool := if k = 0 then (x.t, true) else match l[k - 1]? with | some y => meetF y.b x.t | none => (x.t, true)
def pAt (l : List It) : Nat → Pst
  | 0 => ⟨[], 0, false⟩
  | k + 1 => match l[k]? with
    | some x => pstep (pmeet l k x) (pAt l k) x
    | none => pAt l k
theorem pAt_some {l : List It} {k : Nat} {x : It} (h : l[k]? = some x) : pAt l (k + 1) = pstep (pmeet l k x) (pAt l k) x := by rw [pAt, h]
theorem pAt_len (l : List It) (k : Nat) (h : k ≤ l.length) : (pAt l k).bs.length = k := by
  induction k with
  | zero => rfl
  | succ k ih =>
    rw [pAt_some (List.getElem?_eq_getElem (show k < l.length by omega))]
    simp [pstep, ih (by omega)]
/-- What Stack answers: begins, how high, whether exact. -/
def stackF (l : List It) : List Int × Int × Bool :=
  match l.getLast? with
  | none => ([], 0, true)
  | some y => ((pAt l l.length).bs, max (add2 (pAt l l.length).en y.b) 0, !(pAt l l.length).cut && addOk (pAt l l.length).en y.b)
theorem pil_alloc {w : World} {B g : Nat} {bs : List Int} {en : Int} {cut : Bool} (h : PilS w B g bs en cut) (o : Obj) : PilS (w.alloc o) B g bs en cut := by
  obtain ⟨v, K, hY⟩ := h
  exact ⟨v, K.alloc o, World.ownsRow.alloc hY o⟩
theorem pil_cut {w : World} {B g : Nat} {bs : List Int} {en : Int} {cut : Bool} (h : PilS w B g bs en cut) : w.cell? ⟨g, 2, none⟩ = some (.bool cut) ∧ w.frozen? ⟨g, 2, none⟩ = false := by
  obtain ⟨v, K, hY⟩ := h
  exact ⟨K.cell 2, K.frozen 2⟩
theorem pil_set {w : World} {B g : Nat} {bs : List Int} {en : Int} {cut : Bool} (h : PilS w B g bs en cut) (c : Bool) : PilS (w.setCell ⟨g, 2, none⟩ (.bool c)) B g bs en c := by
  obtain ⟨v, K, hY⟩ := h
  exact ⟨v, K.set_ 2 (.bool c), ownsRow_setCell_other hY (a := ⟨g, 2, none⟩) (own_blk_ne hY K (by decide)) _⟩
theorem pil_drewN {w : World} {B g : Nat} {bs : List Int} {en : Int} {cut : Bool} (h : PilS w B g bs en cut) (n : Nat) : PilS (w.drewN n) B g bs en cut := h
set_option maxHeartbeats 8000000 in
set_option maxRecDepth 100000 in
theorem stack_any (A : Option Addr) (n c : Nat) (l : List It) (w : World) (hr : Reads w w.heap.size 3 A n (flatS l)) (hn : n ≤ 100000000) :
    Calls Try.prog 12 #[.slice A n c] w fun e w' => ∃ (A' : Option Addr) (c' : Nat), e = .returned (.tuple #[.slice A' n c', .int .i64 (stackF l).2.1, .bool (stackF l).2.2]) ∧ Reads w' w'.heap.size 1 A' n ((stackF l).1.map (Value.int .i64)) ∧ Below w.heap.size w w' := by
  have HL := Lib.hid (len_S hr)
  by_cases h0 : n = 0
  · subst h0
    obtain rfl : l = [] := List.length_eq_zero_iff.1 HL.out
    have e : stackF [] = ([], 0, true) := rfl
    rw [e]
    go_enter Try.func12, Try.ntmps12
    go_wp2
    go_ret3
    exact ⟨none, 0, rfl, Reads.none_, Below.refl _ _⟩
  have hn0 : ((n : Int) == 0) = false := by simpa using h0
  obtain ⟨y, hy⟩ : ∃ y, l[n - 1]? = some y := ⟨l[n - 1]'(by rw [HL.out]; omega), List.getElem?_eq_getElem _⟩
  have HY := Lib.hid (show stackF l = ((pAt l n).bs, max (add2 (pAt l n).en y.b) 0, !(pAt l n).cut && addOk (pAt l n).en y.b) by
    unfold stackF
    rw [List.getLast?_eq_getElem?, HL.out, hy])
  have K0 := Blk.new w 52 #[.slice none 0 0, .int .i64 0, .bool false]
  have hB0 := below_al (Below.refl w.heap.size w) (.cells #[.slice none 0 0, .int .i64 0, .bool false] 52)
  go_enter Try.func12, Try.ntmps12
  go_wp2
  go_loopw [15] (fun i wr => ∃ (k : Nat), k ≤ n ∧ i = .int .i64 k ∧ Below w.heap.size w wr ∧ PilS wr w.heap.size w.heap.size (pAt l k).bs (pAt l k).en (pAt l k).cut) (fun i _ => n - (intOf i).toNat)
  case atStart => exact ⟨0, Nat.zero_le _, rfl, hB0, _, K0, I64s.nil _ _⟩
  case round =>
    obtain ⟨k, hk, rfl, hBr, hP⟩ := hrel
    have hrr := hr.below hBr
    have hle := hBr.size
    by_cases hlt : k < n
    · obtain ⟨x, hx⟩ : ∃ x, l[k]? = some x := ⟨l[k]'(by rw [HL.out]; omega), List.getElem?_eq_getElem _⟩
      obtain ⟨ad, rfl, hb, e0, e1, e2⟩ := it_of hrr hx
      have HS := Lib.hid (pAt_some hx)
      have HLn := Lib.hid (pAt_len l k (by rw [HL.out]; exact hk))
      have hPa := pil_alloc hP (.cells #[.int .i64 x.t, .int .i64 x.h, .int .i64 x.b] 43)
      have hBa := below_al hBr (.cells #[.int .i64 x.t, .int .i64 x.h, .int .i64 x.b] 43)
      clear K0 hB0 hr
      by_cases hk0 : k = 0
      · have HM := Lib.hid (show pmeet l k x = (x.t, true) by rw [hk0]; rfl)
        have cp := put_any w.heap.size w.heap.size (pAt l k).bs (pAt l k).en (pAt l k).cut x.h x.t _ hPa (Nat.le_refl _) (by rw [HLn.out]; omega)
        have hk1 : ¬ (0 < (k : Int)) := by omega
        have hk2 : ¬ 0 < k := by omega
        clear hx hk0
        obtain ⟨xt, xh, xb⟩ := x
        generalize pAt l k = S at *
        simp only at cp e0 e1 e2 hBa HM
        go_wp2_with (go_at_call 23; (with_reducible refine cp.mono ?_); rintro e w1 ⟨rfl, hP1, hb1⟩)
        go_roundw
        case rel =>
          refine ⟨k + 1, by omega, by go_num, hBa.trans hb1, ?_⟩
          rw [HS.out, HM.out]
          simpa [pstep] using hP1
        case measure => simp [intOf]; omega
      · obtain ⟨z, hz⟩ : ∃ z, l[k - 1]? = some z := ⟨l[k - 1]'(by rw [HL.out]; omega), List.getElem?_eq_getElem _⟩
        obtain ⟨ad', ha', hadb, f0, f1, f2⟩ := it_of hrr hz
        have hne : w.heap.size < wr.heap.size := by obtain ⟨_, K, _⟩ := hP; exact K.lt
        have hadb : (ad'.add ((k - 1) * 3)).block < wr.heap.size := by rw [block_of_add]; omega
        injection ha' with ha'
        subst ha'
        have HM := Lib.hid (show pmeet l k x = meetF z.b x.t by unfold pmeet; rw [if_neg hk0, hz])
        have cm := fun w => meet_any z.b x.t w
        obtain ⟨c0, c1⟩ := pil_cut hPa
        have hPb := pil_set hPa ((pAt l k).cut || !(meetF z.b x.t).2)
        have hBb := below_set hBa (p := ⟨w.heap.size, 2, none⟩) (Nat.le_refl _) (.bool ((pAt l k).cut || !(meetF z.b x.t).2))
        have hk1 : (0 < (k : Int)) := by omega
        have hk2 : 0 < k := by omega
        have hk4 : k - 1 < n := by omega
        have hk3 : IntKind.i64.wrap ((k : Int) - 1) = ((k - 1 : Nat) : Int) := by rw [IntKind.wrap_i64]; omega
        have HLz := Lib.hid (show (pAt l k).bs.length < 400000000 by rw [HLn.out]; omega)
        clear hx hk0 hz
        obtain ⟨xt, xh, xb⟩ := x
        obtain ⟨zt, zh, zb⟩ := z
        simp only at e0 e1 e2 f0 f1 f2 hBa HM cm hPa hPb hBb c0 c1
        generalize pAt l k = S at *
        generalize meetF zb xt = M at *
        go_upto_region 9 with (fail)
        obtain ⟨wb, hwb⟩ : ∃ wb, wb = wr.alloc (.cells #[.int .i64 xt, .int .i64 xh, .int .i64 xb] 43) := ⟨_, rfl⟩
        have q0 : wb.cell? ⟨wr.heap.size, 0, none⟩ = some (.int .i64 xt) := by rw [hwb]; exact (Blk.new _ _ _).cell 0
        have q1 : wb.cell? ⟨wr.heap.size, 1, none⟩ = some (.int .i64 xh) := by rw [hwb]; exact (Blk.new _ _ _).cell 1
        have g2 : wb.cell? ⟨(ad.add ((k - 1) * 3)).block, (ad.add ((k - 1) * 3)).off + 2, none⟩ = some (.int .i64 zb) := by rw [hwb]; exact (World.cell?_alloc_lt _ _ ⟨(ad.add ((k - 1) * 3)).block, (ad.add ((k - 1) * 3)).off + 2, none⟩ hadb).trans f2
        rw [← hwb] at hPa hBa c0 c1 hPb hBb ⊢
        clear hwb hBr hP
        go_still_tail 11, (by kernel_rfl)
        still_call ((cm _).mono (fun e w' h => ⟨h.1, h.2.symm⟩))
        repeat still_step
        refine wpStill_nil ?_
        change wpList _ _ _ _ _ wb.drew
        have d0 := c0
        have c0 : wb.drew.cell? ⟨w.heap.size, 2, none⟩ = some (.bool S.cut) := d0
        have d1 := c1
        have c1 : wb.drew.frozen? ⟨w.heap.size, 2, none⟩ = false := d1
        have hPd : PilS (wb.drew.setCell ⟨w.heap.size, 2, none⟩ (.bool (S.cut || !M.2))) w.heap.size w.heap.size S.bs S.en (S.cut || !M.2) := hPb
        have hBd : Below w.heap.size w (wb.drew.setCell ⟨w.heap.size, 2, none⟩ (.bool (S.cut || !M.2))) := below_set hBa.drew (p := ⟨w.heap.size, 2, none⟩) (Nat.le_refl _) _
        have q0 : wb.drew.cell? ⟨wr.heap.size, 0, none⟩ = some (.int .i64 xt) := q0
        have q1 : wb.drew.cell? ⟨wr.heap.size, 1, none⟩ = some (.int .i64 xh) := q1
        clear d0 d1 g2 hPa hPb hBa hBb
        generalize wb.drew = wd at *
        have q2 : (wd.setCell ⟨w.heap.size, 2, none⟩ (.bool (S.cut || !M.2))).cell? ⟨wr.heap.size, 1, none⟩ = some (.int .i64 xh) := by rw [World.cell?_setCell_other _ _ _ _ (by intro e; injection e with e; omega)]; exact q1
        have cn := numberB_any w.heap.size M.1 M.2 S.cut wd c0 c1
        have cp := put_any w.heap.size w.heap.size S.bs S.en (S.cut || !M.2) xh M.1 _ hPd (Nat.le_refl _) HLz.out
        go_wp2_with (first
          | (go_at_call 22; (with_reducible refine cn.mono ?_); rintro e w1 ⟨rfl, rfl⟩)
          | (go_at_call 23; (with_reducible refine cp.mono ?_); rintro e w1 ⟨rfl, hP1, hb1⟩))
        go_roundw
        case rel =>
          refine ⟨k + 1, by omega, by go_num, hBd.trans hb1, ?_⟩
          rw [HS.out, HM.out]
          exact hP1
        case measure => simp [intOf]; omega
    · obtain rfl : k = n := by omega
      obtain ⟨ad, rfl, hadb, f0, f1, f2⟩ := it_of hrr hy
      have ca := fun w => add_any (pAt l k).en y.b w
      obtain ⟨c0, c1⟩ := pil_cut hP
      have ce : wr.cell? ⟨w.heap.size, 1, none⟩ = some (.int .i64 (pAt l k).en) := by obtain ⟨v, K, _⟩ := hP; exact K.cell 1
      have hP2 := pil_set hP ((pAt l k).cut || !addOk (pAt l k).en y.b)
      have hB2 := below_set hBr (p := ⟨w.heap.size, 2, none⟩) (Nat.le_refl _) (.bool ((pAt l k).cut || !addOk (pAt l k).en y.b))
      have hk3 : IntKind.i64.wrap ((k : Int) - 1) = ((k - 1 : Nat) : Int) := by rw [IntKind.wrap_i64]; omega
      have hk4 : k - 1 < k := by omega
      have HLn := Lib.hid (pAt_len l k (by rw [HL.out]; exact Nat.le_refl _))
      have cn := fun W h1 h2 => numberB_any w.heap.size (add2 (pAt l k).en y.b) (addOk (pAt l k).en y.b) (pAt l k).cut W h1 h2
      clear hy HL hr hrr
      go_upto_region 12 with (fail)
      go_still_tail 12, (by kernel_rfl)
      still_call ((ca _).mono (fun e w' h => ⟨h.1, h.2.symm⟩))
      repeat still_step
      refine wpStill_nil ?_
      change wpList _ _ _ _ _ wr.drew
      have cn := cn wr.drew c0 c1
      obtain ⟨v, K, hY⟩ := hP2
      have K : Blk (wr.drew.setCell ⟨w.heap.size, 2, none⟩ (.bool ((pAt l k).cut || !addOk (pAt l k).en y.b))) w.heap.size 52 _ := K
      have hY : I64s (wr.drew.setCell ⟨w.heap.size, 2, none⟩ (.bool ((pAt l k).cut || !addOk (pAt l k).en y.b))) w.heap.size v (pAt l k).bs := hY
      have hB2 : Below w.heap.size w (wr.drew.setCell ⟨w.heap.size, 2, none⟩ (.bool ((pAt l k).cut || !addOk (pAt l k).en y.b))) := below_set hBr.drew (p := ⟨w.heap.size, 2, none⟩) (Nat.le_refl _) _
      obtain ⟨A', c', rfl⟩ := own_form' hY
      have hrd := Reads.of_own hY
      rw [HLn.out] at K hY hrd
      generalize wr.drew.setCell ⟨w.heap.size, 2, none⟩ (.bool ((pAt l k).cut || !addOk (pAt l k).en y.b)) = wz at *
      have z0 : wz.cell? ⟨w.heap.size, 0, none⟩ = some (.slice A' k c') := K.cell 0
      have z2 : wz.cell? ⟨w.heap.size, 2, none⟩ = some (.bool ((pAt l k).cut || !addOk (pAt l k).en y.b)) := K.cell 2
      clear c0 c1 ce f0 f1 f2 hP K ca hB0 K0 hBr
      go_wp2_with (first
        | (go_at_call 22; (with_reducible refine cn.mono ?_); rintro e w1 ⟨rfl, rfl⟩))
      go_quiet (fail)
      go_wp2
      go_ret3
      rw [HY.out]
      exact ⟨A', c', rfl, hrd, below_dr hB2 _⟩
end Go.Proofs.Ytfamhjmdffaphaa
