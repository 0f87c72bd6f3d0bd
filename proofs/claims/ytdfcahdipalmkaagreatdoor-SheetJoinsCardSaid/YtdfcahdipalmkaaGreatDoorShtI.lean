/- Law 10's decls, and SameDecls. Conditions: lists are not too long. -/
import Derived.Test.YtdfcahdipalmkaaGreatDoorShtF3
/- sheet's Same. Conditions: lists are not too long. -/
namespace Go.Proofs.YtdfcahdipalmkaaGreatDoor
open Go.ChangeShapes Go.WideShapes Go.ChangeAt Go.RowKit Go.Shelf
namespace Sht
open Sel
open RowG (Row)
theorem neq_dcl (w : World) (a b : Dcl) : (binOp .neq 54 (.agg #[.int .i64 a.p, .int .i64 a.k, .int .i64 a.n, .bool a.s]) (.agg #[.int .i64 b.p, .int .i64 b.k, .int .i64 b.n, .bool b.s])).run Tryz.prog w = .ok (.bool (!decide (a = b))) w := by
  have e : decide (a = b) = ((a.p == b.p) && ((a.k == b.k) && ((a.n == b.n) && (a.s == b.s)))) := by
    obtain ⟨p, k, n, s⟩ := a
    obtain ⟨p', k', n', s'⟩ := b
    simp only [Dcl.mk.injEq, Bool.decide_and]
    rfl
  rw [e]
  cases h1 : (a.p == b.p) <;> cases h2 : (a.k == b.k) <;> cases h3 : (a.n == b.n) <;> cases h4 : (a.s == b.s) <;> go_simp
set_option maxRecDepth 100000 in
set_option maxHeartbeats 16000000 in
theorem equalD_any (A : Option Addr) (n c : Nat) (A2 : Option Addr) (n2 c2 : Nat) (l m : List Dcl) (hn : n ≤ 1000000) (w : World) (h1 : DcR w w.heap.size A n l) (h2 : DcR w w.heap.size A2 n2 m) :
    Calls Tryz.prog 93 #[.slice A n c, .slice A2 n2 c2] w fun e w' => e = .returned (.bool (decide (l = m))) ∧ Below w.heap.size w w' := by
  have hl := h1.1
  have hm := h2.1
  by_cases hnn : n = n2
  · subst hnn
    obtain ⟨R, hR⟩ : ∃ R, R = decide (l = m) := ⟨_, rfl⟩
    rw [← hR]
    have HL := Lib.hid hl
    have HM := Lib.hid hm
    have HR := Lib.hid hR
    clear hl hm hR
    go_enter Tryz.func93, Tryz.ntmps93
    go_wp2
    go_loopw [13] (fun iv wr => ∃ k : Nat, k ≤ n ∧ iv = .int .i64 k ∧ Hid (l.take k = m.take k) ∧ Below w.heap.size w wr) (fun iv _ => n - (intOf iv).toNat)
    case atStart => exact ⟨0, Nat.zero_le _, rfl, rfl, Below.refl _ _⟩
    case round =>
      obtain ⟨k, hk, rfl, HK, hBr⟩ := hrel
      by_cases hlt : k < n
      · obtain ⟨x, hx⟩ : ∃ x, l[k]? = some x := ⟨_, List.getElem?_eq_getElem (by rw [HL.out]; exact hlt)⟩
        obtain ⟨y, hy⟩ : ∃ y, m[k]? = some y := ⟨_, List.getElem?_eq_getElem (by rw [HM.out]; exact hlt)⟩
        obtain ⟨a1, rfl, -, k10, k11, k12, k13⟩ := (h1.below hBr (Nat.le_refl _)).at_ hx
        obtain ⟨a2, rfl, -, k20, k21, k22, k23⟩ := (h2.below hBr (Nat.le_refl _)).at_ hy
        have hki : (k : Int) < (n : Int) := by omega
        have hk0 : (0 : Int) ≤ (k : Int) := Int.natCast_nonneg _
        by_cases hxy : x = y
        · have hq := fun w => neq_dcl w x y
          rw [decide_eq_true hxy] at hq
          simp only [Bool.not_true] at hq
          have HK2 : Hid (l.take (k + 1) = m.take (k + 1)) := by show _ = _; rw [List.take_add_one, List.take_add_one, HK.out, hx, hy, hxy]
          clear hx hy h1 h2 HK hxy
          go_upto_region 6 with (fail)
          go_quiet (fail)
          go_wp2
          go_roundw
          case rel => exact ⟨k + 1, by omega, by go_num, HK2, below_dr hBr nq⟩
          case measure => simp [intOf]; omega
        · have hq := fun w => neq_dcl w x y
          rw [decide_eq_false hxy] at hq
          simp only [Bool.not_false] at hq
          obtain rfl : R = false := by
            rw [HR.out]
            refine decide_eq_false (fun e => hxy ?_)
            rw [e, hy] at hx
            exact (Option.some.inj hx).symm
          clear hx hy h1 h2 HK hxy
          go_upto_region 6 with (fail)
          go_quiet (fail)
          go_wp2
          go_ret
          exact ⟨rfl, below_dr hBr nq⟩
      · obtain rfl : k = n := by omega
        obtain rfl : R = true := by
          rw [HR.out]
          have := HK.out
          rw [List.take_of_length_le (by rw [HL.out]; exact Nat.le_refl _), List.take_of_length_le (by rw [HM.out]; exact Nat.le_refl _)] at this
          exact decide_eq_true this
        clear HK
        go_wp2
        go_ret
        exact ⟨rfl, hBr⟩
  · have hne : decide (l = m) = false := decide_eq_false (fun e => hnn (by rw [← hl, ← hm, e]))
    rw [hne]
    have hb : ((n : Int) == (n2 : Int)) = false := by rw [beq_eq_false_iff_ne]; omega
    clear hl hm hnn hne h1 h2
    go_enter Tryz.func93, Tryz.ntmps93
    go_wp2
    go_ret
    exact ⟨rfl, Below.refl _ _⟩
set_option maxRecDepth 100000 in
set_option maxHeartbeats 16000000 in
theorem equalS_any (A : Option Addr) (n c : Nat) (A2 : Option Addr) (n2 c2 : Nat) (ps qs : List Slr) (hn : n ≤ 1000000) (hf : ∀ x ∈ ps, SelB x) (w : World) (h1 : XsR w w.heap.size A n ps) (h2 : XsR w w.heap.size A2 n2 qs) :
    Calls Tryz.prog 91 #[.slice A n c, .slice A2 n2 c2, .func (.func 92) #[] #[]] w fun e w' => e = .returned (.bool (decide (ps = qs))) ∧ Below w.heap.size w w' := by
  have hl := h1.len
  have hm := h2.len
  by_cases hnn : n = n2
  · subst hnn
    obtain ⟨R, hR⟩ : ∃ R, R = decide (ps = qs) := ⟨_, rfl⟩
    rw [← hR]
    have HL := Lib.hid hl
    have HM := Lib.hid hm
    have HR := Lib.hid hR
    have HF := Lib.hid hf
    clear hl hm hR hf
    go_enter Tryz.func91, Tryz.ntmps91
    go_wp2
    go_loopw [17] (fun iv wr => ∃ k : Nat, k ≤ n ∧ iv = .int .i64 k ∧ Hid (ps.take k = qs.take k) ∧ Below w.heap.size w wr) (fun iv _ => n - (intOf iv).toNat)
    case atStart => exact ⟨0, Nat.zero_le _, rfl, rfl, Below.refl _ _⟩
    case round =>
      obtain ⟨k, hk, rfl, HK, hBr⟩ := hrel
      by_cases hlt : k < n
      · obtain ⟨p, hp⟩ : ∃ p, ps[k]? = some p := ⟨_, List.getElem?_eq_getElem (by rw [HL.out]; exact hlt)⟩
        obtain ⟨q, hq⟩ : ∃ q, qs[k]? = some q := ⟨_, List.getElem?_eq_getElem (by rw [HM.out]; exact hlt)⟩
        obtain ⟨ad, ⟨pA, pn, pc, pK, pm, pd⟩, rfl, hb1, e0, e1, r1⟩ := (h1.below hBr (Nat.le_refl _)).at_ hp
        obtain ⟨ad2, ⟨qA, qn, qc, qK, qm, qd⟩, rfl, hb2, g0, g1, r3⟩ := (h2.below hBr (Nat.le_refl _)).at_ hq
        simp only at e0 e1 g0 g1
        have hpf := HF.out p (List.mem_of_getElem? hp)
        have hki : (k : Int) < (n : Int) := by omega
        have hk0 : (0 : Int) ≤ (k : Int) := Int.natCast_nonneg _
        have hww := hBr.size
        have hA1 := below_al (Below.refl wr.heap.size wr) (.cells #[.slice pA pn pc, .slice pK pm pd] 68)
        have hA2 := below_al hA1 (.cells #[.slice qA qn qc, .slice qK qm qd] 68)
        have hxl : (ad2.add (k * 2)).block < wr.heap.size := by rw [block_of_add]; omega
        have g0' := (hA1.cell (p := ad2.add (k * 2)) hxl).trans g0
        have g1' := (hA1.cell (p := ⟨(ad2.add (k * 2)).block, (ad2.add (k * 2)).off + 1, none⟩) hxl).trans g1
        have hK1 := (Blk.new wr 68 #[.slice pA pn pc, .slice pK pm pd]).alloc (.cells #[.slice qA qn qc, .slice qK qm qd] 68)
        have y := blk2 hK1
        have s1 := r1.below (hA2.mono hww) (Nat.le_trans hww hA2.size)
        have s3 := r3.below (hA2.mono hww) (Nat.le_trans hww hA2.size)
        have cs := Sel.same_any pA pK qA qK pn pc pm pd qn qc qm qd p q (by have e3 : p.parts.length = pn := r1.1.len; have := hpf.1; omega) (by have e3 : p.close.length = pm := r1.2.len; have := hpf.2.1; omega) hpf.2.2.1 ((wr.alloc (.cells #[.slice pA pn pc, .slice pK pm pd] 68)).alloc (.cells #[.slice qA qn qc, .slice qK qm qd] 68)) s1.1 s3.1 s1.2 s3.2
        clear s1 s3
        have hB2 := below_next hBr hA2
        by_cases hpq : p = q
        · have HK2 : Hid (ps.take (k + 1) = qs.take (k + 1)) := by show _ = _; rw [List.take_add_one, List.take_add_one, HK.out, hp, hq, hpq]
          rw [decide_eq_true hpq] at cs
          clear hp hq HK r1 r3 hpq
          obtain ⟨y0, y1⟩ := y
          go_wp2_with (first
            | (go_at_call 92; (with_reducible refine cs.mono ?_); rintro e w5 ⟨rfl, hb5⟩))
          go_roundw
          case rel => exact ⟨k + 1, by omega, by go_num, HK2, below_next hB2 hb5⟩
          case measure => simp [intOf]; omega
        · obtain rfl : R = false := by
            rw [HR.out]
            refine decide_eq_false (fun e => hpq ?_)
            rw [e, hq] at hp
            exact (Option.some.inj hp).symm
          rw [decide_eq_false hpq] at cs
          clear hp hq HK r1 r3 hpq
          obtain ⟨y0, y1⟩ := y
          go_wp2_with (first
            | (go_at_call 92; (with_reducible refine cs.mono ?_); rintro e w5 ⟨rfl, hb5⟩))
          go_ret
          exact ⟨rfl, below_next hB2 hb5⟩
      · obtain rfl : k = n := by omega
        obtain rfl : R = true := by
          rw [HR.out]
          have := HK.out
          rw [List.take_of_length_le (by rw [HL.out]; exact Nat.le_refl _), List.take_of_length_le (by rw [HM.out]; exact Nat.le_refl _)] at this
          exact decide_eq_true this
        clear HK
        go_wp2
        go_ret
        exact ⟨rfl, hBr⟩
  · have hne : decide (ps = qs) = false := decide_eq_false (fun e => hnn (by rw [← hl, ← hm, e]))
    rw [hne]
    have hb : ((n : Int) == (n2 : Int)) = false := by rw [beq_eq_false_iff_ne]; omega
    clear hl hm hnn hne h1 h2
    go_enter Tryz.func91, Tryz.ntmps91
    go_wp2
    go_ret
    exact ⟨rfl, Below.refl _ _⟩
set_option maxRecDepth 100000 in
set_option maxHeartbeats 16000000 in
theorem sameRule_any (c c2 : RC) (r q : Rul) (hr : RulB r) (w : World) (h1 : RuR w w.heap.size c r) (h2 : RuR w w.heap.size c2 q) :
    Calls Tryz.prog 47 #[.agg #[.slice c.A c.n c.c, .slice c.K c.m c.d], .agg #[.slice c2.A c2.n c2.c, .slice c2.K c2.m c2.d]] w fun e w' => e = .returned (.bool (decide (r = q))) ∧ Below w.heap.size w w' := by
  have hn := h1.1.len
  have hm := h1.2.1
  have hB := below_al (below_al (Below.refl w.heap.size w) (.cells #[.slice c.A c.n c.c, .slice c.K c.m c.d] 65)) (.cells #[.slice c2.A c2.n c2.c, .slice c2.K c2.m c2.d] 65)
  have K1 := (Blk.new w 65 #[.slice c.A c.n c.c, .slice c.K c.m c.d]).alloc (.cells #[.slice c2.A c2.n c2.c, .slice c2.K c2.m c2.d] 65)
  have K2' := Blk.new (w.alloc (.cells #[.slice c.A c.n c.c, .slice c.K c.m c.d] 65)) 65 #[.slice c2.A c2.n c2.c, .slice c2.K c2.m c2.d]
  rw [size_al] at K2'
  have ce := equalS_any c.A c.n c.c c2.A c2.n c2.c r.sels q.sels (by have := hr.1; omega) hr.2.2 _ (h1.1.below hB hB.size) (h2.1.below hB hB.size)
  have cb := fun W (hb : Below w.heap.size w W) => equalD_any c.K c.m c.d c2.K c2.m c2.d r.decls q.decls (by have := hr.2.1; omega) W (h1.2.below hb hb.size) (h2.2.below hb hb.size)
  have hR : decide (r = q) = (decide (r.sels = q.sels) && decide (r.decls = q.decls)) := by
    obtain ⟨a, b⟩ := r
    obtain ⟨a', b'⟩ := q
    simp only [Rul.mk.injEq]
    by_cases e1 : a = a' <;> by_cases e2 : b = b' <;> simp [e1, e2]
  rw [hR]
  clear hR h1 h2 hn hm hr
  generalize decide (r.sels = q.sels) = x0 at *
  generalize decide (r.decls = q.decls) = x1 at *
  obtain ⟨A, n, b, K, m, d⟩ := c
  obtain ⟨A2, n2, b2, K2, m2, d2⟩ := c2
  simp only at *
  obtain ⟨y0, y1⟩ := blk2 K1
  obtain ⟨y2, y3⟩ := blk2 K2'
  go_enter Tryz.func47, Tryz.ntmps47
  cases x0 with
  | false =>
    go_wp2_with (first
      | (go_at_call 91; (with_reducible refine ce.mono ?_); rintro e w3 ⟨rfl, hb3⟩))
    go_ret
    exact ⟨rfl, below_next hB hb3⟩
  | true =>
    go_wp2_with (first
      | (go_at_call 91; (with_reducible refine ce.mono ?_); rintro e w3 ⟨rfl, hb3⟩
         have hB3 := below_next hB hb3
         have cb3 := cb w3 hB3
         have z1 := (K1.next hb3).cell 1
         have z2 := (K2'.next hb3).cell 1
         simp only [List.getElem?_toArray, List.getElem?_cons_zero, List.getElem?_cons_succ] at z1 z2)
      | (go_at_call 93; (with_reducible refine cb3.mono ?_); rintro e w4 ⟨rfl, hb4⟩))
    go_ret
    exact ⟨by cases x1 <;> rfl, below_next hB3 hb4⟩
set_option maxRecDepth 100000 in
set_option maxHeartbeats 16000000 in
theorem equalR_any (A : Option Addr) (n c : Nat) (A2 : Option Addr) (n2 c2 : Nat) (ps qs : List Rul) (hn : n ≤ 1000000) (hf : ∀ x ∈ ps, RulB x) (w : World) (h1 : RsR w w.heap.size A n ps) (h2 : RsR w w.heap.size A2 n2 qs) :
    Calls Tryz.prog 46 #[.slice A n c, .slice A2 n2 c2, .func (.func 47) #[] #[]] w fun e w' => e = .returned (.bool (decide (ps = qs))) ∧ Below w.heap.size w w' := by
  have hl := h1.len
  have hm := h2.len
  by_cases hnn : n = n2
  · subst hnn
    obtain ⟨R, hR⟩ : ∃ R, R = decide (ps = qs) := ⟨_, rfl⟩
    rw [← hR]
    have HL := Lib.hid hl
    have HM := Lib.hid hm
    have HR := Lib.hid hR
    have HF := Lib.hid hf
    clear hl hm hR hf
    go_enter Tryz.func46, Tryz.ntmps46
    go_wp2
    go_loopw [17] (fun iv wr => ∃ k : Nat, k ≤ n ∧ iv = .int .i64 k ∧ Hid (ps.take k = qs.take k) ∧ Below w.heap.size w wr) (fun iv _ => n - (intOf iv).toNat)
    case atStart => exact ⟨0, Nat.zero_le _, rfl, rfl, Below.refl _ _⟩
    case round =>
      obtain ⟨k, hk, rfl, HK, hBr⟩ := hrel
      by_cases hlt : k < n
      · obtain ⟨p, hp⟩ : ∃ p, ps[k]? = some p := ⟨_, List.getElem?_eq_getElem (by rw [HL.out]; exact hlt)⟩
        obtain ⟨q, hq⟩ : ∃ q, qs[k]? = some q := ⟨_, List.getElem?_eq_getElem (by rw [HM.out]; exact hlt)⟩
        obtain ⟨ad, ⟨pA, pn, pc, pK, pm, pd⟩, rfl, hb1, e0, e1, r1⟩ := (h1.below hBr (Nat.le_refl _)).at_ hp
        obtain ⟨ad2, ⟨qA, qn, qc, qK, qm, qd⟩, rfl, hb2, g0, g1, r3⟩ := (h2.below hBr (Nat.le_refl _)).at_ hq
        simp only at e0 e1 g0 g1
        have hpf := HF.out p (List.mem_of_getElem? hp)
        have hki : (k : Int) < (n : Int) := by omega
        have hk0 : (0 : Int) ≤ (k : Int) := Int.natCast_nonneg _
        have hww := hBr.size
        have hA1 := below_al (Below.refl wr.heap.size wr) (.cells #[.slice pA pn pc, .slice pK pm pd] 65)
        have hA2 := below_al hA1 (.cells #[.slice qA qn qc, .slice qK qm qd] 65)
        have hxl : (ad2.add (k * 2)).block < wr.heap.size := by rw [block_of_add]; omega
        have g0' := (hA1.cell (p := ad2.add (k * 2)) hxl).trans g0
        have g1' := (hA1.cell (p := ⟨(ad2.add (k * 2)).block, (ad2.add (k * 2)).off + 1, none⟩) hxl).trans g1
        have hK1 := (Blk.new wr 65 #[.slice pA pn pc, .slice pK pm pd]).alloc (.cells #[.slice qA qn qc, .slice qK qm qd] 65)
        have y := blk2 hK1
        have s1 := r1.below (hA2.mono hww) (Nat.le_trans hww hA2.size)
        have s3 := r3.below (hA2.mono hww) (Nat.le_trans hww hA2.size)
        have cs := sameRule_any ⟨pA, pn, pc, pK, pm, pd⟩ ⟨qA, qn, qc, qK, qm, qd⟩ p q hpf ((wr.alloc (.cells #[.slice pA pn pc, .slice pK pm pd] 65)).alloc (.cells #[.slice qA qn qc, .slice qK qm qd] 65)) s1 s3
        simp only at cs
        clear s1 s3
        have hB2 := below_next hBr hA2
        by_cases hpq : p = q
        · have HK2 : Hid (ps.take (k + 1) = qs.take (k + 1)) := by show _ = _; rw [List.take_add_one, List.take_add_one, HK.out, hp, hq, hpq]
          rw [decide_eq_true hpq] at cs
          clear hp hq HK r1 r3 hpq
          obtain ⟨y0, y1⟩ := y
          go_wp2_with (first
            | (go_at_call 47; (with_reducible refine cs.mono ?_); rintro e w5 ⟨rfl, hb5⟩))
          go_roundw
          case rel => exact ⟨k + 1, by omega, by go_num, HK2, below_next hB2 hb5⟩
          case measure => simp [intOf]; omega
        · obtain rfl : R = false := by
            rw [HR.out]
            refine decide_eq_false (fun e => hpq ?_)
            rw [e, hq] at hp
            exact (Option.some.inj hp).symm
          rw [decide_eq_false hpq] at cs
          clear hp hq HK r1 r3 hpq
          obtain ⟨y0, y1⟩ := y
          go_wp2_with (first
            | (go_at_call 47; (with_reducible refine cs.mono ?_); rintro e w5 ⟨rfl, hb5⟩))
          go_ret
          exact ⟨rfl, below_next hB2 hb5⟩
      · obtain rfl : k = n := by omega
        obtain rfl : R = true := by
          rw [HR.out]
          have := HK.out
          rw [List.take_of_length_le (by rw [HL.out]; exact Nat.le_refl _), List.take_of_length_le (by rw [HM.out]; exact Nat.le_refl _)] at this
          exact decide_eq_true this
        clear HK
        go_wp2
        go_ret
        exact ⟨rfl, hBr⟩
  · have hne : decide (ps = qs) = false := decide_eq_false (fun e => hnn (by rw [← hl, ← hm, e]))
    rw [hne]
    have hb : ((n : Int) == (n2 : Int)) = false := by rw [beq_eq_false_iff_ne]; omega
    clear hl hm hnn hne h1 h2
    go_enter Tryz.func46, Tryz.ntmps46
    go_wp2
    go_ret
    exact ⟨rfl, Below.refl _ _⟩
set_option maxRecDepth 100000 in
set_option maxHeartbeats 16000000 in
/-- sheet.Same. -/
theorem same_any (A A2 : Option Addr) (n c n2 c2 : Nat) (rs qs : List Rul) (hn : n ≤ 1000000) (hr : ∀ r ∈ rs, RulB r) (w : World) (h1 : RsR w w.heap.size A n rs) (h2 : RsR w w.heap.size A2 n2 qs) :
    Calls Tryz.prog 22 #[.slice A n c, .slice A2 n2 c2] w fun e w' => e = .returned (.bool (decide (rs = qs))) ∧ Below w.heap.size w w' := by
  have cc := equalR_any A n c A2 n2 c2 rs qs hn hr w h1 h2
  clear h1 h2 hr
  generalize decide (rs = qs) = R at *
  go_enter Tryz.func22, Tryz.ntmps22
  go_wp2_with (go_at_call 46; (with_reducible refine cc.mono ?_); rintro e w1 ⟨rfl, hb⟩)
  go_ret
  exact ⟨rfl, hb⟩
end Sht
end Go.Proofs.YtdfcahdipalmkaaGreatDoor
/- Law 10's awake. Conditions: the tables are laid. -/
namespace Go.Proofs.YtdfcahdipalmkaaGreatDoor
open Go.ChangeShapes Go.WideShapes Go.ChangeAt Go.RowKit Go.Shelf
namespace Sht
open Sel
open RowG (Row)
def exL : List Rul := [⟨[⟨[⟨[97], [], [], false, false⟩], []⟩], [⟨16, 4, 16711680, false⟩, ⟨24, 6, 64, true⟩]⟩]
def exD : List Dcl := [⟨4, 2, 64, false⟩, ⟨5, 2, 128, false⟩, ⟨6, 2, 192, false⟩, ⟨7, 2, 128, false⟩]
theorem ex_read : readS [97, 123, 99, 111, 108, 111, 114, 58, 82, 69, 68, 59, 120, 58, 121, 59, 111, 114, 100, 101, 114, 58, 49, 33, 105, 109, 112, 111, 114, 116, 97, 110, 116, 125, 47, 42, 122, 42, 47, 98, 44, 123, 125] = some exL := by decide +kernel
theorem ex_decls : declsF [109, 97, 114, 103, 105, 110, 58, 32, 49, 112, 120, 32, 50, 112, 120, 32, 51, 112, 120, 59, 32, 112, 97, 100, 100, 105, 110, 103, 58, 32, 49, 112, 120, 32, 120] = exD := by decide +kernel
theorem ex_print : printS exL = [97, 32, 123, 32, 99, 111, 108, 111, 114, 58, 32, 35, 102, 102, 48, 48, 48, 48, 59, 32, 111, 114, 100, 101, 114, 58, 32, 49, 32, 33, 105, 109, 112, 111, 114, 116, 97, 110, 116, 59, 32, 125, 10] := by decide +kernel
theorem ex_may : mayS exL = true := by decide +kernel
theorem ex_bound : ∀ r ∈ exL, RulB r := by
  intro r hr
  have h : mayR r = true := List.all_eq_true.1 (show exL.all mayR = true by decide +kernel) r hr
  unfold mayR at h
  simp only [Bool.and_eq_true, decide_eq_true_eq] at h
  obtain ⟨⟨⟨⟨m1, m2⟩, m3⟩, m4⟩, -⟩ := h
  exact ⟨by omega, by omega, fun x hx => sel_bound (List.all_eq_true.1 m4 x hx)⟩
set_option maxRecDepth 100000 in
set_option maxHeartbeats 32000000 in
theorem awake10_any (w : World) (hT : Val.Tabs w) : Calls Tryz.prog 8 #[] w fun e w' => e = .returned (.bool true) ∧ Below w.heap.size w w' := by
  have cr := read_any [97, 123, 99, 111, 108, 111, 114, 58, 82, 69, 68, 59, 120, 58, 121, 59, 111, 114, 100, 101, 114, 58, 49, 33, 105, 109, 112, 111, 114, 116, 97, 110, 116, 125, 47, 42, 122, 42, 47, 98, 44, 123, 125] w hT
  rw [ex_read] at cr
  change Calls Tryz.prog 11 #[.string ⟨#[97, 123, 99, 111, 108, 111, 114, 58, 82, 69, 68, 59, 120, 58, 121, 59, 111, 114, 100, 101, 114, 58, 49, 33, 105, 109, 112, 111, 114, 116, 97, 110, 116, 125, 47, 42, 122, 42, 47, 98, 44, 123, 125]⟩] w (fun e w' => (∃ v, e = .returned (.tuple #[v, .int .i64 0]) ∧ RuL w' w.heap.size v exL) ∧ Below w.heap.size w w') at cr
  have cd := fun w hT => decls_any [109, 97, 114, 103, 105, 110, 58, 32, 49, 112, 120, 32, 50, 112, 120, 32, 51, 112, 120, 59, 32, 112, 97, 100, 100, 105, 110, 103, 58, 32, 49, 112, 120, 32, 120] (by decide) w hT
  rw [ex_decls] at cd
  change ∀ w, Val.Tabs w → Calls Tryz.prog 16 #[.string ⟨#[109, 97, 114, 103, 105, 110, 58, 32, 49, 112, 120, 32, 50, 112, 120, 32, 51, 112, 120, 59, 32, 112, 97, 100, 100, 105, 110, 103, 58, 32, 49, 112, 120, 32, 120]⟩] w (fun e w' => (∃ v, e = .returned v ∧ DcL w' w.heap.size v exD) ∧ Below w.heap.size w w') at cd
  have cp := fun A c w hT (h : RsR w w.heap.size A 1 exL) => print_any A 1 c exL (by decide) ex_bound w hT h
  rw [ex_print] at cp
  change ∀ A c w, Val.Tabs w → RsR w w.heap.size A 1 exL → Calls Tryz.prog 20 #[.slice A 1 c] w (fun e w' => e = .returned (.string ⟨#[97, 32, 123, 32, 99, 111, 108, 111, 114, 58, 32, 35, 102, 102, 48, 48, 48, 48, 59, 32, 111, 114, 100, 101, 114, 58, 32, 49, 32, 33, 105, 109, 112, 111, 114, 116, 97, 110, 116, 59, 32, 125, 10]⟩) ∧ Below w.heap.size w w') at cp
  have cm := fun A c w (h : RsR w w.heap.size A 1 exL) => may_any A 1 c exL (by decide) ex_bound w h
  rw [ex_may] at cm
  have cs := fun A c w (h : RsR w w.heap.size A 1 exL) => same_any A A 1 c 1 c exL exL (by decide) ex_bound w h h
  rw [decide_eq_true rfl] at cs
  have cs2 := fun A c w (h : RsR w w.heap.size A 1 exL) => same_any A none 1 c 0 0 exL [] (by decide) ex_bound w h ⟨[], Reads.none_, rfl, fun i c r h => by simp at h⟩
  rw [decide_eq_false (by decide)] at cs2
  go_enter Tryz.func8, Tryz.ntmps8
  go_wp2_with (first
    | (go_at_call 11; (with_reducible refine cr.mono ?_); rintro e w1 ⟨⟨vl, rfl, hL⟩, hb1⟩
       obtain ⟨AL, cL, rfl⟩ : ∃ A c, vl = .slice A 1 c := hL.form
       have hR1 := hL.reads)
    | (go_at_call 16; (with_reducible refine (cd _ (hT.at_ hb1)).mono ?_); rintro e w2 ⟨⟨vd, rfl, hD⟩, hb2⟩
       obtain ⟨AD, cD, rfl⟩ : ∃ A c, vd = .slice A 4 c := RowG.Row.form hD
       have hR2 := hR1.below hb2 hb2.size
       have hB2 := below_next hb1 hb2
       obtain ⟨ad, rfl, zd, p2, -, n2, -⟩ := (DcL.reads hD).at_ (k := 2) (d := ⟨6, 2, 192, false⟩) rfl
       obtain ⟨ad', e', -, -, -, n3, -⟩ := (DcL.reads hD).at_ (k := 3) (d := ⟨7, 2, 128, false⟩) rfl
       obtain rfl := Option.some.inj e'
       clear e')
    | (go_at_call 20; (with_reducible refine (cp _ _ _ (hT.at_ hB2) hR2).mono ?_); rintro e w3 ⟨rfl, hb3⟩
       have hR3 := hR2.below hb3 hb3.size
       have hB3 := below_next hB2 hb3)
    | (go_at_call 18; (with_reducible refine (cm _ _ _ hR3).mono ?_); rintro e w4 ⟨rfl, hb4⟩
       have hR4 := hR3.below hb4 hb4.size
       have hB4 := below_next hB3 hb4)
    | (go_at_call 22; (with_reducible refine (cs _ _ _ hR4).mono ?_); rintro e w5 ⟨rfl, hb5⟩
       have hR5 := hR4.below hb5 hb5.size
       have hB5 := below_next hB4 hb5)
    | (go_at_call 22; (with_reducible refine (cs2 _ _ _ hR5).mono ?_); rintro e w6 ⟨rfl, hb6⟩
       have hB6 := below_next hB5 hb6
       have hq : Below w2.heap.size w2 w6 := below_next (below_next (below_next hb3 hb4) hb5) hb6
       have x2 := (hq.cell (p := ⟨ad.block, ad.off + 8, none⟩) zd).trans p2
       have y2 := (hq.cell (p := ⟨ad.block, ad.off + 8 + 2, none⟩) zd).trans n2
       have y3 := (hq.cell (p := ⟨ad.block, ad.off + 12 + 2, none⟩) zd).trans n3))
  go_ret
  exact ⟨rfl, hB6⟩
end Sht
end Go.Proofs.YtdfcahdipalmkaaGreatDoor
namespace Go.Proofs.YtdfcahdipalmkaaGreatDoor
open Go.ChangeShapes Go.WideShapes Go.ChangeAt Go.RowKit Go.Shelf
namespace Sht
open Sel
open RowG (Row)
theorem info_rdcl : (Tryz.prog.info? 85).map (fun i => (i.zero, i.size, i.bytes)) = some (some (.agg #[.int .i64 0, .int .i64 0, .int .i64 0, .bool false]), 4, 32) := by kernel_rfl
/-- Declarations of the document's, that the call itself has laid. -/
def DeL (w : World) (base : Nat) (v : Value) (ds : List Dcl) : Prop := Row w base 85 4 dcC v ds
theorem DeL.reads {w : World} {base n c : Nat} {A : Option Addr} {ds : List Dcl} (h : DeL w base (.slice A n c) ds) : DcR w w.heap.size A n ds := by
  obtain ⟨h1, h2⟩ := RowG.Row.reads h
  rw [← h2] at h1
  exact ⟨h2.symm, h1⟩
theorem row_none {α : Type} (w : World) {base k : Nat} {e : TypeId} {enc : α → List Value} (hb : base ≤ w.heap.size) : Row (w.alloc (.cells #[] e)) base e k enc (.slice (some ⟨w.heap.size, 0, none⟩) 0 0) ([] : List α) :=
  ⟨by simp, Or.inr ⟨w.heap.size, 0, #[], rfl, hb, Blk.new w e #[], Nat.le_refl _, Nat.zero_le _, by simp, by simp⟩⟩
set_option maxRecDepth 100000 in
set_option maxHeartbeats 16000000 in
theorem own_decls (A : Option Addr) (n c : Nat) (ds : List Dcl) (hn : n ≤ 4398046510976) (w : World) (h : DcR w w.heap.size A n ds) :
    Calls Tryz.prog 15 #[.slice A n c] w fun e w' => (∃ v, e = .returned v ∧ DeL w' w.heap.size v ds) ∧ Below w.heap.size w w' := by
  have HL := Lib.hid h.1
  have hB := below_al (Below.refl w.heap.size w) (.cells #[] 85)
  have hR0 : Row (w.alloc (.cells #[] 85)) w.heap.size 85 4 dcC (.slice (some ⟨w.heap.size, 0, none⟩) 0 0) ([] : List Dcl) := row_none w (Nat.le_refl _)
  go_enter Tryz.func15, Tryz.ntmps15
  go_wp2
  go_loopw [3, 9] (fun vp iv wr => ∃ (k : Nat) (es : List Dcl), k ≤ n ∧ iv = .int .i64 k ∧ Hid (es = ds.take k) ∧ Hid (es.length = k) ∧ Row wr w.heap.size 85 4 dcC vp es ∧ Below w.heap.size w wr) (fun _ iv _ => n - (intOf iv).toNat)
  case atStart => exact ⟨0, [], Nat.zero_le _, rfl, rfl, rfl, hR0, hB⟩
  case round =>
    obtain ⟨k, es, hk, rfl, HA, HE, hP, hBr⟩ := hrel
    clear hR0 hB
    obtain ⟨Ap, cp, hvp⟩ := RowG.Row.form hP
    rw [HE.out] at hvp
    subst hvp
    by_cases hlt : k < n
    · obtain ⟨d, hd⟩ : ∃ d, ds[k]? = some d := ⟨_, List.getElem?_eq_getElem (by rw [HL.out]; exact hlt)⟩
      obtain ⟨ad, rfl, zd, e0, e1, e2, e3⟩ := (h.below hBr (Nat.le_refl _)).at_ hd
      have hki : (k : Int) < (n : Int) := by omega
      have hk0 : (0 : Int) ≤ (k : Int) := Int.natCast_nonneg _
      have HN : Hid (es ++ [d] = ds.take (k + 1)) := by show _ = _; rw [List.take_add_one, hd, ← HA.out]; rfl
      clear HA hd
      obtain ⟨p, q, m, s⟩ := d
      simp only at e0 e1 e2 e3
      have K := Blk.new wr 54 #[.int .i64 p, .int .i64 q, .int .i64 m, .bool s]
      obtain ⟨y0, y1, y2, y3⟩ := blk4 K
      have hA := below_al (below_al (Below.refl wr.heap.size wr) (.cells #[.int .i64 p, .int .i64 q, .int .i64 m, .bool s] 54)) (.cells #[.int .i64 p, .int .i64 q, .int .i64 m, .bool s] 85)
      have hY := RowG.Row.below hP hA
      have hB6 := below_next hBr hA
      have hncl : ∀ (j : Nat) (u : Value), (dcC ⟨p, q, m, s⟩)[j]? = some u → ((wr.alloc (.cells #[.int .i64 p, .int .i64 q, .int .i64 m, .bool s] 54)).alloc (.cells #[.int .i64 p, .int .i64 q, .int .i64 m, .bool s] 85)).cell? ⟨(wr.alloc (.cells #[.int .i64 p, .int .i64 q, .int .i64 m, .bool s] 54)).heap.size, j, none⟩ = some u := RowG.new_cells (wr.alloc (.cells #[.int .i64 p, .int .i64 q, .int .i64 m, .bool s] 54)) 85 (dcC ⟨p, q, m, s⟩)
      rw [size_al] at hncl
      go_wp2_with (first
        | (refine RowG.wpList_more _ (by rfl) _ _ 34 (by rfl) 85 dcC 4 32 _ info_rdcl Tryz.underlying34 rfl (by decide) dcC_len dcC_one w.heap.size _ es ⟨p, q, m, s⟩ (by rfl) (wr.heap.size + 1) _ (by rfl) hY hncl (by rw [HE.out]; simp only [maxLen]; omega) (by rw [HE.out]; omega) hB6.size ?_
           intro v7 w7 hrow7 hg7 ho7
           have hB8 : Below w.heap.size w w7 := hB6.grown hg7 hB6.size (fun j hj => (World.ownsRow.lt hY j hj).1)))
      go_roundw
      case rel => exact ⟨k + 1, es ++ [Dcl.mk p q m s], by omega, by go_num, HN, by show _ = _; rw [List.length_append, HE.out]; rfl, hrow7, hB8⟩
      case measure => simp [intOf]; omega
    · obtain rfl : k = n := by omega
      obtain rfl : es = ds := by rw [HA.out, List.take_of_length_le (by rw [HL.out]; exact Nat.le_refl _)]
      go_wp2
      exact bodyPost_ret (v := .slice Ap k cp) (by simp [results, Tryz.results15, go_sem]) rfl ⟨⟨_, rfl, hP⟩, hBr⟩
theorem neq_rdcl (w : World) (a b : Dcl) : (binOp .neq 85 (.agg #[.int .i64 a.p, .int .i64 a.k, .int .i64 a.n, .bool a.s]) (.agg #[.int .i64 b.p, .int .i64 b.k, .int .i64 b.n, .bool b.s])).run Tryz.prog w = .ok (.bool (!decide (a = b))) w := by
  have e : decide (a = b) = ((a.p == b.p) && ((a.k == b.k) && ((a.n == b.n) && (a.s == b.s)))) := by
    obtain ⟨p, k, n, s⟩ := a
    obtain ⟨p', k', n', s'⟩ := b
    simp only [Dcl.mk.injEq, Bool.decide_and]
    rfl
  rw [e]
  cases h1 : (a.p == b.p) <;> cases h2 : (a.k == b.k) <;> cases h3 : (a.n == b.n) <;> cases h4 : (a.s == b.s) <;> go_simp
set_option maxRecDepth 100000 in
set_option maxHeartbeats 16000000 in
theorem sameDecls_any (A : Option Addr) (n c : Nat) (A2 : Option Addr) (n2 c2 : Nat) (l m : List Dcl) (hn : n ≤ 4000000000000) (w : World) (h1 : DcR w w.heap.size A n l) (h2 : DcR w w.heap.size A2 n2 m) :
    Calls Tryz.prog 14 #[.slice A n c, .slice A2 n2 c2] w fun e w' => e = .returned (.bool (decide (l = m))) ∧ Below w.heap.size w w' := by
  have hl := h1.1
  have hm := h2.1
  by_cases hnn : n = n2
  · subst hnn
    obtain ⟨R, hR⟩ : ∃ R, R = decide (l = m) := ⟨_, rfl⟩
    rw [← hR]
    have HL := Lib.hid hl
    have HM := Lib.hid hm
    have HR := Lib.hid hR
    clear hl hm hR
    go_enter Tryz.func14, Tryz.ntmps14
    go_wp2
    go_loopw [5] (fun iv wr => ∃ k : Nat, k ≤ n ∧ iv = .int .i64 k ∧ Hid (l.take k = m.take k) ∧ Below w.heap.size w wr) (fun iv _ => n - (intOf iv).toNat)
    case atStart => exact ⟨0, Nat.zero_le _, rfl, rfl, Below.refl _ _⟩
    case round =>
      obtain ⟨k, hk, rfl, HK, hBr⟩ := hrel
      by_cases hlt : k < n
      · obtain ⟨x, hx⟩ : ∃ x, l[k]? = some x := ⟨_, List.getElem?_eq_getElem (by rw [HL.out]; exact hlt)⟩
        obtain ⟨y, hy⟩ : ∃ y, m[k]? = some y := ⟨_, List.getElem?_eq_getElem (by rw [HM.out]; exact hlt)⟩
        obtain ⟨a1, rfl, -, k10, k11, k12, k13⟩ := (h1.below hBr (Nat.le_refl _)).at_ hx
        obtain ⟨a2, rfl, -, k20, k21, k22, k23⟩ := (h2.below hBr (Nat.le_refl _)).at_ hy
        have hki : (k : Int) < (n : Int) := by omega
        have hk0 : (0 : Int) ≤ (k : Int) := Int.natCast_nonneg _
        by_cases hxy : x = y
        · have hq := fun w => neq_rdcl w x y
          rw [decide_eq_true hxy] at hq
          simp only [Bool.not_true] at hq
          have HK2 : Hid (l.take (k + 1) = m.take (k + 1)) := by show _ = _; rw [List.take_add_one, List.take_add_one, HK.out, hx, hy, hxy]
          clear hx hy h1 h2 HK hxy
          go_upto_region 6 with (fail)
          go_quiet (fail)
          go_wp2
          go_roundw
          case rel => exact ⟨k + 1, by omega, by go_num, HK2, below_dr hBr nq⟩
          case measure => simp [intOf]; omega
        · have hq := fun w => neq_rdcl w x y
          rw [decide_eq_false hxy] at hq
          simp only [Bool.not_false] at hq
          obtain rfl : R = false := by
            rw [HR.out]
            refine decide_eq_false (fun e => hxy ?_)
            rw [e, hy] at hx
            exact (Option.some.inj hx).symm
          clear hx hy h1 h2 HK hxy
          go_upto_region 6 with (fail)
          go_quiet (fail)
          go_wp2
          go_ret
          exact ⟨rfl, below_dr hBr nq⟩
      · obtain rfl : k = n := by omega
        obtain rfl : R = true := by
          rw [HR.out]
          have := HK.out
          rw [List.take_of_length_le (by rw [HL.out]; exact Nat.le_refl _), List.take_of_length_le (by rw [HM.out]; exact Nat.le_refl _)] at this
          exact decide_eq_true this
        clear HK
        go_wp2
        go_ret
        exact ⟨rfl, hBr⟩
  · have hne : decide (l = m) = false := decide_eq_false (fun e => hnn (by rw [← hl, ← hm, e]))
    rw [hne]
    have hb : ((n : Int) == (n2 : Int)) = false := by rw [beq_eq_false_iff_ne]; omega
    clear hl hm hnn hne h1 h2
    go_enter Tryz.func14, Tryz.ntmps14
    go_wp2
    go_ret
    exact ⟨rfl, Below.refl _ _⟩
end Sht
end Go.Proofs.YtdfcahdipalmkaaGreatDoor
