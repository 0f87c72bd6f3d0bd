/- sheet's May and Print, of whatever came in. Conditions: lists and texts are no longer than what can be reached; the tables are laid. -/
import Derived.Test.YtdfcahdipalmkaaGreatDoorShtP
import Derived.Test.YtdfcahdipalmkaaGreatDoorSelW
namespace Go.Proofs.YtdfcahdipalmkaaGreatDoor
open Go.ChangeShapes Go.WideShapes Go.ChangeAt Go.RowKit Go.Shelf
namespace Sht
open Sel
open RowG (Row)
/-- A selector of no more than calls bear. -/
def SelV (x : Slr) : Prop := x.parts.length ≤ 140737488351232 ∧ x.close.length ≤ 9223372036854775807 ∧ FewW x.parts ∧ ShXW x.parts
def RulV (r : Rul) : Prop := r.sels.length ≤ 140737488351232 ∧ r.decls.length ≤ 140737488351232 ∧ ∀ x ∈ r.sels, SelV x
set_option maxRecDepth 100000 in
set_option maxHeartbeats 8000000 in
theorem notSelW_any (x : Slr) (c : XC) (hx : SelV x) (w : World) (h : SlR w w.heap.size c x) :
    Calls Tryz.prog 75 #[.agg #[.slice c.A c.n c.c, .slice c.K c.m c.d]] w fun e w' => e = .returned (.bool (!maySlr x)) ∧ Below w.heap.size w w' := by
  have hn : c.n ≤ 140737488351232 := by have := h.1.len; have := hx.1; omega
  have hm : c.m ≤ 9223372036854775807 := by have := h.2.len; have := hx.2.1; omega
  have hB := below_al (Below.refl w.heap.size w) (.cells #[.slice c.A c.n c.c, .slice c.K c.m c.d] 68)
  have K := Blk.new w 68 #[.slice c.A c.n c.c, .slice c.K c.m c.d]
  have cm := Sel.mayW_any c.A c.K c.n c.c c.m c.d x hn hm hx.2.2.1 hx.2.2.2 _ (h.1.below hB hB.size) (h.2.below hB hB.size)
  clear h hx
  generalize maySlr x = R at *
  obtain ⟨A, n, b, K2, m, d⟩ := c
  simp only at cm hn hm hB K ⊢
  obtain ⟨x0, x1⟩ := blk2 K
  go_enter Tryz.func75, Tryz.ntmps75
  go_wp2_with (go_at_call 76; (with_reducible refine cm.mono ?_); rintro e w1 ⟨rfl, hb⟩)
  go_ret
  exact ⟨rfl, below_next hB hb⟩
set_option maxRecDepth 100000 in
set_option maxHeartbeats 8000000 in
theorem notDclW_any (d : Dcl) (w : World) :
    Calls Tryz.prog 78 #[.agg #[.int .i64 d.p, .int .i64 d.k, .int .i64 d.n, .bool d.s]] w fun e w' => e = .returned (.bool (!mayD d)) ∧ Below w.heap.size w w' := by
  obtain ⟨p, k, n, s⟩ := d
  simp only [mayD]
  have hB := below_al (Below.refl w.heap.size w) (.cells #[.int .i64 p, .int .i64 k, .int .i64 n, .bool s] 54)
  have K := Blk.new w 54 #[.int .i64 p, .int .i64 k, .int .i64 n, .bool s]
  have cm := Val.may_w p k n (w.alloc (.cells #[.int .i64 p, .int .i64 k, .int .i64 n, .bool s] 54))
  unfold vV at cm
  obtain ⟨x0, x1, x2, x3⟩ := blk4 K
  generalize mayP p k n = R at *
  go_enter Tryz.func78, Tryz.ntmps78
  go_wp2_with (go_at_call 79; (with_reducible refine cm.mono ?_); rintro e w1 ⟨rfl, hb⟩)
  go_ret
  exact ⟨rfl, below_next hB hb⟩
set_option maxHeartbeats 8000000 in
set_option maxRecDepth 100000 in
theorem indexSW_any (A : Option Addr) (n c : Nat) (ps : List Slr) (w : World) (h : XsR w w.heap.size A n ps) (hn : n ≤ 140737488351232) (hl : ∀ x ∈ ps, SelV x) :
    Calls Tryz.prog 112 #[.slice A n c, .func (.func 75) #[] #[]] w fun e w' => (∃ r : Int, e = .returned (.int .i64 r) ∧ decide (0 ≤ r) = !ps.all maySlr) ∧ Below w.heap.size w w' := by
  have hlen := h.len
  obtain ⟨R, hR⟩ : ∃ R, R = !ps.all maySlr := ⟨_, rfl⟩
  rw [← hR]
  have HR := Lib.hid hR
  have HS := Lib.hid hl
  clear hR hl
  go_enter Tryz.func112, Tryz.ntmps112
  go_wp2
  go_loopw [8] (fun i wr => ∃ k : Nat, k ≤ n ∧ i = .int .i64 k ∧ Hid (∀ (j : Nat) (x : Slr), j < k → ps[j]? = some x → maySlr x = true) ∧ Below w.heap.size w wr) (fun i _ => n - (intOf i).toNat)
  case atStart => exact ⟨0, Nat.zero_le _, rfl, fun j x h => absurd h (by omega), Below.refl _ _⟩
  case round =>
    obtain ⟨k, hk, rfl, HK, hBr⟩ := hrel
    by_cases hlt : k < n
    · have hkl : k < ps.length := by omega
      obtain ⟨p, hp⟩ : ∃ p, ps[k]? = some p := ⟨ps[k], List.getElem?_eq_getElem hkl⟩
      obtain ⟨ad, q, rfl, hb1, e0, e1, r1⟩ := (h.below hBr (Nat.le_refl _)).at_ hp
      have c1 := notSelW_any p q (HS.out p (List.mem_of_getElem? hp)) wr (r1.below (Below.refl _ wr) hBr.size)
      have hki : (k : Int) < (n : Int) := by omega
      have k0 : (0 : Int) ≤ (k : Int) := Int.natCast_nonneg _
      cases hm : maySlr p with
      | false =>
        obtain rfl : R = true := by
          rw [HR.out]
          have : ps.all maySlr = false := by rw [List.all_eq_false]; exact ⟨p, List.mem_of_getElem? hp, by rw [hm]; decide⟩
          rw [this]; rfl
        rw [hm] at c1
        clear hp hm HK
        go_wp2_with (go_at_call 75; (with_reducible refine c1.mono ?_); rintro e w1 ⟨rfl, hb⟩; have hB1 := below_next hBr hb)
        go_ret
        exact ⟨⟨_, rfl, decide_eq_true k0⟩, hB1⟩
      | true =>
        have HK' : Hid (∀ (j : Nat) (x : Slr), j < k + 1 → ps[j]? = some x → maySlr x = true) := by
          intro j x hj hx
          by_cases e : j = k
          · subst e
            rw [hp] at hx
            injection hx with hx
            subst hx
            exact hm
          · exact HK.out j x (by omega) hx
        rw [hm] at c1
        clear hp hm HK
        go_wp2_with (go_at_call 75; (with_reducible refine c1.mono ?_); rintro e w1 ⟨rfl, hb⟩; have hB1 := below_next hBr hb)
        go_roundw
        case rel => exact ⟨k + 1, by omega, by go_num, HK', hB1⟩
        case measure => simp [intOf]; omega
    · obtain rfl : k = n := by omega
      obtain rfl : R = false := by
        rw [HR.out]
        have : ps.all maySlr = true := by
          rw [List.all_eq_true]
          intro x hx
          obtain ⟨j, hj, e⟩ := List.getElem_of_mem hx
          exact HK.out j x (by omega) (by rw [List.getElem?_eq_getElem hj, e])
        rw [this]; rfl
      go_wp2
      go_ret
      exact ⟨⟨-1, rfl, rfl⟩, hBr⟩
set_option maxHeartbeats 4000000 in
set_option maxRecDepth 100000 in
theorem containsSW_any (A : Option Addr) (n c : Nat) (ps : List Slr) (w : World) (h : XsR w w.heap.size A n ps) (hn : n ≤ 140737488351232) (hl : ∀ x ∈ ps, SelV x) :
    Calls Tryz.prog 74 #[.slice A n c, .func (.func 75) #[] #[]] w fun e w' => e = .returned (.bool (!ps.all maySlr)) ∧ Below w.heap.size w w' := by
  have c1 := indexSW_any A n c ps w h hn hl
  generalize (!ps.all maySlr) = R at *
  clear h hl
  go_enter Tryz.func74, Tryz.ntmps74
  go_wp2_with (go_at_call 112; (with_reducible refine c1.mono ?_); rintro e w1 ⟨⟨r, rfl, hR⟩, hb⟩)
  go_ret
  exact ⟨rfl, hb⟩
set_option maxHeartbeats 8000000 in
set_option maxRecDepth 100000 in
theorem indexDW_any (A : Option Addr) (n c : Nat) (ps : List Dcl) (w : World) (h : DcR w w.heap.size A n ps) (hn : n ≤ 140737488351232) (hl : ∀ x ∈ ps, True) :
    Calls Tryz.prog 116 #[.slice A n c, .func (.func 78) #[] #[]] w fun e w' => (∃ r : Int, e = .returned (.int .i64 r) ∧ decide (0 ≤ r) = !ps.all mayD) ∧ Below w.heap.size w w' := by
  have hlen := h.1
  obtain ⟨R, hR⟩ : ∃ R, R = !ps.all mayD := ⟨_, rfl⟩
  rw [← hR]
  have HR := Lib.hid hR
  have HS := Lib.hid hl
  clear hR hl
  go_enter Tryz.func116, Tryz.ntmps116
  go_wp2
  go_loopw [8] (fun i wr => ∃ k : Nat, k ≤ n ∧ i = .int .i64 k ∧ Hid (∀ (j : Nat) (x : Dcl), j < k → ps[j]? = some x → mayD x = true) ∧ Below w.heap.size w wr) (fun i _ => n - (intOf i).toNat)
  case atStart => exact ⟨0, Nat.zero_le _, rfl, fun j x h => absurd h (by omega), Below.refl _ _⟩
  case round =>
    obtain ⟨k, hk, rfl, HK, hBr⟩ := hrel
    by_cases hlt : k < n
    · have hkl : k < ps.length := by omega
      obtain ⟨p, hp⟩ : ∃ p, ps[k]? = some p := ⟨ps[k], List.getElem?_eq_getElem hkl⟩
      obtain ⟨ad, rfl, hb1, e0, e1, e2, e3⟩ := (h.below hBr (Nat.le_refl _)).at_ hp
      have c1 := notDclW_any p wr
      have hki : (k : Int) < (n : Int) := by omega
      have k0 : (0 : Int) ≤ (k : Int) := Int.natCast_nonneg _
      cases hm : mayD p with
      | false =>
        obtain rfl : R = true := by
          rw [HR.out]
          have : ps.all mayD = false := by rw [List.all_eq_false]; exact ⟨p, List.mem_of_getElem? hp, by rw [hm]; decide⟩
          rw [this]; rfl
        rw [hm] at c1
        clear hp hm HK
        go_wp2_with (go_at_call 78; (with_reducible refine c1.mono ?_); rintro e w1 ⟨rfl, hb⟩; have hB1 := below_next hBr hb)
        go_ret
        exact ⟨⟨_, rfl, decide_eq_true k0⟩, hB1⟩
      | true =>
        have HK' : Hid (∀ (j : Nat) (x : Dcl), j < k + 1 → ps[j]? = some x → mayD x = true) := by
          intro j x hj hx
          by_cases e : j = k
          · subst e
            rw [hp] at hx
            injection hx with hx
            subst hx
            exact hm
          · exact HK.out j x (by omega) hx
        rw [hm] at c1
        clear hp hm HK
        go_wp2_with (go_at_call 78; (with_reducible refine c1.mono ?_); rintro e w1 ⟨rfl, hb⟩; have hB1 := below_next hBr hb)
        go_roundw
        case rel => exact ⟨k + 1, by omega, by go_num, HK', hB1⟩
        case measure => simp [intOf]; omega
    · obtain rfl : k = n := by omega
      obtain rfl : R = false := by
        rw [HR.out]
        have : ps.all mayD = true := by
          rw [List.all_eq_true]
          intro x hx
          obtain ⟨j, hj, e⟩ := List.getElem_of_mem hx
          exact HK.out j x (by omega) (by rw [List.getElem?_eq_getElem hj, e])
        rw [this]; rfl
      go_wp2
      go_ret
      exact ⟨⟨-1, rfl, rfl⟩, hBr⟩
set_option maxHeartbeats 4000000 in
set_option maxRecDepth 100000 in
theorem containsDW_any (A : Option Addr) (n c : Nat) (ps : List Dcl) (w : World) (h : DcR w w.heap.size A n ps) (hn : n ≤ 140737488351232) (hl : ∀ x ∈ ps, True) :
    Calls Tryz.prog 77 #[.slice A n c, .func (.func 78) #[] #[]] w fun e w' => e = .returned (.bool (!ps.all mayD)) ∧ Below w.heap.size w w' := by
  have c1 := indexDW_any A n c ps w h hn hl
  generalize (!ps.all mayD) = R at *
  clear h hl
  go_enter Tryz.func77, Tryz.ntmps77
  go_wp2_with (go_at_call 116; (with_reducible refine c1.mono ?_); rintro e w1 ⟨⟨r, rfl, hR⟩, hb⟩)
  go_ret
  exact ⟨rfl, hb⟩
set_option maxRecDepth 100000 in
set_option maxHeartbeats 8000000 in
theorem mayRuleW_any (c : RC) (r : Rul) (hr : RulV r) (w : World) (h : RuR w w.heap.size c r) :
    Calls Tryz.prog 37 #[.agg #[.slice c.A c.n c.c, .slice c.K c.m c.d]] w fun e w' => e = .returned (.bool (mayR r)) ∧ Below w.heap.size w w' := by
  have hn := h.1.len
  have hm := h.2.1
  have hB := below_al (Below.refl w.heap.size w) (.cells #[.slice c.A c.n c.c, .slice c.K c.m c.d] 65)
  have K := Blk.new w 65 #[.slice c.A c.n c.c, .slice c.K c.m c.d]
  have c1 := containsSW_any c.A c.n c.c r.sels _ (h.1.below hB hB.size) (by have := hr.1; omega) hr.2.2
  have c2 := fun W (hb : Below w.heap.size w W) => containsDW_any c.K c.m c.d r.decls W (h.2.below hb hb.size) (by have := hr.2.1; omega) (fun _ _ => trivial)
  have hR : mayR r = (decide (1 ≤ c.n) && decide (c.n ≤ 20) && decide (c.m ≤ 60) && r.sels.all maySlr && r.decls.all mayD) := by unfold mayR; rw [hn, hm]
  rw [hR]
  clear hR hn hm h hr
  generalize r.sels.all maySlr = R1 at *
  generalize r.decls.all mayD = R2 at *
  obtain ⟨A, n, b, K2, m, d⟩ := c
  simp only at *
  obtain ⟨x0, x1⟩ := blk2 K
  go_enter Tryz.func37, Tryz.ntmps37
  by_cases g1 : 1 ≤ n
  · by_cases g2 : n ≤ 20
    · by_cases g3 : m ≤ 60
      · rw [decide_eq_true g1, decide_eq_true g2, decide_eq_true g3]
        cases R1 with
        | false =>
          go_wp2_with (go_at_call 74; (with_reducible refine c1.mono ?_); rintro e w1 ⟨rfl, hb⟩)
          go_ret
          exact ⟨by cases R2 <;> rfl, below_next hB hb⟩
        | true =>
          go_wp2_with (first
            | (go_at_call 74; (with_reducible refine c1.mono ?_); rintro e w1 ⟨rfl, hb⟩
               have hB1 := below_next hB hb
               have c21 := c2 w1 hB1
               have z1 := (K.next hb).cell 1
               simp only [List.getElem?_toArray, List.getElem?_cons_zero, List.getElem?_cons_succ] at z1)
            | (go_at_call 77; (with_reducible refine c21.mono ?_); rintro e w2 ⟨rfl, hb2⟩))
          go_ret
          exact ⟨by cases R2 <;> rfl, below_next hB1 hb2⟩
      · rw [decide_eq_false g3]
        go_wp2
        go_ret
        exact ⟨by simp, hB⟩
    · rw [decide_eq_false g2]
      go_wp2
      go_ret
      exact ⟨by simp, hB⟩
  · rw [decide_eq_false g1]
    go_wp2
    go_ret
    exact ⟨by simp, hB⟩
set_option maxRecDepth 100000 in
set_option maxHeartbeats 8000000 in
theorem notRuleW_any (r : Rul) (c : RC) (hr : RulV r) (w : World) (h : RuR w w.heap.size c r) :
    Calls Tryz.prog 36 #[.agg #[.slice c.A c.n c.c, .slice c.K c.m c.d]] w fun e w' => e = .returned (.bool (!mayR r)) ∧ Below w.heap.size w w' := by
  have hB := below_al (Below.refl w.heap.size w) (.cells #[.slice c.A c.n c.c, .slice c.K c.m c.d] 65)
  have K := Blk.new w 65 #[.slice c.A c.n c.c, .slice c.K c.m c.d]
  have cm := mayRuleW_any c r hr _ (h.below hB hB.size)
  clear h hr
  generalize mayR r = R at *
  obtain ⟨A, n, b, K2, m, d⟩ := c
  simp only at cm hB K ⊢
  obtain ⟨x0, x1⟩ := blk2 K
  go_enter Tryz.func36, Tryz.ntmps36
  go_wp2_with (go_at_call 37; (with_reducible refine cm.mono ?_); rintro e w1 ⟨rfl, hb⟩)
  go_ret
  exact ⟨rfl, below_next hB hb⟩
set_option maxHeartbeats 8000000 in
set_option maxRecDepth 100000 in
theorem indexRW_any (A : Option Addr) (n c : Nat) (ps : List Rul) (w : World) (h : RsR w w.heap.size A n ps) (hn : n ≤ 140737488351232) (hl : ∀ x ∈ ps, RulV x) :
    Calls Tryz.prog 73 #[.slice A n c, .func (.func 36) #[] #[]] w fun e w' => (∃ r : Int, e = .returned (.int .i64 r) ∧ decide (0 ≤ r) = !ps.all mayR) ∧ Below w.heap.size w w' := by
  have hlen := h.len
  obtain ⟨R, hR⟩ : ∃ R, R = !ps.all mayR := ⟨_, rfl⟩
  rw [← hR]
  have HR := Lib.hid hR
  have HS := Lib.hid hl
  clear hR hl
  go_enter Tryz.func73, Tryz.ntmps73
  go_wp2
  go_loopw [8] (fun i wr => ∃ k : Nat, k ≤ n ∧ i = .int .i64 k ∧ Hid (∀ (j : Nat) (x : Rul), j < k → ps[j]? = some x → mayR x = true) ∧ Below w.heap.size w wr) (fun i _ => n - (intOf i).toNat)
  case atStart => exact ⟨0, Nat.zero_le _, rfl, fun j x h => absurd h (by omega), Below.refl _ _⟩
  case round =>
    obtain ⟨k, hk, rfl, HK, hBr⟩ := hrel
    by_cases hlt : k < n
    · have hkl : k < ps.length := by omega
      obtain ⟨p, hp⟩ : ∃ p, ps[k]? = some p := ⟨ps[k], List.getElem?_eq_getElem hkl⟩
      obtain ⟨ad, q, rfl, hb1, e0, e1, r1⟩ := (h.below hBr (Nat.le_refl _)).at_ hp
      have c1 := notRuleW_any p q (HS.out p (List.mem_of_getElem? hp)) wr (r1.below (Below.refl _ wr) hBr.size)
      have hki : (k : Int) < (n : Int) := by omega
      have k0 : (0 : Int) ≤ (k : Int) := Int.natCast_nonneg _
      cases hm : mayR p with
      | false =>
        obtain rfl : R = true := by
          rw [HR.out]
          have : ps.all mayR = false := by rw [List.all_eq_false]; exact ⟨p, List.mem_of_getElem? hp, by rw [hm]; decide⟩
          rw [this]; rfl
        rw [hm] at c1
        clear hp hm HK
        go_wp2_with (go_at_call 36; (with_reducible refine c1.mono ?_); rintro e w1 ⟨rfl, hb⟩; have hB1 := below_next hBr hb)
        go_ret
        exact ⟨⟨_, rfl, decide_eq_true k0⟩, hB1⟩
      | true =>
        have HK' : Hid (∀ (j : Nat) (x : Rul), j < k + 1 → ps[j]? = some x → mayR x = true) := by
          intro j x hj hx
          by_cases e : j = k
          · subst e
            rw [hp] at hx
            injection hx with hx
            subst hx
            exact hm
          · exact HK.out j x (by omega) hx
        rw [hm] at c1
        clear hp hm HK
        go_wp2_with (go_at_call 36; (with_reducible refine c1.mono ?_); rintro e w1 ⟨rfl, hb⟩; have hB1 := below_next hBr hb)
        go_roundw
        case rel => exact ⟨k + 1, by omega, by go_num, HK', hB1⟩
        case measure => simp [intOf]; omega
    · obtain rfl : k = n := by omega
      obtain rfl : R = false := by
        rw [HR.out]
        have : ps.all mayR = true := by
          rw [List.all_eq_true]
          intro x hx
          obtain ⟨j, hj, e⟩ := List.getElem_of_mem hx
          exact HK.out j x (by omega) (by rw [List.getElem?_eq_getElem hj, e])
        rw [this]; rfl
      go_wp2
      go_ret
      exact ⟨⟨-1, rfl, rfl⟩, hBr⟩
set_option maxHeartbeats 4000000 in
set_option maxRecDepth 100000 in
theorem containsRW_any (A : Option Addr) (n c : Nat) (ps : List Rul) (w : World) (h : RsR w w.heap.size A n ps) (hn : n ≤ 140737488351232) (hl : ∀ x ∈ ps, RulV x) :
    Calls Tryz.prog 35 #[.slice A n c, .func (.func 36) #[] #[]] w fun e w' => e = .returned (.bool (!ps.all mayR)) ∧ Below w.heap.size w w' := by
  have c1 := indexRW_any A n c ps w h hn hl
  generalize (!ps.all mayR) = R at *
  clear h hl
  go_enter Tryz.func35, Tryz.ntmps35
  go_wp2_with (go_at_call 73; (with_reducible refine c1.mono ?_); rintro e w1 ⟨⟨r, rfl, hR⟩, hb⟩)
  go_ret
  exact ⟨rfl, hb⟩
set_option maxRecDepth 100000 in
set_option maxHeartbeats 8000000 in
/-- sheet.May. -/
theorem mayW_any (A : Option Addr) (n c : Nat) (rs : List Rul) (hn : n ≤ 140737488351232) (hr : ∀ r ∈ rs, RulV r) (w : World) (h : RsR w w.heap.size A n rs) :
    Calls Tryz.prog 18 #[.slice A n c] w fun e w' => e = .returned (.bool (mayS rs)) ∧ Below w.heap.size w w' := by
  have hl := h.len
  have cc := containsRW_any A n c rs w h hn hr
  have hR : mayS rs = (decide (n ≤ 40) && rs.all mayR) := by unfold mayS; rw [hl]
  rw [hR]
  clear hR hl h hr
  generalize rs.all mayR = R at *
  go_enter Tryz.func18, Tryz.ntmps18
  by_cases g1 : n ≤ 40
  · rw [decide_eq_true g1]
    go_wp2_with (go_at_call 35; (with_reducible refine cc.mono ?_); rintro e w1 ⟨rfl, hb⟩)
    go_ret
    exact ⟨by cases R <;> rfl, hb⟩
  · rw [decide_eq_false g1]
    go_wp2
    go_ret
    exact ⟨rfl, Below.refl _ _⟩
/-- What may be is no more than calls bear. -/
theorem may_bound {r : Rul} (h : mayR r = true) : RulB r := by
  unfold mayR at h
  simp only [Bool.and_eq_true, decide_eq_true_eq] at h
  obtain ⟨⟨⟨⟨m1, m2⟩, m3⟩, m4⟩, -⟩ := h
  exact ⟨by omega, by omega, fun x hx => sel_bound (List.all_eq_true.1 m4 x hx)⟩
theorem reach_bound {r : Rul} (h : RulX r) (hc : ∀ x ∈ r.sels, x.close.length ≤ 9223372036854775807) : RulV r := by
  obtain ⟨⟨h1, h2, h3⟩, h4⟩ := h
  refine ⟨by omega, by omega, fun x hx => ?_⟩
  have hb := h4 x hx
  refine ⟨by have := h3 x hx; omega, hc x hx, fun p hp => ?_, fun p hp => ?_⟩
  · obtain ⟨-, q2, q3, -⟩ := hb p hp
    exact ⟨q2, q3⟩
  · obtain ⟨q1, -, -, q4, q5⟩ := hb p hp
    exact ⟨q1, q4, q5⟩
set_option maxRecDepth 100000 in
set_option maxHeartbeats 16000000 in
theorem printW_any (A : Option Addr) (n c : Nat) (rs : List Rul) (hn : n ≤ 140737488351232) (hr : ∀ r ∈ rs, RulV r) (w : World) (hT : Val.Tabs w) (h : RsR w w.heap.size A n rs) :
    Calls Tryz.prog 20 #[.slice A n c] w fun e w' => e = .returned (.string (toB (printS rs))) ∧ Below w.heap.size w w' := by
  cases hm : mayS rs with
  | true =>
    have h2 := hm
    unfold mayS at h2
    rw [Bool.and_eq_true, decide_eq_true_eq] at h2
    have hl := h.len
    exact print_any A n c rs (by omega) (fun r hr => may_bound (List.all_eq_true.1 h2.2 r hr)) w hT h
  | false =>
    have cm := mayW_any A n c rs hn hr w h
    rw [hm] at cm
    have HX : Hid (printS rs = []) := by show _ = _; unfold printS; rw [hm]; rfl
    clear hm h hr hT
    go_enter Tryz.func20, Tryz.ntmps20
    go_wp2_with (go_at_call 18; (with_reducible refine cm.mono ?_); rintro e w1 ⟨rfl, hb1⟩)
    go_ret
    exact ⟨by rw [HX.out]; rfl, hb1⟩
end Sht
end Go.Proofs.YtdfcahdipalmkaaGreatDoor
