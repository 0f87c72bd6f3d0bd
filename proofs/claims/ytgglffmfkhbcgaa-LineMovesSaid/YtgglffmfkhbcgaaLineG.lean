/- What the landed package line's Wide answers. Conditions: the places lie in memory as they are read. -/
import Derived.Test.YtgglffmfkhbcgaaLineA
import Derived.Test.YtgglffmfkhbcgaaFxSub
import Derived.Test.YtgglffmfkhbcgaaFxAdd
namespace Go.Proofs.Ytgglffmfkhbcgaa
open Go.ChangeShapes Go.WideShapes Go.ChangeAt Go.RowKit
theorem len_L {w : World} {B : Nat} {A : Option Addr} {n : Nat} {l : List Pl} (h : Reads w B 6 A n (flatL l)) : l.length = n := by
  have := h.1
  rw [flatL_len] at this
  omega
theorem pl_of {w : World} {B : Nat} {A : Option Addr} {n : Nat} {l : List Pl} (h : Reads w B 6 A n (flatL l)) {k : Nat} {p : Pl} (hp : l[k]? = some p) :
    ∃ ad, A = some ad ∧ ad.block < B ∧ w.cell? (ad.add (k * 6)) = some (.int .i64 p.p) ∧ w.cell? ⟨(ad.add (k * 6)).block, (ad.add (k * 6)).off + 1, none⟩ = some (.int .i64 p.n) ∧ w.cell? ⟨(ad.add (k * 6)).block, (ad.add (k * 6)).off + 2, none⟩ = some (.int .i64 p.x) ∧
      w.cell? ⟨(ad.add (k * 6)).block, (ad.add (k * 6)).off + 3, none⟩ = some (.int .i64 p.y) ∧ w.cell? ⟨(ad.add (k * 6)).block, (ad.add (k * 6)).off + 4, none⟩ = some (.int .i64 p.w) ∧ w.cell? ⟨(ad.add (k * 6)).block, (ad.add (k * 6)).off + 5, none⟩ = some (.int .i64 p.h) := by
  have hn : 0 < n := by
    have h1 := len_L h
    have := (List.getElem?_eq_some_iff.1 hp).1
    omega
  obtain ⟨ad, rfl, hb, hc⟩ := h.2 hn
  obtain ⟨a, b, c, d, e, f⟩ := flatL_at l k p hp
  refine ⟨ad, rfl, hb, hc _ _ a, ?_, ?_, ?_, ?_, ?_⟩
  · have := hc _ _ b; rwa [← add_of_add, add_one] at this
  · have := hc _ _ c; rwa [← add_of_add, add_one] at this
  · have := hc _ _ d; rwa [← add_of_add, add_one] at this
  · have := hc _ _ e; rwa [← add_of_add, add_one] at this
  · have := hc _ _ f; rwa [← add_of_add, add_one] at this
theorem wide_zero {l : List Pl} {p : Pl} (hp : l[0]? = some p) : wideAt l (0 + 1) = ⟨max (wideAt l 0).most (sub2 (add2 p.x p.w) p.x), p.x⟩ := by
  show (match l[0]? with | some p => wideStep (wideAt l 0) true p | none => wideAt l 0) = _
  rw [hp]; simp only [wideStep, if_true]
theorem wide_same {l : List Pl} {m : Nat} {p q : Pl} (hp : l[m + 1]? = some p) (hq : l[m]? = some q) (he : (p.n != q.n) = false) : wideAt l (m + 1 + 1) = ⟨max (wideAt l (m + 1)).most (sub2 (add2 p.x p.w) (wideAt l (m + 1)).beg), (wideAt l (m + 1)).beg⟩ := by
  rw [wideAt, hp]; simp only [hq, he, wideStep, Bool.false_eq_true, if_false]
theorem wide_new {l : List Pl} {m : Nat} {p q : Pl} (hp : l[m + 1]? = some p) (hq : l[m]? = some q) (he : (p.n != q.n) = true) : wideAt l (m + 1 + 1) = ⟨max (wideAt l (m + 1)).most (sub2 (add2 p.x p.w) p.x), p.x⟩ := by
  rw [wideAt, hp]; simp only [hq, he, wideStep, if_true]
set_option maxHeartbeats 16000000 in
set_option maxRecDepth 100000 in
theorem wide_any (A : Option Addr) (n c B : Nat) (l : List Pl) (w : World) (hB : B ≤ w.heap.size) (hr : Reads w B 6 A n (flatL l)) (hn : n ≤ 1000000) :
    Calls Try.prog 26 #[.slice A n c] w fun e w' => e = .returned (.int .i64 (wideP l)) ∧ Below w.heap.size w w' := by
  have HL := Lib.hid (len_L hr)
  go_enter Try.func26, Try.ntmps26
  go_wp2
  go_loopw [13, 3, 4] (fun i m b wr => ∃ (k : Nat) (S : Ws), k ≤ n ∧ i = .int .i64 k ∧ Hid (S = wideAt l k) ∧ m = .int .i64 S.most ∧ b = .int .i64 S.beg ∧ Below w.heap.size w wr) (fun i _ _ _ => n - (intOf i).toNat)
  case atStart => exact ⟨0, ⟨0, 0⟩, Nat.zero_le _, rfl, Lib.hid rfl, rfl, rfl, Below.refl _ _⟩
  case round =>
    obtain ⟨k, S, hk, rfl, HS, rfl, rfl, hBr⟩ := hrel
    have hr1 := hr.below (hBr.mono hB)
    have hle := hBr.size
    obtain ⟨mo, be⟩ := S
    by_cases hlt : k < n
    · obtain ⟨p, hp⟩ : ∃ p, l[k]? = some p := ⟨l[k]'(by rw [HL.out]; exact hlt), List.getElem?_eq_getElem _⟩
      obtain ⟨ad, rfl, hab, e0, e1, e2, e3, e4, e5⟩ := pl_of hr1 hp
      have hBa := below_al hBr (.cells #[.int .i64 p.p, .int .i64 p.n, .int .i64 p.x, .int .i64 p.y, .int .i64 p.w, .int .i64 p.h] 30)
      have HP := Lib.hid hp
      obtain ⟨pp, pn, px, py, pw, ph⟩ := p
      simp only at e0 e1 e2 e3 e4 e5 hBa
      have ad1 := fun w => add_any px pw w
      by_cases hk0 : k = 0
      · have HW := Lib.hid (show wideAt l (k + 1) = ⟨max mo (sub2 (add2 px pw) px), px⟩ by
          subst hk0; rw [wide_zero HP.out]; have e := HS.out; unfold wideAt at e; rw [show (wideAt l 0).most = mo by rw [← HS.out]])
        have sb := fun w => sub_any (add2 px pw) px w
        have d0 : ((k : Int) == 0) = true := by rw [hk0]; rfl
        clear hr1 hp hab hk0
        generalize addOk px pw = o1 at *
        generalize add2 px pw = x1 at *
        generalize subOk x1 px = o2 at *
        generalize sub2 x1 px = x2 at *
        go_wp2
        go_quiet (fail)
        go_wp2_with (first
          | (go_at_call 44; (with_reducible refine (ad1 _).mono ?_); rintro e w1 ⟨rfl, rfl⟩)
          | (go_at_call 43; (with_reducible refine (sb _).mono ?_); rintro e w1 ⟨rfl, rfl⟩))
        go_roundw
        case rel => exact ⟨k + 1, ⟨max mo x2, px⟩, by omega, by go_num, Lib.hid HW.out.symm, rfl, rfl, below_dr hBa _⟩
        case measure => simp [intOf]; omega
      · obtain ⟨m, hm⟩ : ∃ m, k = m + 1 := ⟨k - 1, by omega⟩
        obtain ⟨q, hq⟩ : ∃ q, l[m]? = some q := ⟨l[m]'(by rw [HL.out]; omega), List.getElem?_eq_getElem _⟩
        obtain ⟨ad', hd, _, q0, q1, q2, q3, q4, q5⟩ := pl_of (hr1.alloc (Nat.le_trans hB hle) (.cells #[.int .i64 pp, .int .i64 pn, .int .i64 px, .int .i64 py, .int .i64 pw, .int .i64 ph] 30)) hq
        injection hd with hd
        subst hd
        have i1 : IntKind.i64.wrap ((k : Int) - 1) = (m : Int) := by rw [IntKind.wrap_i64]; omega
        have i2 : (0 : Int) ≤ (m : Int) := Int.natCast_nonneg _
        have i3 : (m : Int) < (n : Int) := by omega
        have i4 := Int.toNat_natCast m
        have d0 : ((k : Int) == 0) = false := by simpa using hk0
        have hm1 : m < n := by omega
        obtain ⟨qp, qn, qx, qy, qw, qh⟩ := q
        simp only at q0 q1 q2 q3 q4 q5
        cases he : (pn != qn)
        · have HW := Lib.hid (show wideAt l (k + 1) = ⟨max mo (sub2 (add2 px pw) be), be⟩ by
            subst hm; rw [wide_same HP.out hq he, ← HS.out])
          have sb := fun w => sub_any (add2 px pw) be w
          clear hr1 hp hab hk0 hq q0 q2 q3 q4 q5 hm
          generalize addOk px pw = o1 at *
          generalize add2 px pw = x1 at *
          generalize subOk x1 be = o2 at *
          generalize sub2 x1 be = x2 at *
          go_wp2
          go_quiet (fail)
          go_wp2_with (first
            | (go_at_call 44; (with_reducible refine (ad1 _).mono ?_); rintro e w1 ⟨rfl, rfl⟩)
            | (go_at_call 43; (with_reducible refine (sb _).mono ?_); rintro e w1 ⟨rfl, rfl⟩))
          go_roundw
          case rel => exact ⟨k + 1, ⟨max mo x2, be⟩, by omega, by go_num, Lib.hid HW.out.symm, rfl, rfl, below_dr hBa _⟩
          case measure => simp [intOf]; omega
        · have HW := Lib.hid (show wideAt l (k + 1) = ⟨max mo (sub2 (add2 px pw) px), px⟩ by
            subst hm; rw [wide_new HP.out hq he, ← HS.out])
          have sb := fun w => sub_any (add2 px pw) px w
          clear hr1 hp hab hk0 hq q0 q2 q3 q4 q5 hm
          generalize addOk px pw = o1 at *
          generalize add2 px pw = x1 at *
          generalize subOk x1 px = o2 at *
          generalize sub2 x1 px = x2 at *
          go_wp2
          go_quiet (fail)
          go_wp2_with (first
            | (go_at_call 44; (with_reducible refine (ad1 _).mono ?_); rintro e w1 ⟨rfl, rfl⟩)
            | (go_at_call 43; (with_reducible refine (sb _).mono ?_); rintro e w1 ⟨rfl, rfl⟩))
          go_roundw
          case rel => exact ⟨k + 1, ⟨max mo x2, px⟩, by omega, by go_num, Lib.hid HW.out.symm, rfl, rfl, below_dr hBa _⟩
          case measure => simp [intOf]; omega
    · obtain rfl : k = n := by omega
      have e : wideP l = mo := by unfold wideP; rw [HL.out, ← HS.out]
      have HE := Lib.hid e
      clear e
      go_wp2
      go_ret
      rw [HE.out]
      exact ⟨rfl, hBr⟩
end Go.Proofs.Ytgglffmfkhbcgaa
