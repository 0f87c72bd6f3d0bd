/- Pieces, places and a filler in memory; what the landed package line's isSize, mayAll, number, moved and highest answer. Conditions: as the theorems' premises say. -/
import Derived.Test.YtgglffmfkhbcgaaLineMath
import Derived.Test.YtgglffmfkhbcgaaRowsO
import Derived.Test.YtgglffmfkhbcgaaFxSum
import Derived.Test.YtgglffmfkhbcgaaKeepsBut
import Derived.WalkKit
import Derived.ProofKit
import Derived.OpenShut
import Derived.IntWalk
import Derived.Lib.Hide
import Derived.Lib.MinMax
import Derived.Outline
import Derived.Deep.QuietTactic
import Derived.BigQuiet
import Derived.WalkLawsBesides
namespace Go.Proofs.Ytgglffmfkhbcgaa
open Go.ChangeShapes Go.WideShapes Go.ChangeAt Go.RowKit
theorem pc_of {w : World} {B : Nat} {A : Option Addr} {n : Nat} {l : List Pc} (h : Reads w B 6 A n (flatP l)) {k : Nat} {p : Pc} (hp : l[k]? = some p) :
    ∃ ad, A = some ad ∧ ad.block < B ∧ w.cell? (ad.add (k * 6)) = some (.int .i64 p.b) ∧ w.cell? ⟨(ad.add (k * 6)).block, (ad.add (k * 6)).off + 1, none⟩ = some (.int .i64 p.w) ∧ w.cell? ⟨(ad.add (k * 6)).block, (ad.add (k * 6)).off + 2, none⟩ = some (.int .i64 p.h) ∧
      w.cell? ⟨(ad.add (k * 6)).block, (ad.add (k * 6)).off + 3, none⟩ = some (.int .i64 p.g) ∧ w.cell? ⟨(ad.add (k * 6)).block, (ad.add (k * 6)).off + 4, none⟩ = some (.string p.t) ∧ w.cell? ⟨(ad.add (k * 6)).block, (ad.add (k * 6)).off + 5, none⟩ = some (.bool p.k) := by
  have hn : 0 < n := by
    have h1 := h.1
    rw [flatP_len] at h1
    have := (List.getElem?_eq_some_iff.1 hp).1
    omega
  obtain ⟨ad, rfl, hb, hc⟩ := h.2 hn
  obtain ⟨a, b, c, d, e, f⟩ := flatP_at l k p hp
  refine ⟨ad, rfl, hb, hc _ _ a, ?_, ?_, ?_, ?_, ?_⟩
  · have := hc _ _ b; rwa [← add_of_add, add_one] at this
  · have := hc _ _ c; rwa [← add_of_add, add_one] at this
  · have := hc _ _ d; rwa [← add_of_add, add_one] at this
  · have := hc _ _ e; rwa [← add_of_add, add_one] at this
  · have := hc _ _ f; rwa [← add_of_add, add_one] at this
theorem len_P {w : World} {B : Nat} {A : Option Addr} {n : Nat} {l : List Pc} (h : Reads w B 6 A n (flatP l)) : l.length = n := by
  have := h.1
  rw [flatP_len] at this
  omega
theorem isSize_any (n : Int) (w : World) : Calls Try.prog 27 #[.int .i64 n] w fun e w' => e = .returned (.bool (isz n)) ∧ w = w' := by
  unfold isz
  by_cases h : 0 ≤ n
  · rw [decide_eq_true h]
    go_enter Try.func27, Try.ntmps27
    go_wp2
    go_ret
    exact ⟨rfl, rfl⟩
  · rw [decide_eq_false h]
    go_enter Try.func27, Try.ntmps27
    go_wp2
    go_ret
    exact ⟨rfl, rfl⟩
set_option maxHeartbeats 8000000 in
theorem mayAll_any (A : Option Addr) (n c B : Nat) (l : List Pc) (w : World) (hB : B ≤ w.heap.size) (hr : Reads w B 6 A n (flatP l)) (hn : n ≤ 1000000) :
    Calls Try.prog 28 #[.slice A n c] w fun e w' => e = .returned (.bool (mayP l)) ∧ Below w.heap.size w w' := by
  have HL := Lib.hid (len_P hr)
  go_enter Try.func28, Try.ntmps28
  go_wp2
  go_loopw [7] (fun i wr => ∃ k : Nat, k ≤ n ∧ i = .int .i64 k ∧ Hid (mayP (l.take k) = true) ∧ Below w.heap.size w wr) (fun i _ => n - (intOf i).toNat)
  case atStart => exact ⟨0, Nat.zero_le _, rfl, Lib.hid rfl, Below.refl _ _⟩
  case round =>
    obtain ⟨k, hk, rfl, HM, hBr⟩ := hrel
    have hr1 := hr.below (hBr.mono hB)
    have hle := hBr.size
    by_cases hlt : k < n
    · obtain ⟨p, hp⟩ : ∃ p, l[k]? = some p := ⟨l[k]'(by rw [HL.out]; exact hlt), List.getElem?_eq_getElem _⟩
      obtain ⟨ad, rfl, hb, e0, e1, e2, e3, e4, e5⟩ := pc_of hr1 hp
      have HS := Lib.hid (show mayP (l.take (k + 1)) = (isz p.w && (isz p.h && isz p.g)) by
        have e := HM.out
        unfold mayP at e ⊢
        rw [List.take_add_one, hp, List.all_append, e]
        simp [Pc.may])
      have HF := Lib.hid (show (isz p.w && (isz p.h && isz p.g)) = false → mayP l = false by
        intro hf
        unfold mayP
        rw [List.all_eq_false]
        refine ⟨p, List.mem_of_getElem? hp, ?_⟩
        unfold Pc.may
        rw [hf]
        simp)
      obtain ⟨pb, pw, ph, pg, pt, pk⟩ := p
      simp only at e0 e1 e2 e3 e4 e5 HS HF
      have s1 := fun w => isSize_any pw w
      have s2 := fun w => isSize_any ph w
      have s3 := fun w => isSize_any pg w
      have hBa := below_al hBr (.cells #[.int .i64 pb, .int .i64 pw, .int .i64 ph, .int .i64 pg, .string pt, .bool pk] 32)
      clear hp hr1 hb
      generalize isz pw = z1 at *
      generalize isz ph = z2 at *
      generalize isz pg = z3 at *
      cases z1 <;> (try cases z2) <;> (try cases z3)
      all_goals
        go_wp2_with (go_at_call 27; (first | (with_reducible refine (s1 _).mono ?_) | (with_reducible refine (s2 _).mono ?_) | (with_reducible refine (s3 _).mono ?_)); rintro e w' ⟨rfl, rfl⟩)
        first
          | (go_ret
             have hF := HF.out rfl
             rw [hF]
             exact ⟨rfl, hBa⟩)
          | skip
      go_roundw
      case rel => exact ⟨k + 1, by omega, by go_num, HS, hBa⟩
      case measure => simp [intOf]; omega
    · obtain rfl : k = n := by omega
      have htk : l.take k = l := List.take_of_length_le (by rw [HL.out]; omega)
      rw [htk] at HM
      go_wp2
      go_ret
      rw [HM.out]
      exact ⟨rfl, hBr⟩
/-! ### a filler -/
def OpnO (w : World) (E base : Nat) (v : Value) (l : List Pc) : Prop :=
  w.ownsRow base 32 6 v l.length (flatP l) ∨ ∃ ad, v = .slice (some ad) l.length l.length ∧ ad.block < E ∧ Reads w E 6 (some ad) l.length (flatP l)
def PlsO (w : World) (base : Nat) (v : Value) (l : List Pl) : Prop := w.ownsRow base 30 6 v l.length (flatL l)
def filC (room align : Int) (vo : Value) (wide : Int) (vp : Value) (lines high : Int) (cut : Bool) : Array Value := #[.int .i64 room, .int .i64 align, vo, .int .i64 wide, vp, .int .i64 lines, .int .i64 high, .bool cut]
theorem opn_form {w : World} {E base : Nat} {v : Value} {l : List Pc} (h : OpnO w E base v l) : ∃ A c, v = .slice A l.length c := by
  rcases h with h | ⟨ad, rfl, _⟩
  · exact own_form' h
  · exact ⟨_, _, rfl⟩
theorem opn_reads {w : World} {E base c : Nat} {A : Option Addr} {l : List Pc} (hE : E ≤ w.heap.size) (h : OpnO w E base (.slice A l.length c) l) : Reads w w.heap.size 6 A l.length (flatP l) := by
  rcases h with h | ⟨ad, e, _, hr⟩
  · exact Reads.of_own h
  · injection e with e
    subst e
    exact hr.more hE
theorem opn_below {w w' : World} {E base : Nat} {v : Value} {l : List Pc} (hE : E ≤ w.heap.size) (h : OpnO w E base v l) (hb : Below w.heap.size w w') : OpnO w' E base v l := by
  rcases h with h | ⟨ad, e, h0, hr⟩
  · exact .inl (own_below h hb)
  · exact .inr ⟨ad, e, h0, hr.below (hb.mono hE)⟩
set_option maxHeartbeats 4000000 in
theorem numberL_any (g : Nat) (n : Int) (x c : Bool) (w : World) (hc : w.cell? ⟨g, 7, none⟩ = some (.bool c)) (hf : w.frozen? ⟨g, 7, none⟩ = false) :
    Calls Try.prog 51 #[.pointer (some ⟨g, 0, none⟩), .int .i64 n, .bool x] w fun e w' => e = .returned (.int .i64 n) ∧ w.setCell ⟨g, 7, none⟩ (.bool (c || !x)) = w' := by
  cases c <;> cases x
  all_goals
    go_enter Try.func51, Try.ntmps51
    go_wp2
    go_ret
    exact ⟨rfl, rfl⟩
set_option maxHeartbeats 4000000 in
theorem moved_any (g : Nat) (room align wide lines high : Int) (vo vp : Value) (cut : Bool) (w : World) (K : Blk w g 60 (filC room align vo wide vp lines high cut))
    (h1 : 0 ≤ room) (h2 : room ≤ 1099511627776) (h3 : 0 ≤ wide) (h4 : wide ≤ 1099511627776) :
    Calls Try.prog 53 #[.pointer (some ⟨g, 0, none⟩)] w fun e w' => e = .returned (.int .i64 (moveF room wide align)) ∧ ∃ q, w' = w.drewN q := by
  have c0 : w.cell? ⟨g, 0, none⟩ = some (.int .i64 room) := K.cell 0
  have c1 : w.cell? ⟨g, 1, none⟩ = some (.int .i64 align) := K.cell 1
  have c3 : w.cell? ⟨g, 3, none⟩ = some (.int .i64 wide) := K.cell 3
  have m1 : IntKind.i64.wrap (room - wide) = room - wide := by rw [IntKind.wrap_i64]; omega
  have ho1 : 0 ≤ max (room - wide) 0 := by omega
  have ho2 : max (room - wide) 0 ≤ 1099511627776 := by omega
  unfold moveF
  by_cases a1 : align = 1
  · subst a1
    rw [if_pos rfl]
    go_enter Try.func53, Try.ntmps53
    go_wp2
    go_quiet (fail)
    go_wp2
    go_ret
    exact ⟨by simp, _, rfl⟩
  · rw [if_neg a1]
    have d1 : (align == 1) = false := by simpa using a1
    by_cases a2 : align = 2
    · subst a2
      rw [if_pos rfl]
      go_enter Try.func53, Try.ntmps53
      go_wp2
      go_quiet (fail)
      go_wp2
      go_ret
      exact ⟨rfl, _, rfl⟩
    · rw [if_neg a2]
      have d2 : (align == 2) = false := by simpa using a2
      go_enter Try.func53, Try.ntmps53
      go_wp2
      go_quiet (fail)
      go_wp2
      go_ret
      exact ⟨rfl, _, rfl⟩
set_option maxHeartbeats 8000000 in
theorem highest_any (A : Option Addr) (n c B : Nat) (l : List Pc) (w : World) (hB : B ≤ w.heap.size) (hr : Reads w B 6 A n (flatP l)) (hn : n ≤ 1000000) :
    Calls Try.prog 52 #[.slice A n c] w fun e w' => e = .returned (.int .i64 (hiP l)) ∧ Below w.heap.size w w' := by
  have HL := Lib.hid (len_P hr)
  go_enter Try.func52, Try.ntmps52
  go_wp2
  go_loopw [8, 3] (fun i m wr => ∃ k : Nat, k ≤ n ∧ i = .int .i64 k ∧ m = .int .i64 (hiP (l.take k)) ∧ Below w.heap.size w wr) (fun i _ _ => n - (intOf i).toNat)
  case atStart => exact ⟨0, Nat.zero_le _, rfl, rfl, Below.refl _ _⟩
  case round =>
    obtain ⟨k, hk, rfl, rfl, hBr⟩ := hrel
    have hr1 := hr.below (hBr.mono hB)
    have hle := hBr.size
    by_cases hlt : k < n
    · obtain ⟨p, hp⟩ : ∃ p, l[k]? = some p := ⟨l[k]'(by rw [HL.out]; exact hlt), List.getElem?_eq_getElem _⟩
      obtain ⟨ad, rfl, hb, e0, e1, e2, e3, e4, e5⟩ := pc_of hr1 hp
      have HS := Lib.hid (show hiP (l.take (k + 1)) = max (hiP (l.take k)) p.h by rw [List.take_add_one, hp]; exact hiP_snoc _ _)
      obtain ⟨pb, pw, ph, pg, pt, pk⟩ := p
      simp only at e0 e1 e2 e3 e4 e5 HS
      have hBa := below_al hBr (.cells #[.int .i64 pb, .int .i64 pw, .int .i64 ph, .int .i64 pg, .string pt, .bool pk] 32)
      clear hp hr1 hb
      generalize hiP (l.take k) = m0 at *
      go_wp2
      go_roundw
      case rel => exact ⟨k + 1, by omega, by go_num, by rw [HS.out], hBa⟩
      case measure => simp [intOf]; omega
    · obtain rfl : k = n := by omega
      have htk : l.take k = l := List.take_of_length_le (by rw [HL.out]; omega)
      go_wp2
      go_ret
      rw [htk]
      exact ⟨rfl, hBr⟩
end Go.Proofs.Ytgglffmfkhbcgaa
