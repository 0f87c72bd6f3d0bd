/- token's isLetter, isInName, isBlank, behindBytes, countName, countBlanks over bytes that lie in memory. Conditions: the bytes lie in memory. -/
import Derived.Test.YthacboofbbfmlaaGreatDoorTokMath
import Derived.Test.YthacboofbbfmlaaGreatDoorBytes
namespace Go.Proofs.YthacboofbbfmlaaGreatDoor
open Go.ChangeShapes Go.WideShapes Go.ChangeAt Go.RowKit
namespace Tok
/-- Bytes lie in block g from o on. -/
def Lf (w : World) (g o : Nat) (l : List UInt8) : Prop := g < w.heap.size ∧ ∀ (j : Nat) (c : UInt8), l[j]? = some c → w.cell? ⟨g, o + j, none⟩ = some (bv c)
theorem Lf.next {w w' : World} {g o : Nat} {l : List UInt8} (h : Lf w g o l) (hb : Below w.heap.size w w') : Lf w' g o l :=
  ⟨Nat.lt_of_lt_of_le h.1 hb.size, fun j c hc => (hb.cell (p := ⟨g, o + j, none⟩) h.1).trans (h.2 j c hc)⟩
theorem Lf.drop {w : World} {g o : Nat} {l : List UInt8} (h : Lf w g o l) (n : Nat) : Lf w g (o + n) (l.drop n) :=
  ⟨h.1, fun j c hc => by rw [List.getElem?_drop] at hc; have := h.2 (n + j) c hc; rwa [← Nat.add_assoc] at this⟩
theorem Lf.nil {w : World} {g o : Nat} (h : g < w.heap.size) : Lf w g o [] := ⟨h, fun j c hc => by simp at hc⟩
theorem Lf.at_ {w : World} {g o : Nat} {l : List UInt8} (h : Lf w g o l) {j : Nat} (hj : j < l.length) : w.cell? ⟨g, o + j, none⟩ = some (.int .u8 (l[j].toNat : Int)) := h.2 j _ (List.getElem?_eq_getElem hj)
theorem u8_lt (c : UInt8) : (c.toNat : Int) < 256 := by have := c.toNat_lt; omega
theorem isL_nat (c : UInt8) : isL c = ((decide (97 ≤ (c.toNat : Int)) && decide ((c.toNat : Int) ≤ 122)) || (decide (65 ≤ (c.toNat : Int)) && decide ((c.toNat : Int) ≤ 90))) := by
  have h := fun (a : UInt8) => UInt8.le_iff_toNat_le (a := a) (b := c)
  have h2 := fun (a : UInt8) => UInt8.le_iff_toNat_le (a := c) (b := a)
  unfold isL
  rw [Bool.eq_iff_iff]
  simp only [Bool.or_eq_true, Bool.and_eq_true, decide_eq_true_iff, h, h2]
  have e1 : (97 : UInt8).toNat = 97 := rfl
  have e2 : (122 : UInt8).toNat = 122 := rfl
  have e3 : (65 : UInt8).toNat = 65 := rfl
  have e4 : (90 : UInt8).toNat = 90 := rfl
  rw [e1, e2, e3, e4]
  omega
theorem isN_nat (c : UInt8) : isN c = ((decide (48 ≤ (c.toNat : Int)) && decide ((c.toNat : Int) ≤ 57)) || ((c.toNat : Int) == 45)) := by
  have h := fun (a : UInt8) => UInt8.le_iff_toNat_le (a := a) (b := c)
  have h2 := fun (a : UInt8) => UInt8.le_iff_toNat_le (a := c) (b := a)
  unfold isN
  rw [Bool.eq_iff_iff]
  simp only [Bool.or_eq_true, Bool.and_eq_true, decide_eq_true_iff, h, h2, beq_iff_eq]
  have e1 : (48 : UInt8).toNat = 48 := rfl
  have e2 : (57 : UInt8).toNat = 57 := rfl
  have e3 : c = 45 ↔ c.toNat = 45 := ⟨fun e => by rw [e]; rfl, fun e => UInt8.toNat_inj.1 (by rw [e]; rfl)⟩
  rw [e1, e2, e3]
  omega
theorem isBlank_nat (c : UInt8) : isBlank c = ((c.toNat : Int) == 32 || (c.toNat : Int) == 9 || (c.toNat : Int) == 10 || (c.toNat : Int) == 13) := by
  have e := fun (a : UInt8) => (⟨fun e => by rw [e], fun e => UInt8.toNat_inj.1 e⟩ : c = a ↔ c.toNat = a.toNat)
  unfold isBlank
  rw [Bool.eq_iff_iff]
  simp only [Bool.or_eq_true, beq_iff_eq, e]
  have e1 : (32 : UInt8).toNat = 32 := rfl
  have e2 : (9 : UInt8).toNat = 9 := rfl
  have e3 : (10 : UInt8).toNat = 10 := rfl
  have e4 : (13 : UInt8).toNat = 13 := rfl
  rw [e1, e2, e3, e4]
  omega
theorem letter_any (c : UInt8) (w : World) : Calls Tryz.prog 88 #[.int .u8 (c.toNat : Int)] w fun e w' => e = .returned (.bool (isL c)) ∧ w = w' := by
  rw [isL_nat]
  have h1 := u8_lt c
  have h0 : (0 : Int) ≤ (c.toNat : Int) := Int.natCast_nonneg _
  generalize (c.toNat : Int) = x at *
  go_enter Tryz.func88, Tryz.ntmps88
  go_wp2
  all_goals
    go_ret
    simp_all <;> omega
theorem inName_any (c : UInt8) (w : World) : Calls Tryz.prog 89 #[.int .u8 (c.toNat : Int)] w fun e w' => e = .returned (.bool (isN c)) ∧ w = w' := by
  rw [isN_nat]
  have h1 := u8_lt c
  have h0 : (0 : Int) ≤ (c.toNat : Int) := Int.natCast_nonneg _
  generalize (c.toNat : Int) = x at *
  go_enter Tryz.func89, Tryz.ntmps89
  go_wp2
  all_goals
    go_ret
    simp_all <;> omega
set_option maxRecDepth 100000 in
set_option maxHeartbeats 4000000 in
/-- What is left behind n bytes: with no room at its end. -/
theorem behind_any (g o : Nat) (l : List UInt8) (cap n : Nat) (hn : n ≤ l.length) (hc : l.length ≤ cap) (w : World) (h : Lf w g o l) :
    Calls Tryz.prog 82 #[.slice (some ⟨g, o, none⟩) l.length cap, .int .i64 n] w fun e w' => (∃ o', e = .returned (.slice (some ⟨g, o', none⟩) (l.drop n).length (l.drop n).length) ∧ Lf w g o' (l.drop n)) ∧ w = w' := by
  obtain ⟨o', hsl, hL⟩ : ∃ o', (∀ w, (Instr.slice 70 (.slice (some ⟨g, o, none⟩) l.length cap) (some (.int .i64 n)) (some (.int .i64 l.length)) (some (.int .i64 l.length))).run Tryz.prog w = .ok (.slice (some ⟨g, o', none⟩) (l.drop n).length (l.drop n).length) w) ∧ Lf w g o' (l.drop n) := by
    have h1 := fun w => run_slice_lhm (P := Tryz.prog) (w := w) (t := 70) (a := some ⟨g, o, none⟩) (len := l.length) (cap := cap) Tryz.underlying70 .i64 .i64 .i64 n l.length l.length (by omega) (by omega) (by omega) (by omega)
    have hs : ∀ w, (sizeOf (Tryz.prog.elem 70)).run Tryz.prog w = .ok 1 w := fun w => by kernel_rfl
    by_cases e : l.length = n
    · refine ⟨o, fun w => ?_, ?_⟩
      · rw [h1, hs]
        simp [Result.andThen, sliced, e]
      · rw [List.drop_of_length_le (by omega)]
        exact Lf.nil h.1
    · refine ⟨o + n, fun w => ?_, h.drop n⟩
      rw [h1, hs]
      simp [Result.andThen, sliced, e, Addr.add]
  generalize (l.drop n).length = M at *
  have n0 : (0 : Int) ≤ (n : Int) := Int.natCast_nonneg _
  have n1 : (n : Int) ≤ (l.length : Int) := by omega
  go_enter Tryz.func82, Tryz.ntmps82
  go_wp2
  go_ret
  exact ⟨⟨o', rfl, hL⟩, rfl⟩
set_option maxRecDepth 100000 in
set_option maxHeartbeats 4000000 in
theorem countName_any (g o : Nat) (l : List UInt8) (cap : Nat) (hl : l.length ≤ maxLen) (w : World) (h : Lf w g o l) :
    Calls Tryz.prog 80 #[.slice (some ⟨g, o, none⟩) l.length cap] w fun e w' => e = .returned (.int .i64 (nm l : Nat)) ∧ w = w' := by
  have HL := Lib.hid hl
  clear hl
  go_enter Tryz.func80, Tryz.ntmps80
  go_wp2
  go_loop [3] (fun i => ∃ k : Nat, k ≤ l.length ∧ i = .int .i64 k ∧ Hid (∀ (j : Nat) (hj : j < k), inNm j (l[j]?.getD 0) = true)) (fun i => l.length - (intOf i).toNat)
  case atStart => exact ⟨0, Nat.zero_le _, rfl, fun j hj => absurd hj (Nat.not_lt_zero _)⟩
  case round =>
    obtain ⟨k, hk, rfl, HK⟩ := hrel
    by_cases hlt : k < l.length
    · have hc := h.at_ hlt
      have wk : IntKind.i64.wrap ((k : Int) + 1) = (k : Int) + 1 := IntWalk.i64_in _ (by have h1 := HL.out; unfold maxLen at h1; omega)
      obtain ⟨c, hce⟩ : ∃ c : UInt8, l[k] = c := ⟨_, rfl⟩
      rw [hce] at hc
      have hgc : l[k]?.getD 0 = c := by rw [List.getElem?_eq_getElem hlt, hce]; rfl
      have c1 := fun w => letter_any c w
      have c2 := fun w => inName_any c w
      have k0 : (0 : Int) ≤ (k : Int) := Int.natCast_nonneg _
      have k1 : (k : Int) < (l.length : Int) := by omega
      have HN : Hid (inNm k c = true → ∀ (j : Nat) (hj : j < k + 1), inNm j (l[j]?.getD 0) = true) := by
        intro hin j hj
        by_cases e : j = k
        · subst e; rw [hgc]; exact hin
        · exact HK.out j (by omega)
      have HE : Hid (inNm k c = false → k = nm l) := by
        intro hin
        refine nm_uniq l k hk (fun j hj => ?_) (fun _ => by rw [hce]; exact hin)
        have := HK.out j hj
        rwa [List.getElem?_eq_getElem (by omega)] at this
      clear hgc hce h
      cases hL : isL c
      · rw [hL] at c1
        by_cases hz : k = 0
        · have hin : inNm k c = false := by unfold inNm; rw [hL, decide_eq_false (by omega)]; rfl
          have HR := Lib.hid (HE.out hin)
          have kp : decide ((0 : Int) < (k : Int)) = false := decide_eq_false (by omega)
          have kp2 : decide (0 < k) = false := decide_eq_false (by omega)
          clear HE HN HK hin hz
          go_wp2_with (go_at_call 88; (with_reducible refine (c1 _).mono ?_); rintro e w' ⟨rfl, rfl⟩)
          go_ret
          exact ⟨ret_int (by rw [HR.out]), rfl⟩
        · have kp : (0 : Int) < (k : Int) := by omega
          have kp2 : 0 < k := by omega
          have hin : inNm k c = isN c := by unfold inNm; rw [hL, decide_eq_true (by omega)]; simp
          cases hN : isN c
          · rw [hN] at c2 hin
            have HR := Lib.hid (HE.out hin)
            clear HE HN HK hin
            go_wp2_with (first
              | (go_at_call 88; (with_reducible refine (c1 _).mono ?_); rintro e w' ⟨rfl, rfl⟩)
              | (go_at_call 89; (with_reducible refine (c2 _).mono ?_); rintro e w' ⟨rfl, rfl⟩))
            go_ret
            exact ⟨ret_int (by rw [HR.out]), rfl⟩
          · rw [hN] at c2 hin
            have HR := Lib.hid (HN.out hin)
            clear HE HN HK hin
            go_wp2_with (first
              | (go_at_call 88; (with_reducible refine (c1 _).mono ?_); rintro e w' ⟨rfl, rfl⟩)
              | (go_at_call 89; (with_reducible refine (c2 _).mono ?_); rintro e w' ⟨rfl, rfl⟩))
            go_round
            case rel => exact ⟨k + 1, by omega, by go_num, HR⟩
            case measure => simp [intOf]; omega
      · rw [hL] at c1
        have hin : inNm k c = true := by unfold inNm; rw [hL]; rfl
        have HR := Lib.hid (HN.out hin)
        clear HE HN HK hin
        go_wp2_with (go_at_call 88; (with_reducible refine (c1 _).mono ?_); rintro e w' ⟨rfl, rfl⟩)
        go_round
        case rel => exact ⟨k + 1, by omega, by go_num, HR⟩
        case measure => simp [intOf]; omega
    · have hR : k = nm l := by
        refine nm_uniq l k hk (fun j hj => ?_) (fun h => absurd h hlt)
        have := HK.out j hj
        rwa [List.getElem?_eq_getElem (by omega)] at this
      have HR := Lib.hid hR
      clear hR
      go_wp2
      go_ret
      exact ⟨ret_int (by rw [HR.out]), rfl⟩
end Tok
end Go.Proofs.YthacboofbbfmlaaGreatDoor
