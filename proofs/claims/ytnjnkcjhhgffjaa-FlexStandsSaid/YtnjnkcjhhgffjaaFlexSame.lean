/- What same of layer 18's laws, and Same of the document's layer 11, answer. Conditions: both lists lie in memory as they are read. -/
import Derived.Test.YtnjnkcjhhgffjaaFlexJ
import Derived.Test.YtnjnkcjhhgffjaaFlexK3
namespace Go.Proofs.Ytnjnkcjhhgffjaa
open Go.ChangeShapes Go.WideShapes Go.ChangeAt Go.RowKit
set_option maxHeartbeats 8000000 in
set_option maxRecDepth 100000 in
theorem same_any (A B : Option Addr) (n m c d k0 k1 : Nat) (l r : List Int) (w : World) (ha : Reads w k0 1 A n (l.map (Value.int .i64))) (hb : Reads w k1 1 B m (r.map (Value.int .i64))) (hn : n ≤ 4611686018427387904) (hm : m ≤ 4611686018427387904) :
    Calls Try.prog 26 #[.slice A n c, .slice B m d] w fun e w' => e = .returned (.bool (decide (l = r))) ∧ ∃ q, w' = w.drewN q := by
  have hl : l.length = n := by have := ha.1; simpa using this
  have hr : r.length = m := by have := hb.1; simpa using this
  obtain ⟨R, hR⟩ : ∃ R, R = decide (l = r) := ⟨_, rfl⟩
  rw [← hR]
  have HR := Lib.hid hR
  clear hR
  by_cases hnm : n = m
  · subst hnm
    have HL := Lib.hid hl
    have HM := Lib.hid hr
    clear hl hr
    go_enter Try.func26, Try.ntmps26
    go_wp2
    go_loopw [13] (fun i wr => ∃ (k q : Nat), k ≤ n ∧ i = .int .i64 k ∧ Hid (∀ j, j < k → l[j]? = r[j]?) ∧ wr = w.drewN q) (fun i _ => n - (intOf i).toNat)
    case atStart => exact ⟨0, 0, Nat.zero_le _, rfl, Lib.hid (fun j h => absurd h (by omega)), rfl⟩
    case round =>
      obtain ⟨k, q, hk, rfl, hK, rfl⟩ := hrel
      by_cases hlt : k < n
      · obtain ⟨ad, u, rfl, hab, hx, hc1⟩ := ha.at_ hlt
        obtain ⟨be, v, rfl, hbb, hy, hc2⟩ := hb.at_ hlt
        have hkl : k < l.length := by rw [HL.out]; exact hlt
        have hkr : k < r.length := by rw [HM.out]; exact hlt
        obtain rfl : u = .int .i64 l[k] := by rw [List.getElem?_map, List.getElem?_eq_getElem hkl] at hx; simpa using hx.symm
        obtain rfl : v = .int .i64 r[k] := by rw [List.getElem?_map, List.getElem?_eq_getElem hkr] at hy; simpa using hy.symm
        have hno : l[k] ≠ r[k] → R = false := fun h => by rw [HR.out]; exact decide_eq_false (fun e => h (by subst e; rfl))
        have hyes : l[k] = r[k] → ∀ j, j < k + 1 → l[j]? = r[j]? := fun h j hj => by
          by_cases e : j = k
          · subst e; rw [List.getElem?_eq_getElem hkl, List.getElem?_eq_getElem hkr, h]
          · exact hK.out j (by omega)
        have hno := Lib.hid hno
        have hyes := Lib.hid hyes
        have k0 : (0 : Int) ≤ (k : Int) := Int.natCast_nonneg _
        have k1 : (k : Int) < (n : Int) := by omega
        clear hx hy hK
        generalize l[k] = x at *
        generalize r[k] = y at *
        by_cases hxy : x = y
        · have hY := Lib.hid (hyes.out hxy)
          subst hxy
          clear hno hyes
          go_wp2
          go_quiet (fail)
          go_wp2
          go_roundw
          case rel => exact ⟨k + 1, _, by omega, by go_num, hY, rfl⟩
          case measure => simp [intOf]; omega
        · have hN := hno.out hxy
          subst hN
          clear hno hyes
          go_wp2
          go_quiet (fail)
          go_wp2
          go_ret
          exact ⟨rfl, q + nq, by rw [World.drewN_drewN]⟩
      · obtain rfl : k = n := by omega
        have hT : R = true := by
          rw [HR.out]
          refine decide_eq_true (List.ext_getElem? fun j => ?_)
          by_cases hj : j < k
          · exact hK.out j hj
          · rw [List.getElem?_eq_none (by rw [HL.out]; omega), List.getElem?_eq_none (by rw [HM.out]; omega)]
        subst hT
        go_wp2
        go_ret
        exact ⟨rfl, _, rfl⟩
  · have hF : R = false := by rw [HR.out]; exact decide_eq_false (fun e => hnm (by rw [← hl, ← hr, e]))
    subst hF
    have b1 : ((n : Int) == (m : Int)) = false := by simp; omega
    clear hl hr HR
    go_enter Try.func26, Try.ntmps26
    go_wp2
    go_ret
    exact ⟨rfl, 0, rfl⟩
set_option maxHeartbeats 8000000 in
set_option maxRecDepth 100000 in
theorem same11_any (A B : Option Addr) (n m c d k0 k1 : Nat) (l r : List Int) (w : World) (ha : Reads w k0 1 A n (l.map (Value.int .i64))) (hb : Reads w k1 1 B m (r.map (Value.int .i64))) (hn : n ≤ 4611686018427387904) (hm : m ≤ 4611686018427387904) :
    Calls Try.prog 27 #[.slice A n c, .slice B m d] w fun e w' => e = .returned (.bool (decide (l = r))) ∧ ∃ q, w' = w.drewN q := by
  have hl : l.length = n := by have := ha.1; simpa using this
  have hr : r.length = m := by have := hb.1; simpa using this
  obtain ⟨R, hR⟩ : ∃ R, R = decide (l = r) := ⟨_, rfl⟩
  rw [← hR]
  have HR := Lib.hid hR
  clear hR
  by_cases hnm : n = m
  · subst hnm
    have HL := Lib.hid hl
    have HM := Lib.hid hr
    clear hl hr
    go_enter Try.func27, Try.ntmps27
    go_wp2
    go_loopw [5] (fun i wr => ∃ (k q : Nat), k ≤ n ∧ i = .int .i64 k ∧ Hid (∀ j, j < k → l[j]? = r[j]?) ∧ wr = w.drewN q) (fun i _ => n - (intOf i).toNat)
    case atStart => exact ⟨0, 0, Nat.zero_le _, rfl, Lib.hid (fun j h => absurd h (by omega)), rfl⟩
    case round =>
      obtain ⟨k, q, hk, rfl, hK, rfl⟩ := hrel
      by_cases hlt : k < n
      · obtain ⟨ad, u, rfl, hab, hx, hc1⟩ := ha.at_ hlt
        obtain ⟨be, v, rfl, hbb, hy, hc2⟩ := hb.at_ hlt
        have hkl : k < l.length := by rw [HL.out]; exact hlt
        have hkr : k < r.length := by rw [HM.out]; exact hlt
        obtain rfl : u = .int .i64 l[k] := by rw [List.getElem?_map, List.getElem?_eq_getElem hkl] at hx; simpa using hx.symm
        obtain rfl : v = .int .i64 r[k] := by rw [List.getElem?_map, List.getElem?_eq_getElem hkr] at hy; simpa using hy.symm
        have hno : l[k] ≠ r[k] → R = false := fun h => by rw [HR.out]; exact decide_eq_false (fun e => h (by subst e; rfl))
        have hyes : l[k] = r[k] → ∀ j, j < k + 1 → l[j]? = r[j]? := fun h j hj => by
          by_cases e : j = k
          · subst e; rw [List.getElem?_eq_getElem hkl, List.getElem?_eq_getElem hkr, h]
          · exact hK.out j (by omega)
        have hno := Lib.hid hno
        have hyes := Lib.hid hyes
        have k0 : (0 : Int) ≤ (k : Int) := Int.natCast_nonneg _
        have k1 : (k : Int) < (n : Int) := by omega
        clear hx hy hK
        generalize l[k] = x at *
        generalize r[k] = y at *
        by_cases hxy : x = y
        · have hY := Lib.hid (hyes.out hxy)
          subst hxy
          clear hno hyes
          go_wp2
          go_quiet (fail)
          go_wp2
          go_roundw
          case rel => exact ⟨k + 1, _, by omega, by go_num, hY, rfl⟩
          case measure => simp [intOf]; omega
        · have hN := hno.out hxy
          subst hN
          clear hno hyes
          go_wp2
          go_quiet (fail)
          go_wp2
          go_ret
          exact ⟨rfl, q + nq, by rw [World.drewN_drewN]⟩
      · obtain rfl : k = n := by omega
        have hT : R = true := by
          rw [HR.out]
          refine decide_eq_true (List.ext_getElem? fun j => ?_)
          by_cases hj : j < k
          · exact hK.out j hj
          · rw [List.getElem?_eq_none (by rw [HL.out]; omega), List.getElem?_eq_none (by rw [HM.out]; omega)]
        subst hT
        go_wp2
        go_ret
        exact ⟨rfl, _, rfl⟩
  · have hF : R = false := by rw [HR.out]; exact decide_eq_false (fun e => hnm (by rw [← hl, ← hr, e]))
    subst hF
    have b1 : ((n : Int) == (m : Int)) = false := by simp; omega
    clear hl hr HR
    go_enter Try.func27, Try.ntmps27
    go_wp2
    go_ret
    exact ⟨rfl, 0, rfl⟩
end Go.Proofs.Ytnjnkcjhhgffjaa
