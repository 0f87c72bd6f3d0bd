/- What the document's own Same of layer 7 answers. Conditions: the lists lie in memory as they are read. -/
import Derived.Test.YthacboofbbfmlaaGreatDoorScanSpec
import Derived.Deep.QuietTactic
import Derived.BigQuiet
namespace Go.Proofs.YthacboofbbfmlaaGreatDoor
open Go.ChangeShapes Go.WideShapes Go.ChangeAt Go.RowKit
theorem toB_inj {x y : List UInt8} (h : toB x = toB y) : x = y := by
  unfold toB at h
  injection h with h
  have := congrArg Array.toList h
  simpa using this
theorem toB_ne {x y : List UInt8} (h : ¬ x = y) : ((toB x).toList == (toB y).toList) = false := by
  rw [ByteArray.toList_eq, ByteArray.toList_eq, beq_eq_false_iff_ne]
  intro e
  exact h (by simpa [toB] using e)
def sameS (xs ys : List (List UInt8)) : Bool := decide (xs = ys)
theorem strs_len (xs : List (List UInt8)) : (strs xs).length = xs.length := by unfold strs; simp
theorem strs_at {xs : List (List UInt8)} {k : Nat} {x : List UInt8} (h : xs[k]? = some x) : (strs xs)[k]? = some (.string (toB x)) := by unfold strs; rw [List.getElem?_map, h]; rfl
theorem take_one {α : Type} {xs : List α} {k : Nat} {x : α} (h : xs[k]? = some x) : xs.take (k + 1) = xs.take k ++ [x] := by
  rw [List.take_add_one, h]; rfl
/-- The cell of the text number k. -/
theorem text_of {w : World} {B n k : Nat} {A : Option Addr} {xs : List (List UInt8)} {x : List UInt8} (h : Reads w B 1 A n (strs xs)) (hk : xs[k]? = some x) :
    ∃ ad, A = some ad ∧ ad.block < B ∧ w.cell? (ad.add k) = some (.string (toB x)) := by
  have hl : xs.length = n := by have := h.1; rw [strs_len] at this; omega
  have hkl := (List.getElem?_eq_some_iff.1 hk).1
  obtain ⟨ad, e, hb, hc⟩ := h.2 (by omega)
  exact ⟨ad, e, hb, hc k _ (strs_at hk)⟩
set_option maxHeartbeats 4000000 in
theorem rsame_any (A B : Option Addr) (n c m d k0 k1 : Nat) (xs ys : List (List UInt8)) (w : World) (hx : Reads w k0 1 A n (strs xs)) (hy : Reads w k1 1 B m (strs ys)) (hn : n ≤ 17592186043904) (hm : m ≤ 17592186043904) :
    Calls Tryz.prog 29 #[.slice A n c, .slice B m d] w fun e w' => e = .returned (.bool (sameS xs ys)) ∧ ∃ q, w.drewN q = w' := by
  have lx : xs.length = n := by have := hx.1; rw [strs_len] at this; omega
  have ly : ys.length = m := by have := hy.1; rw [strs_len] at this; omega
  by_cases hnm : n = m
  · subst hnm
    obtain ⟨R, hR⟩ : ∃ R, sameS xs ys = R := ⟨_, rfl⟩
    rw [hR]
    have HR := Lib.hid hR
    clear hR
    go_enter Tryz.func29, Tryz.ntmps29
    go_wp2
    go_loopw [5] (fun i wr => ∃ k q : Nat, k ≤ n ∧ i = .int .i64 k ∧ wr = w.drewN q ∧ Hid (xs.take k = ys.take k)) (fun i _ => n - (intOf i).toNat)
    case atStart => exact ⟨0, 0, Nat.zero_le _, rfl, rfl, rfl⟩
    case round =>
      obtain ⟨k, q, hk, rfl, rfl, HT⟩ := hrel
      by_cases hlt : k < n
      · obtain ⟨x, hxe⟩ : ∃ x, xs[k]? = some x := ⟨xs[k], List.getElem?_eq_getElem (by omega)⟩
        obtain ⟨y, hye⟩ : ∃ y, ys[k]? = some y := ⟨ys[k], List.getElem?_eq_getElem (by omega)⟩
        obtain ⟨ad, rfl, -, ex⟩ := text_of hx hxe
        obtain ⟨bd, rfl, -, ey⟩ := text_of hy hye
        by_cases hxy : x = y
        · subst hxy
          have HT' : Hid (xs.take (k + 1) = ys.take (k + 1)) := by
            show xs.take (k + 1) = ys.take (k + 1)
            rw [take_one hxe, take_one hye, HT.out]
          clear hxe hye hx hy lx ly
          go_wp2
          go_quiet (fail)
          go_wp2
          go_roundw
          case rel => exact ⟨k + 1, _, by omega, by go_num, rfl, HT'⟩
          case measure => simp [intOf]; omega
        · have hne := toB_ne hxy
          have hF : R = false := by
            rw [← HR.out]
            unfold sameS
            refine decide_eq_false fun e => hxy ?_
            rw [e, hye] at hxe
            injection hxe with hxe
            exact hxe.symm
          subst hF
          clear hxe hye hx hy lx ly hxy
          go_wp2
          go_quiet (fail)
          go_wp2
          go_ret
          exact ⟨rfl, q + nq, by rw [World.drewN_drewN]⟩
      · have hT : R = true := by
          rw [← HR.out]
          unfold sameS
          refine decide_eq_true ?_
          have := HT.out
          rwa [List.take_of_length_le (by omega), List.take_of_length_le (by omega)] at this
        subst hT
        go_wp2
        go_ret
        exact ⟨rfl, _, rfl⟩
  · have hF : sameS xs ys = false := by
      unfold sameS
      refine decide_eq_false fun e => hnm ?_
      rw [← lx, ← ly, e]
    rw [hF]
    have hne : ¬ ((n : Int) = m) := by omega
    clear hF hx hy lx ly
    go_enter Tryz.func29, Tryz.ntmps29
    go_wp2
    go_ret
    exact ⟨rfl, 0, rfl⟩
end Go.Proofs.YthacboofbbfmlaaGreatDoor
