/- Where a text stands in a list of texts, as Go's own slices.Index answers it. Conditions: the list is short. -/
import Derived.Test.YtfamhjmdffaphaaGreatDoorValBase
import Derived.Test.YtfamhjmdffaphaaGreatDoorValSpec
import Derived.Test.YtfamhjmdffaphaaGreatDoorKit
import Derived.Lib.SlicesS
namespace Go.Proofs.YtfamhjmdffaphaaGreatDoor
open Go.ChangeShapes Go.WideShapes Go.ChangeAt Go.RowKit
namespace Val
def ixV (r : Option Nat) : Int := match r with
  | some i => i
  | none => -1
theorem text_eq {s : ByteArray} {x : List UInt8} (h : x = s.data.toList) : s = toB x := by
  subst h
  exact bytes_inj rfl
theorem text_ne {s : ByteArray} {x : List UInt8} (h : ¬ x = s.data.toList) : (s.toList == (toB x).toList) = false := by
  refine (Lib.bytes_beq_false_iff _ _).2 ?_
  rintro rfl
  exact h rfl
set_option maxHeartbeats 4000000 in
theorem index_any (ws : List (List UInt8)) (A : Option Addr) (n cp : Nat) (s : ByteArray) (w : World) (hn : n ≤ 1000) (hr : Reads w w.heap.size 1 A n (strs ws)) :
    Calls Tryz.prog 41 #[.slice A n cp, .string s] w fun e w' => e = .returned (.int .i64 (ixV (idxOf s.data.toList ws 0))) ∧ w = w' := by
  have hl : ws.length = n := by have h := hr.1; rw [show (strs ws).length = ws.length from by unfold strs; simp] at h; omega
  obtain ⟨R, hR⟩ : ∃ R, R = idxOf s.data.toList ws 0 := ⟨_, rfl⟩
  rw [← hR]
  go_enter Tryz.func41, Tryz.ntmps41
  go_wp2
  go_loop [5, 8] (fun _ i => ∃ k : Nat, k ≤ n ∧ i = .int .i64 k ∧ Hid (R = idxOf s.data.toList (ws.drop k) k)) (fun _ i => n - (intOf i).toNat)
  case atStart => exact ⟨0, Nat.zero_le _, rfl, Lib.hid hR⟩
  case round =>
    obtain ⟨k, hk, rfl, HR⟩ := hrel
    by_cases hlt : k < n
    · obtain ⟨ad, u, rfl, had, hu, hc⟩ := hr.at_ hlt
      have hkl : k < ws.length := by omega
      obtain ⟨x, hx⟩ : ∃ x, x = ws[k] := ⟨_, rfl⟩
      have hd : ws.drop k = x :: ws.drop (k + 1) := by rw [hx]; exact List.drop_eq_getElem_cons hkl
      obtain rfl : Value.string (toB x) = u := by
        unfold strs at hu
        rw [List.getElem?_map, List.getElem?_eq_getElem hkl, ← hx] at hu
        injection hu
      have kl : (k : Int) < (n : Int) := by omega
      have k0 : (0 : Int) ≤ (k : Int) := by omega
      by_cases he : x = s.data.toList
      · have hs := text_eq he
        have hR1 : R = some k := by
          rw [HR.out, hd, idxOf, if_pos he]
        subst hR1
        have hq : (s.toList == (toB x).toList) = true := (Lib.bytes_beq_iff _ _).2 hs
        clear hR HR hd hx he hu hkl hl hs
        go_wp2
        go_ret
        exact ⟨rfl, rfl⟩
      · have hb := text_ne he
        have hR1 : R = idxOf s.data.toList (ws.drop (k + 1)) (k + 1) := by
          rw [HR.out, hd, idxOf, if_neg he]
        have HR1 := Lib.hid hR1
        clear hR HR hd hx he hu hkl hl hR1
        go_wp2
        go_round
        case rel => exact ⟨k + 1, by omega, by go_num, HR1⟩
        case measure => simp [intOf]; omega
    · obtain rfl : k = n := by omega
      have hR1 : R = none := by
        rw [HR.out, List.drop_of_length_le (by omega), idxOf]
      subst hR1
      clear hR HR hl
      go_wp2
      go_ret
      exact ⟨rfl, rfl⟩
end Val
end Go.Proofs.YtfamhjmdffaphaaGreatDoor
