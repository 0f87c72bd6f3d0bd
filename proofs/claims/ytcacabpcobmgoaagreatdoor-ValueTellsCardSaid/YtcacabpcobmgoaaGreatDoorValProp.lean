/- What Prop answers, of the landed code of package value. Conditions: the text is not too long. -/
import Derived.Test.YtcacabpcobmgoaaGreatDoorValSortOf
namespace Go.Proofs.YtcacabpcobmgoaaGreatDoor
open Go.ChangeShapes Go.WideShapes Go.ChangeAt Go.RowKit
namespace Val
theorem toB_eq {l : List UInt8} {s : ByteArray} : (toB l).toList == s.toList ↔ l = s.data.toList := by
  rw [beq_iff_eq, ByteArray.toList_eq, ByteArray.toList_eq]
  unfold toB
  rfl
theorem prop_none {l : List UInt8} (h : ∀ j : Nat, 1 ≤ j → j < 27 → nameP (j : Int) ≠ l) : propP l = 0 := by
  obtain ⟨h1, h2, h3⟩ := name_prop l
  by_cases h0 : propP l = 0
  · exact h0
  · have h4 := h3 h0
    exact absurd (by rw [show ((propP l).toNat : Int) = propP l by omega]; exact h4) (h (propP l).toNat (by omega) (by omega))
set_option maxHeartbeats 4000000 in
set_option maxRecDepth 100000 in
theorem prop_any : PropC := by
  intro s w _
  obtain ⟨R, hR⟩ : ∃ R, R = propP s.data.toList := ⟨_, rfl⟩
  rw [← hR]
  have HR := Lib.hid hR
  clear hR
  go_enter Tryz.func10, Tryz.ntmps10
  go_wp2_with (first
    | (go_at_call 28; (with_reducible refine (sorts_any _).mono ?_); rintro e w1 ⟨rfl, hb⟩))
  go_loopw [6] (fun i wr => ∃ k : Nat, k ≤ 27 ∧ i = .int .i64 k ∧ Hid (∀ j : Nat, 1 ≤ j → j < k → nameP (j : Int) ≠ s.data.toList) ∧ Below w.heap.size w wr) (fun i _ => 27 - (intOf i).toNat)
  case atStart => exact ⟨0, Nat.zero_le _, rfl, fun j _ h => absurd h (by omega), hb⟩
  case round =>
    obtain ⟨k, hk, rfl, HK, hBr⟩ := hrel
    clear hb
    by_cases hlt : k < 27
    · have hx := fun w => row_at (k : Int) (by omega) (by omega) w
      unfold sortCells at hx
      have hm := toB_eq (l := nameP (k : Int)) (s := s)
      by_cases hk0 : k = 0
      · subst hk0
        have HK' : Hid (∀ j : Nat, 1 ≤ j → j < 0 + 1 → nameP (j : Int) ≠ s.data.toList) := fun j h1 h2 => absurd h2 (by omega)
        clear hx
        have hx := fun w => row_at 0 (by omega) (by omega) w
        unfold sortCells at hx
        generalize toB (nameP 0) = a1 at *
        generalize kindsN 0 = a2 at *
        generalize leastN 0 = a3 at *
        generalize toB (wordsB 0) = a4 at *
        generalize (firstP 0).1 = a5 at *
        generalize (firstP 0).2 = a6 at *
        clear hm
        go_wp2
        go_roundw
        case rel => exact ⟨0 + 1, by omega, by go_num, HK', below_al hBr _⟩
        case measure => simp [intOf]
      · cases hb1 : ((toB (nameP (k : Int))).toList == s.toList) with
        | true =>
          have he := hm.1 hb1
          have hres : propP s.data.toList = (k : Int) := by rw [← he]; exact prop_name (by omega) (by omega)
          obtain rfl : R = (k : Int) := HR.out.trans hres
          clear hm he hres HK HR
          generalize toB (nameP (k : Int)) = a1 at *
          generalize kindsN (k : Int) = a2 at *
          generalize leastN (k : Int) = a3 at *
          generalize toB (wordsB (k : Int)) = a4 at *
          generalize (firstP (k : Int)).1 = a5 at *
          generalize (firstP (k : Int)).2 = a6 at *
          go_wp2
          go_ret
          exact ⟨rfl, below_al hBr _⟩
        | false =>
          have hne : nameP (k : Int) ≠ s.data.toList := fun h => by rw [hm.2 h] at hb1; cases hb1
          have HK' : Hid (∀ j : Nat, 1 ≤ j → j < k + 1 → nameP (j : Int) ≠ s.data.toList) := by
            intro j h1 h2
            by_cases e : j = k
            · subst e; exact hne
            · exact HK.out j h1 (by omega)
          clear hm hne HK
          generalize toB (nameP (k : Int)) = a1 at *
          generalize kindsN (k : Int) = a2 at *
          generalize leastN (k : Int) = a3 at *
          generalize toB (wordsB (k : Int)) = a4 at *
          generalize (firstP (k : Int)).1 = a5 at *
          generalize (firstP (k : Int)).2 = a6 at *
          go_wp2
          go_roundw
          case rel => exact ⟨k + 1, by omega, by go_num, HK', below_al hBr _⟩
          case measure => simp [intOf]; omega
    · obtain rfl : k = 27 := by omega
      obtain rfl : R = 0 := HR.out.trans (prop_none HK.out)
      go_wp2
      go_ret
      exact ⟨rfl, hBr⟩
end Val
end Go.Proofs.YtcacabpcobmgoaaGreatDoor
