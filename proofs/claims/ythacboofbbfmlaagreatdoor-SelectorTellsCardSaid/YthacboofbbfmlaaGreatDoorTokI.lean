/- token.Name. Conditions: the text has at most a million bytes. -/
import Derived.Test.YthacboofbbfmlaaGreatDoorTokB
namespace Go.Proofs.YthacboofbbfmlaaGreatDoor
open Go.ChangeShapes Go.WideShapes Go.ChangeAt Go.RowKit
namespace Tok
theorem toB_beq2 (a b : List UInt8) : ((toB a).toList == (toB b).toList) = (a == b) := by rw [ByteArray.toList_eq, ByteArray.toList_eq]; rfl
theorem nameB_none {l : List UInt8} (h : nameP l = none) : nameB l = false := by unfold nameB; rw [h]; rfl
theorem nameB_some {l n r : List UInt8} (h : nameP l = some (n, r)) : nameB l = (n == l) := by
  unfold nameB
  rw [h]
  by_cases e : n = l
  · subst e
    have hr : r = [] := by
      unfold nameP at h
      split at h
      · cases h
      · injection h with h
        injection h with h1 h2
        have := congrArg List.length h1
        rw [low_len, List.length_take] at this
        rw [← h2]
        exact List.drop_of_length_le (by omega)
    subst hr
    simp
  · have : (n == l) = false := beq_eq_false_iff_ne.2 e
    rw [this]
    simp [e]
set_option maxRecDepth 100000 in
set_option maxHeartbeats 4000000 in
theorem name_any (l : List UInt8) (hl : l.length ≤ maxLen) (w : World) :
    Calls Tryz.prog 46 #[.string (toB l)] w fun e w' => e = .returned (.bool (nameB l)) ∧ Below w.heap.size w w' := by
  obtain ⟨E, c0, hrun, hc0, hL0, hB0, hz0⟩ := run_bytes l w
  have cn := readName_any w.heap.size (.slice (some ⟨w.heap.size, 0, none⟩) l.length c0) l hl E ⟨0, c0, rfl, hc0, hL0⟩
  have hb := fun n => toB_beq2 n l
  clear hl
  cases hn : nameP l with
  | none =>
    rw [hn] at cn
    have cn2 : Calls Tryz.prog 68 #[.slice (some ⟨w.heap.size, 0, none⟩) l.length c0] E fun e w' => e = .returned (.tuple #[.string ⟨#[]⟩, .slice none 0 0, .bool false]) ∧ Below E.heap.size E w' := cn
    rw [nameB_none hn]
    clear hn cn hL0 hb
    generalize toB l = s at *
    go_enter Tryz.func46, Tryz.ntmps46
    go_wp2_with (go_at_call 68; (with_reducible refine cn2.mono ?_); rintro e w2 ⟨rfl, hb2⟩)
    go_ret
    exact ⟨rfl, below_next hB0 hb2⟩
  | some x =>
    obtain ⟨n, r⟩ := x
    rw [hn] at cn
    have cn2 : Calls Tryz.prog 68 #[.slice (some ⟨w.heap.size, 0, none⟩) l.length c0] E fun e w' => (∃ v, e = .returned (.tuple #[.string (toB n), v, .bool true]) ∧ LfV w' w.heap.size v r) ∧ Below E.heap.size E w' := cn
    rw [nameB_some hn]
    have hb1 := hb n
    generalize (n == l) = R at *
    clear hn cn hL0 hb
    generalize toB l = s at *
    generalize toB n = t at *
    go_enter Tryz.func46, Tryz.ntmps46
    go_wp2_with (go_at_call 68; (with_reducible refine cn2.mono ?_); rintro e w2 ⟨⟨v, rfl, -⟩, hb2⟩)
    go_ret
    exact ⟨by rw [← hb1]; rfl, below_next hB0 hb2⟩
end Tok
end Go.Proofs.YthacboofbbfmlaaGreatDoor
