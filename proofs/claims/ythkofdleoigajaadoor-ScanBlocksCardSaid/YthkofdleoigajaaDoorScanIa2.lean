/- What strings.IndexAny tells of braces, in any short text. Conditions: the text is not too long. -/
import Derived.Test.YthkofdleoigajaaDoorScanIa
import Derived.Lib.OthersKept
namespace Go.Proofs.YthkofdleoigajaaDoor
open Go.ChangeShapes Go.WideShapes Go.ChangeAt Go.RowKit Go.Shelf
set_option maxRecDepth 100000 in
set_option maxHeartbeats 8000000 in
theorem ia_short (s : ByteArray) (h8 : s.size ≤ 8) (w : World) :
    Calls Tryd.prog 36 #[.string s, .string ⟨#[123, 125]⟩] w fun e w' => e = .returned (.int .i64 (Lib.indexAny s.data.toList [123, 125])) ∧ Below w.heap.size w w' := by
  obtain ⟨R, hR⟩ : ∃ R, Lib.indexAny s.data.toList [123, 125] = R := ⟨_, rfl⟩
  rw [hR]
  have HR := Lib.hid hR
  clear hR
  have cs := fun w => Tryd.strings_shouldUseASCIISet (s.size : Int) w
  have d8 : decide ((8 : Int) < (s.size : Int)) = false := decide_eq_false (by omega)
  go_enter Tryd.func36, Tryd.ntmps36
  go_wp2_with (go_at_call 49; (with_reducible refine (cs _).mono ?_); rintro e w' ⟨rfl, hw⟩; rw [hw, d8])
  go_loopw [] (fun wr => ∃ p : Nat, p ≤ s.size ∧ wr.heap[w.heap.size]? = some (.stringIter s p) ∧ Below w.heap.size w wr ∧ Hid (noB (s.data.toList.take p))) (fun wr => s.size - wr.iterPos w.heap.size)
  case atStart => exact ⟨0, Nat.zero_le _, World.iter_heap w s 0, below_al (Below.refl _ _) _, fun c hc => by simp at hc⟩
  case round =>
    obtain ⟨p, hp, hit, hB, HN⟩ := hrel
    have hit2 := fun q => Lib.iterAt_heap wr w.heap.size s p q hit
    have hB2 := fun q => Lib.below_iterAt hB (k := w.heap.size) (Nat.le_refl _) s q
    have hlt2 : ∀ q, w.heap.size < (wr.iterAt w.heap.size s q).heap.size := fun q => (Array.getElem?_eq_some_iff.1 (hit2 q)).1
    have hmw : wr.iterPos w.heap.size = p := by simp [World.iterPos, hit]
    by_cases hlt : p < s.size
    · have hlt' : p < s.data.toList.length := by rw [size_list]; exact hlt
      obtain ⟨c, hce⟩ : ∃ c : UInt8, s.data.toList[p] = c := ⟨_, rfl⟩
      have hsc : s[p]'hlt = c := hce
      have hsplit : s.data.toList = s.data.toList.take p ++ c :: s.data.toList.drop (p + 1) := by
        conv => lhs; rw [← List.take_append_drop p s.data.toList]
        rw [List.drop_eq_getElem_cons hlt', hce]
      have hpl : (s.data.toList.take p).length = p := by rw [List.length_take, size_list]; omega
      by_cases h128 : c.toNat < 128
      · have hnx := fun ty => Lib.run_next_ascii_at (P := Tryd.prog) wr w.heap.size s p ty hit hlt (by rw [hsc]; exact h128)
        simp only [hsc] at hnx
        have ci := fun w => Tryd.strings_IndexRune_ascii ⟨#[123, 125]⟩ (c.toNat : Int) w (by omega) (by omega)
        have hb : ((c.toNat : Int)).toNat.toUInt8 = c := by simp
        rw [hb] at ci
        change ∀ w, Calls _ _ _ w (fun e w' => e = .returned (.int .i64 (Lib.indexByte [123, 125] c)) ∧ w' = w) at ci
        have hcon := Lib.contains_iff_indexByte [123, 125] c
        rw [braces_c] at hcon
        by_cases hc : c = 123 ∨ c = 125
        · rw [decide_eq_true hc] at hcon
          have hge : (0 : Int) ≤ Lib.indexByte [123, 125] c := of_decide_eq_true hcon.symm
          have HA : Hid (R = (p : Int)) := by
            show R = (p : Int)
            rw [← HR.out, hsplit, ia_hit HN.out hc, hpl]
          clear hcon hsplit HR HN hce
          generalize Lib.indexByte [123, 125] c = ix at *
          go_wp2_with (go_at_call 48; (with_reducible refine (ci _).mono ?_); rintro e w' ⟨rfl, rfl⟩)
          go_ret
          exact ⟨by rw [HA.out]; rfl, hB2 _⟩
        · rw [decide_eq_false hc] at hcon
          have hlt0 : Lib.indexByte [123, 125] c < 0 := by have := of_decide_eq_false hcon.symm; omega
          have HN' : Hid (noB (s.data.toList.take (p + 1))) := by
            intro d hd
            rw [List.take_succ_eq_append_getElem hlt', hce] at hd
            rcases List.mem_append.1 hd with h | h
            · exact HN.out d h
            · obtain rfl := List.mem_singleton.1 h
              exact ⟨fun e => hc (.inl e), fun e => hc (.inr e)⟩
          clear hcon hsplit HN hce
          generalize Lib.indexByte [123, 125] c = ix at *
          go_wp2_with (go_at_call 48; (with_reducible refine (ci _).mono ?_); rintro e w' ⟨rfl, rfl⟩)
          go_roundw
          case rel => exact ⟨p + 1, by omega, hit2 _, hB2 _, HN'⟩
          case measure => rw [hmw]; simp only [World.iterPos, hit2 (p + 1)]; omega
      · have hnx := fun ty => Lib.run_next_any_at (P := Tryd.prog) wr w.heap.size s p ty hit hlt
        obtain ⟨hle, hbs⟩ := high_bytes s p hlt (by rw [hce]; omega)
        obtain ⟨hr0, hw1⟩ := decode_high s p hlt (by rw [hsc]; omega)
        have hr1 := Lib.rune_le s p
        generalize Utf8.decode s p = dd at *
        obtain ⟨r, wd⟩ := dd
        simp only at hle hbs hr0 hw1 hr1 hnx
        have ci := fun w => ir_high (r : Int) (by omega) (by omega) w
        have HN' : Hid (noB (s.data.toList.take (p + wd))) := by
          intro d hd
          obtain ⟨j, hj⟩ := List.mem_iff_getElem?.1 hd
          have hjl := (List.getElem?_eq_some_iff.1 hj).1
          rw [List.length_take] at hjl
          rw [List.getElem?_take_of_lt (by omega)] at hj
          by_cases hjp : j < p
          · refine HN.out d (List.mem_iff_getElem?.2 ⟨j, ?_⟩)
            rw [List.getElem?_take_of_lt hjp]; exact hj
          · have := hbs j d (by omega) (by omega) hj
            constructor <;> (intro e; subst e; revert this; decide)
        clear hbs hsplit HN hce hsc
        go_wp2_with (go_at_call 48; (with_reducible refine (ci _).mono ?_); rintro e w' ⟨rfl, hb⟩)
        have hit3 : w'.heap[w.heap.size]? = some (.stringIter s (p + wd)) := (hb.block _ (hlt2 _)).trans (hit2 _)
        go_roundw
        case rel => exact ⟨p + wd, by omega, hit3, (hB2 _).trans (hb.mono (Nat.le_of_lt (hlt2 _))), HN'⟩
        case measure => rw [hmw]; simp only [World.iterPos, hit3]; omega
    · obtain rfl : p = s.size := by omega
      have hnx := fun ty => Lib.run_next_end_at (P := Tryd.prog) wr w.heap.size s s.size ty hit (by omega)
      have HA : Hid (R = -1) := by
        show R = -1
        have := HN.out
        rw [List.take_of_length_le (by rw [size_list]; exact Nat.le_refl _)] at this
        rw [← HR.out, ia_miss this]
      go_wp2
      go_ret
      exact ⟨by rw [HA.out]; rfl, hB⟩
end Go.Proofs.YthkofdleoigajaaDoor
