/- What scan's own Strip answers. Conditions: the text is not too long; bytealg.MaxLen holds some number. -/
import Derived.Test.YtdfcahdipalmkaaGreatDoorScanTrimC
import Derived.Test.YtdfcahdipalmkaaGreatDoorRx7Split
namespace Go.Proofs.YtdfcahdipalmkaaGreatDoor
open Go.ChangeShapes Go.WideShapes Go.ChangeAt Go.RowKit
def Bld (w : World) (B b : Nat) (l : List UInt8) : Prop := Lib.IsBuilderF 93 5 B b (Lib.byteCells l) w
/-- What strings.Cut tells, as texts. -/
theorem ccut_any (s sep : ByteArray) (w : World) (hL : Lens w) (hs : s.size ≤ mostB) :
    Calls Tryz.prog 50 #[.string s, .string sep] w fun e w' => e = .returned (.tuple #[.string (toB (Lib.cut s.data.toList sep.data.toList).1), .string (toB (Lib.cut s.data.toList sep.data.toList).2.1), .bool (Lib.cut s.data.toList sep.data.toList).2.2]) ∧ ∃ q, w.drewN q = w' := by
  obtain ⟨m, hm⟩ := hL
  unfold mostB at hs
  exact (Tryz.strings_Cut s sep m w (by omega) hm).mono (by
    rintro e w' ⟨h1, q, h2⟩
    exact ⟨h1, q, h2.symm⟩)
set_option maxHeartbeats 4000000 in
theorem strip_any : StripC := by
  intro s w hL hs
  unfold mostB at hs
  obtain ⟨R, hR⟩ : ∃ R, onB stripL s = R := ⟨_, rfl⟩
  rw [hR]
  have HR := Lib.hid hR
  clear hR
  have hF : Bld (w.alloc (.cells #[.pointer none, .slice none 0 0] 93)) w.heap.size w.heap.size [] := Lib.IsBuilderF.of (Lib.fresh_isBuilder 93 5 w)
  have hB0 : Below w.heap.size w (w.alloc (.cells #[.pointer none, .slice none 0 0] 93)) := below_al (Below.refl _ _) _
  go_enter Tryz.func25, Tryz.ntmps25
  go_wp2
  go_loopw [0] (fun v wr => ∃ (t : ByteArray) (l : List UInt8), v = .string t ∧ l.length + t.size ≤ s.size ∧ Bld wr w.heap.size w.heap.size l ∧ Below w.heap.size w wr ∧ Hid (stripL s.data.toList = l ++ stripL t.data.toList)) (fun v _ => match v with | .string t => t.size | _ => 0)
  case atStart => exact ⟨s, [], rfl, by simp, hF, hB0, rfl⟩
  case round =>
    obtain ⟨t, l, rfl, hlt, hI, hB, HS⟩ := hrel
    clear hF hB0
    have hle := hB.size
    have c1 := fun w hl => ccut_any t ⟨#[47, 42]⟩ w hl (by unfold mostB; omega)
    have hst := strip_cut t.data.toList.length t.data.toList (Nat.le_refl _)
    have hcl := cut_len t.data.toList [47, 42]
    have hcb := cut_both t.data.toList [47, 42] (by simp)
    have hcm := cut_miss t.data.toList [47, 42]
    change ∀ w, Lens w → Calls _ _ #[.string t, .string ⟨#[47, 42]⟩] w (fun e w' => e = .returned (.tuple #[.string (toB (Lib.cut t.data.toList [47, 42]).1), .string (toB (Lib.cut t.data.toList [47, 42]).2.1), .bool (Lib.cut t.data.toList [47, 42]).2.2]) ∧ ∃ q, w.drewN q = w') at c1
    generalize Lib.cut t.data.toList [47, 42] = ct at *
    obtain ⟨x, y, f⟩ := ct
    have hLr := hL.of hB
    have xs := toB_size x
    have ys := toB_size y
    rw [size_list] at hcl
    have hx := hcl.1
    have hy := hcl.2
    have dx : (toB x).data.toList = x := rfl
    have dy : (toB y).data.toList = y := rfl
    simp only at hst hcb hx hy hcm
    rw [size_list] at hcb
    simp only [List.length_cons, List.length_nil] at hcb
    have cw : ∀ (l q : List UInt8) (w0 : World), Bld w0 w.heap.size w.heap.size l → l.length + q.length ≤ 1000000 → w.heap.size ≤ w0.heap.size →
        Calls Tryz.prog 40 #[.pointer (some ⟨w.heap.size, 0, none⟩), .string (toB q)] w0 fun e w' => e = .returned (.tuple #[.int .i64 (toB q).size, .nilIface]) ∧ Bld w' w.heap.size w.heap.size (l ++ q) ∧ Below w.heap.size w0 w' :=
      fun l q w0 hI hlen h0 => Tryz.Builder_WriteString_b w.heap.size w.heap.size l (toB q) w0 hI (by rw [toB_size]; omega) h0
    have cb : ∀ (l : List UInt8) (w0 : World), Bld w0 w.heap.size w.heap.size l → l.length ≤ 1000000 → w.heap.size ≤ w0.heap.size →
        Calls Tryz.prog 51 #[.pointer (some ⟨w.heap.size, 0, none⟩), .int .u8 32] w0 fun e w' => e = .returned .nilIface ∧ Bld w' w.heap.size w.heap.size (l ++ [32]) ∧ Below w.heap.size w0 w' :=
      fun l w0 hI hlen h0 => Tryz.Builder_WriteByte_b w.heap.size w.heap.size l 32 w0 hI (by omega) h0
    have cs : ∀ (l : List UInt8) (w0 : World), Bld w0 w.heap.size w.heap.size l → w.heap.size ≤ w0.heap.size →
        Calls Tryz.prog 42 #[.pointer (some ⟨w.heap.size, 0, none⟩)] w0 fun e w' => e = .returned (.string (toB l)) ∧ Below w.heap.size w0 w' :=
      fun l w0 hI h0 => (Tryz.Builder_String_any_k w.heap.size w.heap.size l w0 hI h0).mono (by rintro e w' ⟨h1, -, h2, -⟩; exact ⟨h1, h2⟩)
    cases f with
    | false =>
      simp only [Bool.false_eq_true, if_false] at hst
      have hxt := hcm rfl
      have HE : Hid (Value.string (toB (l ++ x)) = .string R) := by
        show Value.string _ = _
        rw [← HR.out]
        unfold onB toB
        rw [HS.out, hst, hxt]
      clear hst hcb hcm HS HR hxt
      go_wp2_with (first
        | (go_at_call 50; (with_reducible refine (c1 _ hLr).mono ?_); rintro e w1 ⟨rfl, q, rfl⟩; have hI1 : Bld (wr.drewN q) w.heap.size w.heap.size l := hI; have hB1 := below_dr hB q)
        | (go_at_call 40; (with_reducible refine (cw l x _ hI1 (by omega) hB1.size).mono ?_); rintro e w2 ⟨rfl, hI2, hb⟩; have hB2 := hB1.trans hb; clear hb)
        | (go_at_call 42; (with_reducible refine (cs (l ++ x) _ hI2 hB2.size).mono ?_); rintro e w3 ⟨rfl, hb⟩; have hB3 := hB2.trans hb; clear hb))
      go_ret
      exact ⟨congrArg Ending.returned HE.out, hB3⟩
    | true =>
      simp only [if_true] at hst
      have hcb' := hcb rfl
      have c2 := fun w hl => ccut_any (toB y) ⟨#[42, 47]⟩ w hl (by unfold mostB; omega)
      change ∀ w, Lens w → Calls _ _ #[.string (toB y), .string ⟨#[42, 47]⟩] w (fun e w' => e = .returned (.tuple #[.string (toB (Lib.cut y [42, 47]).1), .string (toB (Lib.cut y [42, 47]).2.1), .bool (Lib.cut y [42, 47]).2.2]) ∧ ∃ q, w.drewN q = w') at c2
      have hzl := (cut_len y [42, 47]).2
      generalize Lib.cut y [42, 47] = cy at *
      obtain ⟨u, z, g⟩ := cy
      simp only at hst hzl c2
      have zs := toB_size z
      have HS' : Hid (stripL s.data.toList = (l ++ x ++ [32]) ++ stripL (toB z).data.toList) := by
        show stripL s.data.toList = _
        rw [HS.out, hst]
        simp only [List.append_assoc, List.singleton_append]
        rfl
      clear hst hcb hcm HS HR dx dy
      go_wp2_with (first
        | (go_at_call 50; (first
           | ((with_reducible refine (c1 _ hLr).mono ?_); rintro e w1 ⟨rfl, q, rfl⟩; have hI1 : Bld (wr.drewN q) w.heap.size w.heap.size l := hI; have hB1 := below_dr hB q)
           | ((with_reducible refine (c2 _ (hL.of hB3)).mono ?_); rintro e w4 ⟨rfl, q4, rfl⟩; have hI4 : Bld (w3.drewN q4) w.heap.size w.heap.size (l ++ x ++ [32]) := hI3; have hB4 := below_dr hB3 q4)))
        | (go_at_call 40; (with_reducible refine (cw l x _ hI1 (by omega) hB1.size).mono ?_); rintro e w2 ⟨rfl, hI2, hb⟩; have hB2 := hB1.trans hb; clear hb)
        | (go_at_call 51; (with_reducible refine (cb (l ++ x) _ hI2 (by simp; omega) hB2.size).mono ?_); rintro e w3 ⟨rfl, hI3, hb⟩; have hB3 := hB2.trans hb; clear hb))
      go_roundw
      case rel => exact ⟨toB z, l ++ x ++ [32], rfl, by simp; omega, hI4, hB4, HS'⟩
      case measure => simp; omega
end Go.Proofs.YtdfcahdipalmkaaGreatDoor
