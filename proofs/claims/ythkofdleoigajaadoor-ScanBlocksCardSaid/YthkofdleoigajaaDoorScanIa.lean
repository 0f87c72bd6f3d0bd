/- What strings.IndexAny tells of braces, in any text. Conditions: the text is not too long. -/
import Derived.Test.YthkofdleoigajaaDoorScanBlocksC
import Derived.Laws.RangeString
import Derived.Laws.RangeAny
import Derived.Lib.QuoteLoop
import Derived.Lib.TrimUEq
import Derived.Shelf.Strings.IndexAnyAll
import Derived.Deep.LoopGhost
import Derived.WalkMore
import Derived.Lib.SpaceUEq
import Derived.Lib.TrimU
namespace Go.Proofs.YthkofdleoigajaaDoor
open Go.ChangeShapes Go.WideShapes Go.ChangeAt Go.RowKit Go.Shelf
theorem enc_parts (r : Int) (h0 : 128 ≤ r) (h1 : r ≤ 1114111) : (∃ x y : UInt8, Utf8.encode r = ⟨#[x, y]⟩ ∧ 128 ≤ y.toNat) ∨ (∃ x y z : UInt8, Utf8.encode r = ⟨#[x, y, z]⟩) ∨ ∃ x y z u : UInt8, Utf8.encode r = ⟨#[x, y, z, u]⟩ := by
  unfold Utf8.encode
  simp only
  generalize hc : (if Utf8.valid r then r.toNat else Utf8.runeError) = c
  have hc0 : 128 ≤ c := by
    rw [← hc]
    split
    · omega
    · unfold Utf8.runeError; omega
  rw [if_neg (by omega)]
  by_cases h2 : c < 2048
  · rw [if_pos h2]
    refine .inl ⟨_, _, rfl, ?_⟩
    rw [UInt8.toNat_ofNat']
    omega
  · rw [if_neg h2]
    by_cases h3 : c < 65536
    · rw [if_pos h3]
      exact .inr (.inl ⟨_, _, _, rfl⟩)
    · rw [if_neg h3]
      exact .inr (.inr ⟨_, _, _, _, rfl⟩)
set_option maxRecDepth 100000 in
set_option maxHeartbeats 8000000 in
theorem ir_high (r : Int) (h0 : 128 ≤ r) (h1 : r ≤ 1114111) (w : World) :
    Calls Tryd.prog 48 #[.string ⟨#[123, 125]⟩, .int .i32 r] w fun e w' => e = .returned (.int .i64 (-1)) ∧ Below w.heap.size w w' := by
  have d1 : decide (r < 128) = false := decide_eq_false (by omega)
  by_cases hR : r = 65533
  · subst hR
    go_enter Tryd.func48, Tryd.ntmps48
    go_wp2
    go_loopw [] (fun wr => ∃ p : Nat, p ≤ 2 ∧ wr = w.iter ⟨#[123, 125]⟩ p) (fun wr => 2 - wr.iterPos w.heap.size)
    case atStart => exact ⟨0, by omega, rfl⟩
    case round =>
      obtain ⟨p, hp, rfl⟩ := hrel
      have hbl : ∀ q, Below w.heap.size w (w.iter ⟨#[123, 125]⟩ q) := fun q => below_al (Below.refl _ _) _
      rcases (by omega : p = 0 ∨ p = 1 ∨ p = 2) with rfl | rfl | rfl
      · have hnx := fun ty => run_next_ascii (P := Tryd.prog) w ⟨#[123, 125]⟩ 0 ty (by decide) (by decide)
        change ∀ ty, (Instr.next (.pointer (some ⟨w.heap.size, 0, none⟩)) true ty).run Tryd.prog (w.iter ⟨#[123, 125]⟩ 0) = Result.ok (Value.tuple #[.bool true, .int .i64 0, .int .i32 123]) (w.iter ⟨#[123, 125]⟩ 1) at hnx
        go_wp2
        go_roundw
        case rel => exact ⟨1, by omega, rfl⟩
        case measure => simp
      · have hnx := fun ty => run_next_ascii (P := Tryd.prog) w ⟨#[123, 125]⟩ 1 ty (by decide) (by decide)
        change ∀ ty, (Instr.next (.pointer (some ⟨w.heap.size, 0, none⟩)) true ty).run Tryd.prog (w.iter ⟨#[123, 125]⟩ 1) = Result.ok (Value.tuple #[.bool true, .int .i64 1, .int .i32 125]) (w.iter ⟨#[123, 125]⟩ 2) at hnx
        go_wp2
        go_roundw
        case rel => exact ⟨2, by omega, rfl⟩
        case measure => simp
      · have hnx := fun ty => run_next_end (P := Tryd.prog) w ⟨#[123, 125]⟩ 2 ty (by decide)
        go_wp2
        go_ret
        exact ⟨rfl, hbl _⟩
  · have d2 : (r == 65533) = false := beq_eq_false_iff_ne.2 hR
    cases hv : Lib.validRune r
    · go_enter Tryd.func48, Tryd.ntmps48
      go_wp2_with (go_at_call 57; (with_reducible refine (Tryd.utf8_ValidRune r _).mono ?_); rintro e w' ⟨rfl, rfl⟩; rw [hv])
      go_ret
      exact ⟨rfl, Below.refl _ _⟩
    · have hcv0 : ∀ w, (convert 21 9 (.int .i32 r)).run Tryd.prog w = .ok (.string (Utf8.encode r)) w := fun w => run_convert_int_string w 21 9 .i32 r (by rw [Tryd.underlying21]; rfl) Tryd.underlying9
      rcases enc_parts r h0 h1 with ⟨x, y, hE, hy⟩ | ⟨x, y, z, hE⟩ | ⟨x, y, z, u, hE⟩
      · rw [hE] at hcv0
        have c1 := fun w => Tryd.strings_IndexByte ⟨#[]⟩ (y.toNat : Int) w
        change ∀ w, Calls _ _ _ w (fun e w' => e = .returned (.int .i64 (-1)) ∧ w' = w) at c1
        have w2 : IntKind.i64.wrap 2 = 2 := by decide
        have hy1 : ¬ ((125 : Int) = (y.toNat : Int)) := by omega
        have d3 : ((((⟨#[123, 125]⟩ : ByteArray)[1]'(by decide)).toNat : Int) != (((⟨#[x, y]⟩ : ByteArray)[1]'(by show 1 < 2; omega)).toNat : Int)) = true := by
          show ((125 : Int) != (y.toNat : Int)) = true
          exact bne_iff_ne.2 hy1
        go_enter Tryd.func48, Tryd.ntmps48
        go_wp2_with (go_at_call 57; (with_reducible refine (Tryd.utf8_ValidRune r _).mono ?_); rintro e w' ⟨rfl, rfl⟩; rw [hv])
        have hsl : ∀ w, (Instr.slice 9 (.string ⟨#[123, 125]⟩) (some (.int .i64 2)) none none).run Tryd.prog w = .ok (.string ⟨#[]⟩) w := by
          intro w
          exact run_slice_string_l (P := Tryd.prog) (w := w) (t := 9) (s := ⟨#[123, 125]⟩) Tryd.underlying9 .i64 2 (by omega) (by decide)
        go_wp2
        go_step3
        go_wp2
        go_loopw [9] (fun i wr => i = .int .i64 1 ∧ wr = w') (fun _ _ => 0)
        case atStart => exact ⟨rfl, rfl⟩
        case round =>
          obtain ⟨rfl, rfl⟩ := hrel
          clear hcv0 hE
          go_wp2
          go_step3
          go_wp2
          go_quiet (fail)
          go_wp2
          go_quiet ((go_at_call 33; exact (c1 _).mono (fun e w1 h => ⟨h.1, _, h.2⟩)))
          go_wp2
          simp +zetaDelta only [Exit.noGoto, Exit.inBlock, Exit.then]
          go_ret
          exact ⟨rfl, below_drewN (Below.refl _ _) _⟩
      · rw [hE] at hcv0
        go_enter Tryd.func48, Tryd.ntmps48
        go_wp2_with (go_at_call 57; (with_reducible refine (Tryd.utf8_ValidRune r _).mono ?_); rintro e w' ⟨rfl, rfl⟩; rw [hv])
        go_wp2
        go_step3
        go_wp2
        go_loopw [9] (fun i wr => i = .int .i64 2 ∧ wr = w') (fun _ _ => 0)
        case atStart => exact ⟨rfl, rfl⟩
        case round =>
          obtain ⟨rfl, rfl⟩ := hrel
          clear hcv0 hE
          go_wp2
          simp only [Exit.noGoto, Exit.inBlock]
          go_ret
          exact ⟨rfl, Below.refl _ _⟩
      · rw [hE] at hcv0
        go_enter Tryd.func48, Tryd.ntmps48
        go_wp2_with (go_at_call 57; (with_reducible refine (Tryd.utf8_ValidRune r _).mono ?_); rintro e w' ⟨rfl, rfl⟩; rw [hv])
        go_wp2
        go_step3
        go_wp2
        go_loopw [9] (fun i wr => i = .int .i64 3 ∧ wr = w') (fun _ _ => 0)
        case atStart => exact ⟨rfl, rfl⟩
        case round =>
          obtain ⟨rfl, rfl⟩ := hrel
          clear hcv0 hE
          go_wp2
          simp only [Exit.noGoto, Exit.inBlock]
          go_ret
          exact ⟨rfl, Below.refl _ _⟩
theorem ia_miss : ∀ {l : List UInt8}, noB l → Lib.indexAny l [123, 125] = -1
  | [], _ => rfl
  | b :: l, h => by
    have hb := h b (by simp)
    rw [Lib.indexAny, braces_c, if_neg (by simp [hb.1, hb.2]), ia_miss (fun c hc => h c (by simp [hc]))]
    rfl
theorem ia_hit : ∀ {h : List UInt8} {c : UInt8} {t : List UInt8}, noB h → (c = 123 ∨ c = 125) → Lib.indexAny (h ++ c :: t) [123, 125] = h.length
  | [], c, t, _, hc => by
    show Lib.indexAny (c :: t) [123, 125] = _
    rw [Lib.indexAny, braces_c, if_pos (decide_eq_true hc)]
    rfl
  | b :: h, c, t, hn, hc => by
    have hb := hn b (by simp)
    show Lib.indexAny (b :: (h ++ c :: t)) [123, 125] = _
    rw [Lib.indexAny, braces_c, if_neg (by simp [hb.1, hb.2]), ia_hit (fun d hd => hn d (by simp [hd])) hc]
    have : ¬ (((h.length : Int) == -1) = true) := by simp
    rw [if_neg this]
    simp
theorem high_bytes (s : ByteArray) (p : Nat) (hp : p < s.size) (h : 128 ≤ (s.data.toList[p]'(by rw [size_list]; exact hp)).toNat) :
    p + (Utf8.decode s p).2 ≤ s.size ∧ ∀ j c, p ≤ j → j < p + (Utf8.decode s p).2 → s.data.toList[j]? = some c → 128 ≤ c.toNat := by
  have hl := size_list s
  rw [Lib.decode_N]
  have hw := Lib.decodeN_width_le (s.data.toList.length - p) (s.data.toList.getD p 0).toNat (s.data.toList.getD (p + 1) 0).toNat (s.data.toList.getD (p + 2) 0).toNat (s.data.toList.getD (p + 3) 0).toNat (by omega)
  obtain ⟨k1, k2, k3, k4⟩ := Lib.decodeN_conts (s.data.toList.length - p) (s.data.toList.getD p 0).toNat (s.data.toList.getD (p + 1) 0).toNat (s.data.toList.getD (p + 2) 0).toNat (s.data.toList.getD (p + 3) 0).toNat
  generalize (Lib.decodeN (s.data.toList.length - p) (s.data.toList.getD p 0).toNat (s.data.toList.getD (p + 1) 0).toNat (s.data.toList.getD (p + 2) 0).toNat (s.data.toList.getD (p + 3) 0).toNat).2 = wd at *
  refine ⟨by omega, fun j c h1 h2 hc => ?_⟩
  have hg : ∀ k, s.data.toList[k]? = some c → s.data.toList.getD k 0 = c := fun k hk => by simp [List.getD, hk]
  rcases (by omega : j = p ∨ j = p + 1 ∨ j = p + 2 ∨ j = p + 3) with rfl | rfl | rfl | rfl
  · rw [List.getElem?_eq_getElem (by rw [size_list]; exact hp)] at hc
    obtain rfl := Option.some.inj hc
    exact h
  · have := (k1 (by omega)).1
    rw [hg _ hc] at this; omega
  · have := (k2 (by omega)).1
    rw [hg _ hc] at this; omega
  · have := (k3 (by omega)).1
    rw [hg _ hc] at this; omega
end Go.Proofs.YthkofdleoigajaaDoor
