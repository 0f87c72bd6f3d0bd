/- selector's readSimple. Conditions: the text is not too long. -/
import Derived.Test.YtdfcahdipalmkaaGreatDoorShelf
import Derived.Test.YtdfcahdipalmkaaGreatDoorScanSpec
import Derived.Laws.RangeString
import Derived.Laws.RangeAny
import Derived.Lib.QuoteLoop
import Derived.Lib.TrimUEq
import Derived.Shelf.Strings.IndexAnyAll
import Derived.Deep.LoopGhost
import Derived.WalkMore
import Derived.Lib.SpaceUEq
import Derived.Lib.TrimU
import Derived.Lib.OthersKept
import Derived.Lib.IndexLaws
import Derived.Test.YtdfcahdipalmkaaGreatDoorSelMath2
import Derived.Test.YtdfcahdipalmkaaGreatDoorKt
import Derived.Test.YtdfcahdipalmkaaGreatDoorTokI
import Derived.Deep.RegionHeld3
/- What strings.IndexAny tells of a few ascii bytes, in any text. Conditions: the text is not too long; at least two bytes are asked for, at most a hundred. -/
namespace Go.Proofs.YtdfcahdipalmkaaGreatDoor
open Go.ChangeShapes Go.WideShapes Go.ChangeAt Go.RowKit Go.Shelf
namespace Ia
theorem enc_last (r : Int) (h0 : 128 ≤ r) (h1 : r ≤ 1114111) : (∃ x y : UInt8, Utf8.encode r = ⟨#[x, y]⟩ ∧ 128 ≤ y.toNat) ∨ (∃ x y z : UInt8, Utf8.encode r = ⟨#[x, y, z]⟩ ∧ 128 ≤ z.toNat) ∨ ∃ x y z u : UInt8, Utf8.encode r = ⟨#[x, y, z, u]⟩ ∧ 128 ≤ u.toNat := by
  unfold Utf8.encode
  simp only
  generalize hc : (if Utf8.valid r then r.toNat else Utf8.runeError) = c
  have hc0 : 128 ≤ c := by
    rw [← hc]
    split
    · omega
    · unfold Utf8.runeError; omega
  rw [if_neg (by omega)]
  by_cases h2 : c < 2048
  · rw [if_pos h2]
    refine .inl ⟨_, _, rfl, ?_⟩
    rw [UInt8.toNat_ofNat']
    omega
  · rw [if_neg h2]
    by_cases h3 : c < 65536
    · rw [if_pos h3]
      refine .inr (.inl ⟨_, _, _, rfl, ?_⟩)
      rw [UInt8.toNat_ofNat']
      omega
    · rw [if_neg h3]
      refine .inr (.inr ⟨_, _, _, _, rfl, ?_⟩)
      rw [UInt8.toNat_ofNat']
      omega
def Asc (C : List UInt8) : Prop := ∀ c ∈ C, c.toNat < 128
theorem ib_miss {C : List UInt8} {y : UInt8} (h : y ∉ C) : Lib.indexByte C y = -1 := by
  have hge := Lib.indexByte_ge C y
  by_cases e : Lib.indexByte C y = -1
  · exact e
  · obtain ⟨o, ho⟩ : ∃ o : Nat, Lib.indexByte C y = o := ⟨(Lib.indexByte C y).toNat, by omega⟩
    obtain ⟨h1, -⟩ := Lib.indexByte_some ho
    exact absurd (List.mem_of_getElem? h1) h
theorem asc_not {C : List UInt8} (hC : Asc C) {y : UInt8} (hy : 128 ≤ y.toNat) : y ∉ C := fun h => by have := hC y h; omega
set_option maxRecDepth 100000 in
set_option maxHeartbeats 8000000 in
theorem ir_tail (C : List UInt8) (hC : Asc C) (r : Int) (h0 : 128 ≤ r) (h1 : r ≤ 1114111) (hR : r ≠ 65533) (hv : Lib.validRune r = true) (w : World) :
    Calls Tryz.prog 131 #[.string (toB C), .int .i32 r] w fun e w' => e = .returned (.int .i64 (-1)) ∧ Below w.heap.size w w' := by
  have d1 : decide (r < 128) = false := decide_eq_false (by omega)
  have d2 : (r == 65533) = false := beq_eq_false_iff_ne.2 hR
  have hcv0 : ∀ w, (convert 21 9 (.int .i32 r)).run Tryz.prog w = .ok (.string (Utf8.encode r)) w := fun w => run_convert_int_string w 21 9 .i32 r (by rw [Tryz.underlying21]; rfl) Tryz.underlying9
  obtain ⟨last, hl1, hl3, y, hy, hs, hg⟩ : ∃ last : Nat, 1 ≤ last ∧ last ≤ 3 ∧ ∃ y : UInt8, 128 ≤ y.toNat ∧ (Utf8.encode r).size = last + 1 ∧ ∀ h : last < (Utf8.encode r).size, (Utf8.encode r)[last] = y := by
    rcases enc_last r h0 h1 with ⟨x, y, hE, hy⟩ | ⟨x, y, z, hE, hy⟩ | ⟨x, y, z, u, hE, hy⟩
    · exact ⟨1, by omega, by omega, y, hy, by rw [hE]; rfl, fun h => by simp only [hE]; rfl⟩
    · exact ⟨2, by omega, by omega, z, hy, by rw [hE]; rfl, fun h => by simp only [hE]; rfl⟩
    · exact ⟨3, by omega, by omega, u, hy, by rw [hE]; rfl, fun h => by simp only [hE]; rfl⟩
  generalize Utf8.encode r = rs at *
  have hny := asc_not hC hy
  have hsz : (toB C).size = C.length := toB_size C
  have hat : ∀ (h : last < (toB C).size), ((((toB C)[last]).toNat : Int) != (y.toNat : Int)) = true := by
    intro h
    have h2 : last < C.length := by rw [← hsz]; exact h
    have := hC (C[last]) (List.getElem_mem h2)
    have e : (((toB C)[last]).toNat : Int) = (C[last].toNat : Int) := rfl
    rw [bne_iff_ne]
    omega
  have c1 := fun w => Tryz.strings_IndexByte (toB (C.drop (last + 1))) (y.toNat : Int) w
  have hyb : ((y.toNat : Int)).toNat.toUInt8 = y := by simp
  have hmiss : Lib.indexByte (toB (C.drop (last + 1))).data.toList (((y.toNat : Int)).toNat.toUInt8) = -1 := by
    rw [hyb]
    exact ib_miss (fun h => hny (List.mem_of_mem_drop h))
  rw [hmiss] at c1
  have hex : last + 1 ≤ C.length → (toB C).extract (last + 1) (toB C).size = toB (C.drop (last + 1)) := by
    intro h
    apply bytes_inj
    rw [ByteArray.data_extract]
    simp only [toB, Array.toList_extract, List.extract_eq_take_drop]
    exact List.take_of_length_le (by rw [List.length_drop]; show C.length - _ ≤ C.toArray.size - _; simp)
  by_cases hlt : last < C.length
  · have hsl : ∀ w, (Instr.slice 9 (.string (toB C)) (some (.int .i64 ((last : Int) + 1))) none none).run Tryz.prog w = .ok (.string (toB (C.drop (last + 1)))) w := by
      intro w
      rw [← hex hlt, show (last : Int) + 1 = ((last + 1 : Nat) : Int) by omega]
      exact run_slice_string_l (P := Tryz.prog) (w := w) (t := 9) (s := toB C) Tryz.underlying9 .i64 ((last + 1 : Nat) : Int) (by omega) (by rw [hsz]; omega)
    have q1 : (last : Int) < (C.length : Int) := by omega
    have q3 : (last : Int) < (rs.size : Int) := by omega
    have hb4 : last < rs.size := by omega
    have q4 := hg hb4
    have q5 : (rs.size : Int) - 1 = (last : Int) := by omega
    have hb6 : last < (toB C).size := by omega
    have q6 := hat hb6
    have q0 : (0 : Int) ≤ (last : Int) := Int.natCast_nonneg _
    clear hex hmiss hyb hat hg hny
    generalize toB C = S at *
    rw [← hsz] at q1
    clear hs hsz
    go_enter Tryz.func131, Tryz.ntmps131
    go_wp2_with (go_at_call 171; (with_reducible refine (Tryz.utf8_ValidRune r _).mono ?_); rintro e w' ⟨rfl, rfl⟩; rw [hv])
    go_wp2
    go_step3
    go_wp2
    go_loopw [9] (fun i wr => i = .int .i64 (last : Int) ∧ wr = w') (fun _ _ => 0)
    case atStart => exact ⟨rfl, rfl⟩
    case round =>
      obtain ⟨rfl, rfl⟩ := hrel
      clear hcv0
      go_wp2
      go_step3
      go_wp2
      go_quiet (fail)
      go_wp2
      go_quiet ((go_at_call 108; exact (c1 _).mono (fun e w1 h => ⟨h.1, _, h.2⟩)))
      go_wp2
      simp +zetaDelta only [Exit.noGoto, Exit.inBlock, Exit.then]
      go_ret
      exact ⟨rfl, below_drewN (Below.refl _ _) _⟩
  · have q1 : ¬ (last : Int) < ((toB C).size : Int) := by omega
    have q5 : (rs.size : Int) - 1 = (last : Int) := by omega
    generalize toB C = S at *
    clear hny hex hat hg c1 hmiss hyb hs hsz
    go_enter Tryz.func131, Tryz.ntmps131
    go_wp2_with (go_at_call 171; (with_reducible refine (Tryz.utf8_ValidRune r _).mono ?_); rintro e w' ⟨rfl, rfl⟩; rw [hv])
    go_wp2
    go_step3
    go_wp2
    go_loopw [9] (fun i wr => i = .int .i64 (last : Int) ∧ wr = w') (fun _ _ => 0)
    case atStart => exact ⟨rfl, rfl⟩
    case round =>
      obtain ⟨rfl, rfl⟩ := hrel
      clear hcv0
      go_wp2
      simp only [Exit.noGoto, Exit.inBlock]
      go_ret
      exact ⟨rfl, Below.refl _ _⟩
set_option maxRecDepth 100000 in
set_option maxHeartbeats 8000000 in
theorem ir_high (C : List UInt8) (hC : Asc C) (r : Int) (h0 : 128 ≤ r) (h1 : r ≤ 1114111) (w : World) :
    Calls Tryz.prog 131 #[.string (toB C), .int .i32 r] w fun e w' => e = .returned (.int .i64 (-1)) ∧ Below w.heap.size w w' := by
  have d1 : decide (r < 128) = false := decide_eq_false (by omega)
  by_cases hR : r = 65533
  · subst hR
    have hsz : (toB C).size = C.length := toB_size C
    have hat : ∀ (p : Nat) (h : p < (toB C).size), ((toB C)[p]).toNat < 128 := by
      intro p h
      have h2 : p < C.length := by rw [← hsz]; exact h
      exact hC (C[p]) (List.getElem_mem h2)
    generalize toB C = S at *
    have HAT := Lib.hid hat
    clear hat hC
    go_enter Tryz.func131, Tryz.ntmps131
    go_wp2
    go_loopw [] (fun wr => ∃ p : Nat, p ≤ S.size ∧ wr = w.iter S p) (fun wr => S.size - wr.iterPos w.heap.size)
    case atStart => exact ⟨0, by omega, rfl⟩
    case round =>
      obtain ⟨p, hp, rfl⟩ := hrel
      have hbl : ∀ q, Below w.heap.size w (w.iter S q) := fun q => below_al (Below.refl _ _) _
      by_cases hlt : p < S.size
      · have h128 := HAT.out p hlt
        have hnx := fun ty => run_next_ascii (P := Tryz.prog) w S p ty hlt h128
        have hne : (((S[p]).toNat : Int) == 65533) = false := by rw [beq_eq_false_iff_ne]; omega
        generalize (S[p]).toNat = x at *
        go_wp2
        go_roundw
        case rel => exact ⟨p + 1, by omega, rfl⟩
        case measure => simp; omega
      · have hpe : p = S.size := by omega
        have hnx := fun ty => run_next_end (P := Tryz.prog) w S p ty (by omega)
        clear hpe hlt
        go_wp2
        go_ret
        exact ⟨rfl, hbl _⟩
  · cases hv : Lib.validRune r with
    | true => exact ir_tail C hC r h0 h1 hR hv w
    | false =>
      have d2 : (r == 65533) = false := beq_eq_false_iff_ne.2 hR
      generalize toB C = S at *
      go_enter Tryz.func131, Tryz.ntmps131
      go_wp2_with (go_at_call 171; (with_reducible refine (Tryz.utf8_ValidRune r _).mono ?_); rintro e w' ⟨rfl, rfl⟩; rw [hv])
      go_ret
      exact ⟨rfl, Below.refl _ _⟩
def No (C l : List UInt8) : Prop := ∀ c ∈ l, C.contains c = false
theorem ia_miss {C : List UInt8} : ∀ {l : List UInt8}, No C l → Lib.indexAny l C = -1
  | [], _ => rfl
  | b :: l, h => by
    rw [Lib.indexAny, h b (by simp), if_neg (by decide), ia_miss (fun c hc => h c (by simp [hc]))]
    rfl
theorem ia_hit {C : List UInt8} : ∀ {h : List UInt8} {c : UInt8} {t : List UInt8}, No C h → C.contains c = true → Lib.indexAny (h ++ c :: t) C = h.length
  | [], c, t, _, hc => by
    show Lib.indexAny (c :: t) C = _
    rw [Lib.indexAny, hc, if_pos rfl]
    rfl
  | b :: h, c, t, hn, hc => by
    show Lib.indexAny (b :: (h ++ c :: t)) C = _
    rw [Lib.indexAny, hn b (by simp), if_neg (by decide), ia_hit (fun d hd => hn d (by simp [hd])) hc]
    have : ¬ (((h.length : Int) == -1) = true) := by simp
    rw [if_neg this]
    simp
theorem high_bytes (s : ByteArray) (p : Nat) (hp : p < s.size) (h : 128 ≤ (s.data.toList[p]'(by rw [size_list]; exact hp)).toNat) :
    p + (Utf8.decode s p).2 ≤ s.size ∧ ∀ j c, p ≤ j → j < p + (Utf8.decode s p).2 → s.data.toList[j]? = some c → 128 ≤ c.toNat := by
  have hl := size_list s
  rw [Lib.decode_N]
  have hw := Lib.decodeN_width_le (s.data.toList.length - p) (s.data.toList.getD p 0).toNat (s.data.toList.getD (p + 1) 0).toNat (s.data.toList.getD (p + 2) 0).toNat (s.data.toList.getD (p + 3) 0).toNat (by omega)
  obtain ⟨k1, k2, k3, k4⟩ := Lib.decodeN_conts (s.data.toList.length - p) (s.data.toList.getD p 0).toNat (s.data.toList.getD (p + 1) 0).toNat (s.data.toList.getD (p + 2) 0).toNat (s.data.toList.getD (p + 3) 0).toNat
  generalize (Lib.decodeN (s.data.toList.length - p) (s.data.toList.getD p 0).toNat (s.data.toList.getD (p + 1) 0).toNat (s.data.toList.getD (p + 2) 0).toNat (s.data.toList.getD (p + 3) 0).toNat).2 = wd at *
  refine ⟨by omega, fun j c h1 h2 hc => ?_⟩
  have hg : ∀ k, s.data.toList[k]? = some c → s.data.toList.getD k 0 = c := fun k hk => by simp [List.getD, hk]
  rcases (by omega : j = p ∨ j = p + 1 ∨ j = p + 2 ∨ j = p + 3) with rfl | rfl | rfl | rfl
  · rw [List.getElem?_eq_getElem (by rw [size_list]; exact hp)] at hc
    obtain rfl := Option.some.inj hc
    exact h
  · have := (k1 (by omega)).1
    rw [hg _ hc] at this; omega
  · have := (k2 (by omega)).1
    rw [hg _ hc] at this; omega
  · have := (k3 (by omega)).1
    rw [hg _ hc] at this; omega
set_option maxRecDepth 100000 in
set_option maxHeartbeats 8000000 in
theorem ia_short (C : List UInt8) (hC : Asc C) (hn : 2 ≤ C.length) (s : ByteArray) (h8 : s.size ≤ 8) (w : World) :
    Calls Tryz.prog 96 #[.string s, .string (toB C)] w fun e w' => e = .returned (.int .i64 (Lib.indexAny s.data.toList C)) ∧ Below w.heap.size w w' := by
  obtain ⟨R, hR⟩ : ∃ R, Lib.indexAny s.data.toList C = R := ⟨_, rfl⟩
  rw [hR]
  have HR := Lib.hid hR
  clear hR
  have cs := fun w => Tryz.strings_shouldUseASCIISet (s.size : Int) w
  have d8 : decide ((8 : Int) < (s.size : Int)) = false := decide_eq_false (by omega)
  have hsz : (toB C).size = C.length := toB_size C
  have hemp : (toB C).toList.isEmpty = false := by
    rw [Lib.toList_data]
    show C.isEmpty = false
    cases hq : C with
    | nil => rw [hq] at hn; simp at hn
    | cons _ _ => rfl
  have hemp2 : ((toB C).toList == ([] : List UInt8)) = false := by
    rw [Lib.toList_data]
    show (C == []) = false
    cases hq : C with
    | nil => rw [hq] at hn; simp at hn
    | cons _ _ => rfl
  have hemp3 : ¬ (toB C).toList = [] := fun e => by rw [e] at hemp; cases hemp
  have hn1 : (((toB C).size : Int) == 1) = false := by rw [beq_eq_false_iff_ne]; omega
  have CI := Lib.hid (fun (c : UInt8) (h : c.toNat < 128) w => Tryz.strings_IndexRune_ascii (toB C) (c.toNat : Int) w (by omega) (by omega))
  have CH := Lib.hid (fun (r : Int) (h0 : 128 ≤ r) (h1 : r ≤ 1114111) w => ir_high C hC r h0 h1 w)
  have HCA := Lib.hid (fun (y : UInt8) (hy : 128 ≤ y.toNat) => asc_not hC hy)
  have hback : (toB C).data.toList = C := rfl
  rw [hback] at CI
  clear hsz hn hback
  generalize toB C = S at *
  go_enter Tryz.func96, Tryz.ntmps96
  go_wp2_with (go_at_call 132; (with_reducible refine (cs _).mono ?_); rintro e w' ⟨rfl, hw⟩; rw [hw, d8])
  go_loopw [] (fun wr => ∃ p : Nat, p ≤ s.size ∧ wr.heap[w.heap.size]? = some (.stringIter s p) ∧ Below w.heap.size w wr ∧ Hid (No C (s.data.toList.take p))) (fun wr => s.size - wr.iterPos w.heap.size)
  case atStart => exact ⟨0, Nat.zero_le _, World.iter_heap w s 0, below_al (Below.refl _ _) _, fun c hc => by simp at hc⟩
  case round =>
    obtain ⟨p, hp, hit, hB, HN⟩ := hrel
    have hit2 := fun q => Lib.iterAt_heap wr w.heap.size s p q hit
    have hB2 := fun q => Lib.below_iterAt hB (k := w.heap.size) (Nat.le_refl _) s q
    have hlt2 : ∀ q, w.heap.size < (wr.iterAt w.heap.size s q).heap.size := fun q => (Array.getElem?_eq_some_iff.1 (hit2 q)).1
    have hmw : wr.iterPos w.heap.size = p := by simp [World.iterPos, hit]
    clear hemp hemp2 hemp3 hn1
    by_cases hlt : p < s.size
    · have hlt' : p < s.data.toList.length := by rw [size_list]; exact hlt
      obtain ⟨c, hce⟩ : ∃ c : UInt8, s.data.toList[p] = c := ⟨_, rfl⟩
      have hsc : s[p]'hlt = c := hce
      have hsplit : s.data.toList = s.data.toList.take p ++ c :: s.data.toList.drop (p + 1) := by
        conv => lhs; rw [← List.take_append_drop p s.data.toList]
        rw [List.drop_eq_getElem_cons hlt', hce]
      have hpl : (s.data.toList.take p).length = p := by rw [List.length_take, size_list]; omega
      by_cases h128 : c.toNat < 128
      · have hnx := fun ty => Lib.run_next_ascii_at (P := Tryz.prog) wr w.heap.size s p ty hit hlt (by rw [hsc]; exact h128)
        simp only [hsc] at hnx
        have ci := CI.out c h128
        have hb : ((c.toNat : Int)).toNat.toUInt8 = c := by simp
        rw [hb] at ci
        have hcon := Lib.contains_iff_indexByte C c
        cases hc : C.contains c with
        | true =>
          rw [hc] at hcon
          have hge : (0 : Int) ≤ Lib.indexByte C c := of_decide_eq_true hcon.symm
          have HA : Hid (R = (p : Int)) := by
            show R = (p : Int)
            rw [← HR.out, hsplit, ia_hit HN.out hc, hpl]
          clear hcon hsplit HR HN hce hc
          generalize Lib.indexByte C c = ix at *
          go_wp2_with (go_at_call 131; (with_reducible refine (ci _).mono ?_); rintro e w' ⟨rfl, rfl⟩)
          go_ret
          exact ⟨by rw [HA.out]; rfl, hB2 _⟩
        | false =>
          rw [hc] at hcon
          have hlt0 : Lib.indexByte C c < 0 := by have := of_decide_eq_false hcon.symm; omega
          have HN' : Hid (No C (s.data.toList.take (p + 1))) := by
            intro d hd
            rw [List.take_succ_eq_append_getElem hlt', hce] at hd
            rcases List.mem_append.1 hd with h | h
            · exact HN.out d h
            · obtain rfl := List.mem_singleton.1 h
              exact hc
          clear hcon hsplit HN hce hc
          generalize Lib.indexByte C c = ix at *
          go_wp2_with (go_at_call 131; (with_reducible refine (ci _).mono ?_); rintro e w' ⟨rfl, rfl⟩)
          go_roundw
          case rel => exact ⟨p + 1, by omega, hit2 _, hB2 _, HN'⟩
          case measure => rw [hmw]; simp only [World.iterPos, hit2 (p + 1)]; omega
      · have hnx := fun ty => Lib.run_next_any_at (P := Tryz.prog) wr w.heap.size s p ty hit hlt
        obtain ⟨hle, hbs⟩ := high_bytes s p hlt (by rw [hce]; omega)
        obtain ⟨hr0, hw1⟩ := decode_high s p hlt (by rw [hsc]; omega)
        have hr1 := Lib.rune_le s p
        generalize Utf8.decode s p = dd at *
        obtain ⟨r, wd⟩ := dd
        simp only at hle hbs hr0 hw1 hr1 hnx
        have ci := CH.out (r : Int) (by omega) (by omega)
        have HN' : Hid (No C (s.data.toList.take (p + wd))) := by
          intro d hd
          obtain ⟨j, hj⟩ := List.mem_iff_getElem?.1 hd
          have hjl := (List.getElem?_eq_some_iff.1 hj).1
          rw [List.length_take] at hjl
          rw [List.getElem?_take_of_lt (by omega)] at hj
          by_cases hjp : j < p
          · refine HN.out d (List.mem_iff_getElem?.2 ⟨j, ?_⟩)
            rw [List.getElem?_take_of_lt hjp]; exact hj
          · have h9 := hbs j d (by omega) (by omega) hj
            have h10 := HCA.out d h9
            cases e : C.contains d with
            | false => rfl
            | true => exact absurd (List.contains_iff_mem.1 e) h10
        clear hbs hsplit HN hce hsc
        go_wp2_with (go_at_call 131; (with_reducible refine (ci _).mono ?_); rintro e w' ⟨rfl, hb⟩)
        have hit3 : w'.heap[w.heap.size]? = some (.stringIter s (p + wd)) := (hb.block _ (hlt2 _)).trans (hit2 _)
        go_roundw
        case rel => exact ⟨p + wd, by omega, hit3, (hB2 _).trans (hb.mono (Nat.le_of_lt (hlt2 _))), HN'⟩
        case measure => rw [hmw]; simp only [World.iterPos, hit3]; omega
    · obtain rfl : p = s.size := by omega
      have hnx := fun ty => Lib.run_next_end_at (P := Tryz.prog) wr w.heap.size s s.size ty hit (by omega)
      have HA : Hid (R = -1) := by
        show R = -1
        have := HN.out
        rw [List.take_of_length_le (by rw [size_list]; exact Nat.le_refl _)] at this
        rw [← HR.out, ia_miss this]
      go_wp2
      go_ret
      exact ⟨by rw [HA.out]; rfl, hB⟩
theorem info256 : (Tryz.prog.info? 187).map (fun i => (i.zero, i.size)) = some (some (.agg (Array.replicate 256 (.bool false))), 256) := by kernel_rfl
end Ia
end Go.Proofs.YtdfcahdipalmkaaGreatDoor
/- selector's take: a part of a part, taken into what is gathered. Conditions: the part's memory is the call's own; there are not too many. -/
namespace Go.Proofs.YtdfcahdipalmkaaGreatDoor
open Go.ChangeShapes Go.WideShapes Go.ChangeAt Go.RowKit Go.Shelf
namespace Sel
open Tok
open RowG (Row)
theorem cutH (l : List UInt8) (n : Nat) (hn : n ≤ l.length) (w : World) : (Instr.slice 9 (.string (toB l)) none (some (.int .i64 (n : Int))) none).run Tryz.prog w = .ok (.string (toB (l.take n))) w := by
  have h := run_slice_string_h (P := Tryz.prog) (w := w) (t := 9) (s := toB l) Tryz.underlying9 .i64 n (by omega) (by rw [toB_size]; omega)
  have e : (toB l).extract 0 (n : Int).toNat = toB (l.take n) := by
    apply bytes_inj
    rw [ByteArray.data_extract]
    simp [toB, List.extract_eq_take_drop]
  rw [h, e]
theorem cutL (l : List UInt8) (n : Nat) (hn : n ≤ l.length) (w : World) : (Instr.slice 9 (.string (toB l)) (some (.int .i64 (n : Int))) none none).run Tryz.prog w = .ok (.string (toB (l.drop n))) w := by
  have h := run_slice_string_l (P := Tryz.prog) (w := w) (t := 9) (s := toB l) Tryz.underlying9 .i64 n (by omega) (by rw [toB_size]; omega)
  have e : (toB l).extract (n : Int).toNat (toB l).size = toB (l.drop n) := by
    apply bytes_inj
    rw [ByteArray.data_extract, Array.toList_extract, List.extract_eq_take_drop]
    show ((toB l).data.toList.drop (n : Int).toNat).take ((toB l).size - (n : Int).toNat) = _
    rw [Int.toNat_natCast, toB_size]
    exact List.take_of_length_le (by rw [List.length_drop]; show l.length - n ≤ _; omega)
  rw [h, e]
theorem ia_any (C : List UInt8) (hC : Ia.Asc C) (hn : 2 ≤ C.length) (hn2 : C.length ≤ 1000) (s : ByteArray) (hs : s.size ≤ mostB) (w : World) :
    Calls Tryz.prog 96 #[.string s, .string (toB C)] w fun e w' => e = .returned (.int .i64 (Lib.indexAny s.data.toList C)) ∧ Below w.heap.size w w' := by
  unfold mostB at hs
  by_cases h8 : s.size ≤ 8
  · exact Ia.ia_short C hC hn s h8 w
  · refine (Any.strings_IndexAny_long Tryz.lays153 (zero_of_info Ia.info256).1 (zero_of_info Ia.info256).2 s (toB C) w (by rw [toB_size]; omega) (by omega) (by omega) (by rw [toB_size]; omega) (fun j b hb => hC b (List.mem_of_getElem? hb))).mono fun e w' ⟨h1, h2⟩ => ⟨h1, ?_⟩
    rw [h2]
    exact ((Below.refl _ _).alloc (Nat.le_refl _) _).alloc (by simp) _
theorem ia_take (C : List UInt8) : ∀ l : List UInt8, (Lib.indexAny l C = -1 ∧ l.takeWhile (fun c => !C.contains c) = l) ∨ ∃ n : Nat, Lib.indexAny l C = n ∧ n ≤ l.length ∧ l.takeWhile (fun c => !C.contains c) = l.take n := by
  intro l
  induction l with
  | nil => exact .inl ⟨rfl, rfl⟩
  | cons c t ih =>
    rw [Lib.indexAny, List.takeWhile_cons]
    cases h : C.contains c with
    | true => exact .inr ⟨0, rfl, Nat.zero_le _, rfl⟩
    | false =>
      rcases ih with ⟨h1, h2⟩ | ⟨n, h1, h2, h3⟩
      · rw [h1, h2]
        exact .inl ⟨rfl, rfl⟩
      · rw [h1, h3]
        refine .inr ⟨n + 1, ?_, by rw [List.length_cons]; omega, rfl⟩
        have : ((n : Int) == -1) = false := by rw [beq_eq_false_iff_ne]; omega
        rw [this]
        rfl
set_option maxRecDepth 100000 in
theorem until_any (C : List UInt8) (hC : Ia.Asc C) (hn : 2 ≤ C.length) (hn2 : C.length ≤ 1000) (l : List UInt8) (hl : l.length ≤ mostB) (w : World) :
    Calls Tryz.prog 136 #[.string (toB l), .string (toB C)] w fun e w' => e = .returned (.string (toB (l.takeWhile fun c => !C.contains c))) ∧ Below w.heap.size w w' := by
  have ci := fun w => ia_any C hC hn hn2 (toB l) (by rw [toB_size]; exact hl) w
  have hback : (toB l).data.toList = l := rfl
  rw [hback] at ci
  rcases ia_take C l with ⟨h1, h2⟩ | ⟨n, h1, h2, h3⟩
  · rw [h1] at ci
    rw [h2]
    generalize toB l = s at *
    generalize toB C = cs at *
    clear h1 h2 hback hl hC hn hn2
    go_enter Tryz.func136, Tryz.ntmps136
    go_wp2_with (go_at_call 96; (with_reducible refine (ci _).mono ?_); rintro e w2 ⟨rfl, hb⟩)
    go_ret
    exact ⟨rfl, hb⟩
  · rw [h1] at ci
    rw [h3]
    have hc := fun w => cutH l n h2 w
    have hn0 : (0 : Int) ≤ (n : Int) := Int.natCast_nonneg _
    generalize toB l = s at *
    generalize toB C = cs at *
    generalize toB (l.take n) = t at *
    clear h1 h2 h3 hback hl hC hn hn2
    go_enter Tryz.func136, Tryz.ntmps136
    go_wp2_with (go_at_call 96; (with_reducible refine (ci _).mono ?_); rintro e w2 ⟨rfl, hb⟩)
    go_ret
    exact ⟨rfl, hb⟩
def btC : List UInt8 := [32, 9, 10, 13, 62]
def bgC : List UInt8 := [35, 46, 58]
theorem bt_has : (fun c => !btC.contains c) = (fun c => !isBt c) := by
  funext c
  congr 1
  unfold btC isBt isBlank
  simp only [List.contains_cons, List.contains_nil, Bool.or_false, Bool.or_assoc]
theorem bg_has : (fun c => !bgC.contains c) = (fun c => !isBg c) := by
  funext c
  congr 1
  unfold bgC isBg
  simp only [List.contains_cons, List.contains_nil, Bool.or_false, Bool.or_assoc]
theorem until_bt (l : List UInt8) (hl : l.length ≤ mostB) (w : World) :
    Calls Tryz.prog 136 #[.string (toB l), .string ⟨#[32, 9, 10, 13, 62]⟩] w fun e w' => e = .returned (.string (toB (txt l))) ∧ Below w.heap.size w w' := by
  have h := until_any btC (by unfold btC Ia.Asc; decide) (by decide) (by decide) l hl w
  rw [bt_has] at h
  exact h
theorem until_bg (l : List UInt8) (hl : l.length ≤ mostB) (w : World) :
    Calls Tryz.prog 136 #[.string (toB l), .string ⟨#[35, 46, 58]⟩] w fun e w' => e = .returned (.string (toB (own1 l))) ∧ Below w.heap.size w w' := by
  have h := until_any bgC (by unfold bgC Ia.Asc; decide) (by decide) (by decide) l hl w
  rw [bg_has] at h
  exact h
end Sel
end Go.Proofs.YtdfcahdipalmkaaGreatDoor
/- selector's parted. Conditions: the text is not too long. -/
namespace Go.Proofs.YtdfcahdipalmkaaGreatDoor
open Go.ChangeShapes Go.WideShapes Go.ChangeAt Go.RowKit Go.Shelf
namespace Sel
open Tok
open RowG (Row)
def txC (x : List UInt8) : List Value := [.string (toB x)]
theorem txC_len (x : List UInt8) : (txC x).length = 1 := rfl
theorem txC_one (x : List UInt8) : ∀ u ∈ txC x, u.oneCell' = true := by
  intro u hu
  unfold txC at hu
  rw [List.mem_singleton] at hu
  subst hu
  rfl
def boC (b : Bool) : List Value := [.bool b]
theorem boC_len (b : Bool) : (boC b).length = 1 := rfl
theorem boC_one (b : Bool) : ∀ u ∈ boC b, u.oneCell' = true := by
  intro u hu
  unfold boC at hu
  rw [List.mem_singleton] at hu
  subst hu
  rfl
theorem info_str : (Tryz.prog.info? 9).map (fun i => (i.zero, i.size, i.bytes)) = some (some (.string ⟨#[]⟩), 1, 16) := by kernel_rfl
theorem info_bool : (Tryz.prog.info? 4).map (fun i => (i.zero, i.size, i.bytes)) = some (some (.bool false), 1, 1) := by kernel_rfl
/-- What parted answers. -/
def PaR (w : World) (base : Nat) (x : Option (List (List UInt8) × List Bool)) (e : Ending) : Prop := ∃ v1 v2 b, e = .returned (.tuple #[v1, v2, .bool b]) ∧ (b = x.isSome) ∧ ∀ ts cs, x = some (ts, cs) → Row w base 9 1 txC v1 ts ∧ Row w base 4 1 boC v2 cs
def more (ts : List (List UInt8)) (cs : List Bool) (x : Option (List (List UInt8) × List Bool)) : Option (List (List UInt8) × List Bool) := x.map fun y => (ts ++ y.1, cs ++ y.2)
theorem drop_get {l : List UInt8} {q : Nat} (h : q < l.length) : l.drop q = l[q] :: l.drop (q + 1) := List.drop_eq_getElem_cons h
theorem rst_eq (l : List UInt8) : rst l = l.drop (txt l).length := by
  have h : txt l ++ rst l = l := List.takeWhile_append_dropWhile
  have h2 : (txt l ++ rst l).drop (txt l).length = rst l := List.drop_left
  rw [h] at h2
  exact h2.symm
theorem txt_le (l : List UInt8) : (txt l).length ≤ l.length := (List.takeWhile_sublist _).length_le
set_option maxRecDepth 100000 in
set_option maxHeartbeats 16000000 in
theorem parted_any (l : List UInt8) (hl : l.length ≤ 100000) (w : World) :
    Calls Tryz.prog 98 #[.string (toB l)] w fun e w' => PaR w' w.heap.size (partP l) e ∧ Below w.heap.size w w' := by
  have hsz : (toB l).size = l.length := toB_size l
  have CU := Lib.hid (fun (p : Nat) w => until_bt (l.drop p) (by unfold mostB; rw [List.length_drop]; omega) w)
  have CL := Lib.hid (fun (p : Nat) (h : p ≤ l.length) w => cutL l p h w)
  have CB := Lib.hid (fun (c : UInt8) w => Tryz.strings_IndexByte ⟨#[32, 9, 10, 13, 62]⟩ (c.toNat : Int) w)
  have hat : ∀ (p : Nat) (h : p < (toB l).size) (h2 : p < l.length), (toB l)[p]'h = l[p]'h2 := fun p h h2 => rfl
  have HAT := Lib.hid hat
  obtain ⟨R, hR⟩ : ∃ R, R = partP l := ⟨_, rfl⟩
  rw [← hR]
  have HR := Lib.hid hR
  have HSZ := Lib.hid hsz
  clear hR hsz hat
  generalize toB l = S at *
  go_enter Tryz.func98, Tryz.ntmps98
  go_wp2
  go_step3
  go_wp2
  go_step3
  go_wp2
  go_loopg [5, 6, 7] (l.length + 1) (fun g v5 v6 v7 wr => ∃ (p : Nat) (ts : List (List UInt8)) (cs : List Bool), p ≤ l.length ∧ l.length + 1 ≤ p + g ∧ v7 = .int .i64 p ∧ Row wr w.heap.size 9 1 txC v5 ts ∧ Row wr w.heap.size 4 1 boC v6 cs ∧ ts.length ≤ p ∧ cs.length ≤ p ∧ Hid (R = more ts cs (partP (l.drop p))) ∧ Below w.heap.size w wr)
  case atStart => exact ⟨0, [], [], Nat.zero_le _, by omega, rfl, Row.nil _ _ _ _ _, Row.nil _ _ _ _ _, Nat.le_refl _, Nat.le_refl _, by show _ = _; rw [HR.out, List.drop_zero]; unfold more; cases partP l <;> rfl, Below.refl _ _⟩
  case round =>
    obtain ⟨p, ts, cs, hp, hpg, rfl, hTs, hCs, htl, hcl, HP, hBr⟩ := hrel
    cases gk with
    | zero => omega
    | succ g =>
      obtain ⟨d, hd⟩ : ∃ d, d = l.drop p := ⟨_, rfl⟩
      have hcut := CL.out p hp
      have cu := CU.out p wr
      rw [← hd] at hcut cu HP
      have hdl : d.length = l.length - p := by rw [hd, List.length_drop]
      have HRST : Hid (∀ N, N = (txt d).length → rst d = l.drop (p + N)) := by
        intro N hN
        rw [rst_eq, hd, List.drop_drop, hN, hd]
      obtain ⟨N, hN⟩ : ∃ N, N = (txt d).length := ⟨_, rfl⟩
      have hNd := txt_le d
      rw [← hN] at hNd
      have hr0 := HRST.out N hN
      have HPE := Lib.hid (part_eq d)
      rw [hr0] at HPE
      obtain ⟨t, ht⟩ : ∃ t, t = txt d := ⟨_, rfl⟩
      rw [← ht] at cu HPE hN
      have htz : (toB t).size = N := by rw [toB_size, hN]
      obtain ⟨q, hq⟩ : ∃ q, q = p + N := ⟨_, rfl⟩
      have hq1 : (p : Int) + ((toB t).size : Int) = (q : Int) := by omega
      rw [← hq] at HPE
      have hql : q ≤ l.length := by omega
      have hpq : p ≤ q := by omega
      have HDL := Lib.hid hdl
      have HGL := Lib.hid (fun k c r h => gap_less (l := d) (k := k) (c := c) (r := r) h)
      rw [hr0, ← hq] at HGL
      have hxc : txC t = [.string (toB t)] := rfl
      have HXC := Lib.hid hxc
      obtain ⟨A5, c5, hv5⟩ := hTs.form
      obtain ⟨M, hM⟩ : ∃ M, M = ts.length := ⟨_, rfl⟩
      rw [← hM] at hv5 htl
      have HM := Lib.hid hM
      obtain rfl := hv5
      obtain ⟨A6, c6, hv6⟩ := hCs.form
      obtain ⟨M6, hM6⟩ : ∃ M6, M6 = cs.length := ⟨_, rfl⟩
      rw [← hM6] at hv6 hcl
      have HM6 := Lib.hid hM6
      obtain rfl := hv6
      clear hM6
      clear hr0 hN ht hd HRST hdl hNd htz hq hxc hM
      generalize hT : toB t = T at *
      have HT := Lib.hid hT
      clear hT
      go_wp2_with (first
        | (go_at_call 136; (with_reducible refine cu.mono ?_); rintro e w2 ⟨rfl, hb2⟩
           have hTs2 := hTs.below hb2
           have hCs2 := hCs.below hb2
           have hB2 := below_next hBr hb2
           have hY2 := hTs2.alloc (.cells #[.string T] 9)
           have hC2 := hCs2.alloc (.cells #[.string T] 9)
           have hB2a := below_al hB2 (.cells #[.string T] 9)
           have hnc : ∀ (j : Nat) (u : Value), (txC t)[j]? = some u → (w2.alloc (.cells #[.string T] 9)).cell? ⟨w2.heap.size, j, none⟩ = some u := by
             rw [HXC.out]
             exact RowG.new_cells w2 9 [.string T])
        | (refine RowG.wpList_more _ (by rfl) _ _ 49 (by rfl) 9 txC 1 16 _ info_str Tryz.underlying49 rfl (by decide) txC_len txC_one w.heap.size _ ts t (by rfl) w2.heap.size _ (by rfl) hY2 hnc (by rw [← HM.out]; simp only [maxLen]; omega) (by rw [← HM.out]; omega) hB2a.size ?_
           intro v5 w5 hrow5 hg5 _
           have hC5 := row_kt hC2 (KT.grown (e := 4) hY2 hg5 (by decide))
           have hB5 : Below w.heap.size w w5 := RowG.below_row hB2a hY2 hg5))
      clear hTs hCs hTs2 hCs2 hY2 hC2 hB2 hB2a hnc hb2 hBr cu hcut hg5
      go_loopg [6, 7, 9] (l.length + 1) (fun g2 v6 v7 v9 wy => ∃ (q' : Nat) (k : Bool), q' ≤ l.length ∧ l.length + 1 ≤ q' + g2 ∧ q ≤ q' ∧ v6 = .slice A6 M6 c6 ∧ v7 = .int .i64 q' ∧ v9 = .bool k ∧ Hid (gap false (l.drop q) = gap k (l.drop q')) ∧ w5 = wy)
      case atStart => exact ⟨q, false, hql, by omega, Nat.le_refl _, rfl, by first | rfl | (simp; omega), rfl, rfl, rfl⟩
      case round =>
        obtain ⟨q', k, hq', hqg, hqq, rfl, rfl, rfl, HG, rfl⟩ := hrel
        cases gk with
        | zero => omega
        | succ g2 =>
        by_cases hlt : q' < l.length
        · have hps : q' < S.size := by rw [HSZ.out]; exact hlt
          have hgs := HAT.out q' hps hlt
          obtain ⟨c, hce⟩ : ∃ c : UInt8, l[q'] = c := ⟨_, rfl⟩
          rw [hce] at hgs
          have hdr : l.drop q' = c :: l.drop (q' + 1) := by rw [drop_get hlt, hce]
          rw [hdr] at HG
          have q1 : (q' : Int) < (S.size : Int) := by omega
          have q0 : (0 : Int) ≤ (q' : Int) := Int.natCast_nonneg _
          by_cases c62 : c = 62
          · subst c62
            cases k with
            | true =>
              obtain rfl : R = none := by
                rw [HP.out, HPE.out, HG.out]
                rfl
              clear HG hdr hce
              go_wp2
              rw [Exit.noGoto_ret]
              go_ret3
              exact ⟨⟨_, _, _, rfl, rfl, fun ts cs h => by cases h⟩, hB5⟩
            | false =>
              have HG2 : Hid (gap false (l.drop q) = gap true (l.drop (q' + 1))) := by show _ = _; rw [HG.out]; rfl
              clear HG hdr hce
              go_wp2
              go_roundg g2
              case rel => exact ⟨q' + 1, true, by omega, by omega, by omega, rfl, by go_num, rfl, HG2, rfl⟩
              case measure => omega
          · have hc62 : ((c.toNat : Int) == 62) = false := by
              rw [beq_eq_false_iff_ne]
              intro e
              exact c62 (UInt8.toNat_inj.1 (by show c.toNat = 62; omega))
            have cb := CB.out c w5
            have hyb : ((c.toNat : Int)).toNat.toUInt8 = c := by simp
            have hcon := Lib.contains_iff_indexByte [32, 9, 10, 13, 62] c
            have hbc : ([32, 9, 10, 13, 62] : List UInt8).contains c = isBt c := by
              have : (!([32, 9, 10, 13, 62] : List UInt8).contains c) = (!isBt c) := congrFun bt_has c
              have h2 := congrArg (fun b => !b) this
              simpa only [Bool.not_not] using h2
            rw [hbc] at hcon
            rw [hyb] at cb
            cases hb : isBlank c with
            | true =>
              have hbt : isBt c = true := by unfold isBt; rw [hb]; rfl
              rw [hbt] at hcon
              have hge : (0 : Int) ≤ Lib.indexByte [32, 9, 10, 13, 62] c := of_decide_eq_true hcon.symm
              have hge2 : decide (Lib.indexByte [32, 9, 10, 13, 62] c < 0) = false := decide_eq_false (by omega)
              have HG2 : Hid (gap false (l.drop q) = gap k (l.drop (q' + 1))) := by show _ = _; rw [HG.out, gap_blank hb]
              clear HG hdr hce hcon hbc hyb hbt hb c62
              generalize Lib.indexByte [32, 9, 10, 13, 62] c = ix at *
              go_wp2_with (go_at_call 108; (with_reducible refine cb.mono ?_); rintro e w6 ⟨rfl, hw6⟩; rw [hw6]; clear hw6 w6)
              go_roundg g2
              case rel => exact ⟨q' + 1, k, by omega, by omega, by omega, rfl, by go_num, rfl, HG2, rfl⟩
              case measure => omega
            | false =>
              have hbt : isBt c = false := by unfold isBt; rw [hb]; simpa using c62
              rw [hbt] at hcon
              have hge : Lib.indexByte [32, 9, 10, 13, 62] c < 0 := by have := of_decide_eq_false hcon.symm; omega
              have hgs2 := gap_stop hbt k (l.drop (q' + 1))
              rw [hgs2] at HG
              have hless : q' > p := by
                have h1 := HGL.out k c (l.drop (q' + 1)) (by rw [HG.out])
                rw [← hdr, List.length_drop] at h1
                have := HDL.out
                omega
              have HP2 : Hid (R = more (ts ++ [t]) (cs ++ [k]) (partP (l.drop q'))) := by
                show _ = _
                rw [HP.out, HPE.out, HG.out, hdr]
                show more ts cs (match partP (c :: l.drop (q' + 1)) with | none => none | some (ts, cs) => some (t :: ts, k :: cs)) = _
                unfold more
                cases partP (c :: l.drop (q' + 1)) with
                | none => rfl
                | some y => simp
              have hY6 := hC5.alloc (.cells #[.bool k] 4)
              have hT6 := hrow5.alloc (.cells #[.bool k] 4)
              have hB6 := below_al hB5 (.cells #[.bool k] 4)
              have hnc6 := RowG.new_cells w5 4 (boC k)
              have hlen : (ts ++ [t]).length ≤ p + 1 := by rw [List.length_append, List.length_singleton, ← HM.out]; omega
              clear HG hdr hce hcon hbc hyb hbt hb c62 hgs2
              generalize Lib.indexByte [32, 9, 10, 13, 62] c = ix at *
              go_wp2_with (first
                | (go_at_call 108; (with_reducible refine cb.mono ?_); rintro e w6 ⟨rfl, hw6⟩; rw [hw6]; clear hw6 w6)
                | (refine RowG.wpList_more _ (by rfl) _ _ 60 (by rfl) 4 boC 1 1 _ info_bool Tryz.underlying60 rfl (by decide) boC_len boC_one w.heap.size _ cs k (by rfl) w5.heap.size _ (by rfl) hY6 hnc6 (by rw [← HM6.out]; simp only [maxLen]; omega) (by rw [← HM6.out]; omega) hB6.size ?_
                   intro v7 w7 hrow7 hg7 _
                   have hT7 := row_kt hT6 (KT.grown (e := 9) hY6 hg7 (by decide))
                   have hB7 : Below w.heap.size w w7 := RowG.below_row hB6 hY6 hg7))
              go_roundg g
              case rel => exact ⟨q', ts ++ [t], cs ++ [k], by omega, by omega, rfl, hT7, hrow7, by omega, by rw [List.length_append, List.length_singleton, ← HM6.out]; omega, HP2, hB7⟩
              case measure => omega
        · obtain rfl : q' = l.length := by omega
          have q1 : ¬ ((l.length : Int) < (S.size : Int)) := by have := HSZ.out; omega
          have hd0 : l.drop l.length = [] := List.drop_of_length_le (Nat.le_refl _)
          rw [hd0] at HG
          have HRE : Hid (R = more ts cs (if k then none else some ([t], []))) := by
            show _ = _
            rw [HP.out, HPE.out, HG.out]
            rfl
          clear HG hd0
          go_wp2
          go_ret3
          refine ⟨⟨_, _, _, rfl, ?_, fun ts' cs' h => ?_⟩, hB5⟩
          · rw [HRE.out]
            cases k <;> rfl
          · rw [HRE.out] at h
            cases k with
            | true => cases h
            | false =>
              injection h with h
              injection h with h1 h2
              subst h1
              subst h2
              exact ⟨hrow5, by rw [List.append_nil]; exact hC5⟩
end Sel
end Go.Proofs.YtdfcahdipalmkaaGreatDoor
namespace Go.Proofs.YtdfcahdipalmkaaGreatDoor
open Go.ChangeShapes Go.WideShapes Go.ChangeAt Go.RowKit Go.Shelf
namespace Sel
open Tok
open RowG (Row)
theorem lit_eq (l m : List UInt8) : ((toB l).toList == m) = decide (l = m) := by
  rw [ByteArray.toList_eq]
  show (l == m) = _
  by_cases h : l = m <;> simp [h]
/-- A part in the making. -/
structure SiM (w : World) (base g : Nat) (vi vc : Value) (p : Sim) : Prop where
  blk : Blk w g 70 #[.string (toB p.tag), vi, vc, .bool p.link, .bool p.visited]
  hg : base ≤ g
  ids : Row w base 9 1 txC vi p.ids
  classes : Row w base 9 1 txC vc p.classes
  dj : Dj vi vc
theorem SiM.next {w w' : World} {base g : Nat} {vi vc : Value} {p : Sim} (h : SiM w base g vi vc p) (hb : Below w.heap.size w w') : SiM w' base g vi vc p :=
  ⟨h.blk.next hb, h.hg, h.ids.below hb, h.classes.below hb, h.dj⟩
theorem SiM.link_ {w : World} {base g : Nat} {vi vc : Value} {p : Sim} (h : SiM w base g vi vc p) : SiM (w.setCell ⟨g, 3, none⟩ (.bool true)) base g vi vc { p with link := true } :=
  ⟨h.blk.set_ 3 _, h.hg, row_kt h.ids (KT.set h.blk (by decide) _ _), row_kt h.classes (KT.set h.blk (by decide) _ _), h.dj⟩
theorem SiM.vis_ {w : World} {base g : Nat} {vi vc : Value} {p : Sim} (h : SiM w base g vi vc p) : SiM (w.setCell ⟨g, 4, none⟩ (.bool true)) base g vi vc { p with visited := true } :=
  ⟨h.blk.set_ 4 _, h.hg, row_kt h.ids (KT.set h.blk (by decide) _ _), row_kt h.classes (KT.set h.blk (by decide) _ _), h.dj⟩
theorem SiM.tag_ {w : World} {base g : Nat} {vi vc : Value} {p : Sim} (h : SiM w base g vi vc p) (t : List UInt8) : SiM (w.setCell ⟨g, 0, none⟩ (.string (toB t))) base g vi vc { p with tag := t } :=
  ⟨h.blk.set_ 0 _, h.hg, row_kt h.ids (KT.set h.blk (by decide) _ _), row_kt h.classes (KT.set h.blk (by decide) _ _), h.dj⟩
theorem SiM.id_ {W W1 w6 : World} {base g : Nat} {vi vc v6 : Value} {p : Sim} {n : List UInt8} (h : SiM W base g vi vc p) (hb1 : Below W.heap.size W W1) (hrow : Row w6 base 9 1 txC v6 (p.ids ++ [n])) (hg : W1.grownBy w6 vi.ownBlock) (ho : v6.ownBlock = vi.ownBlock ∨ v6.ownBlock = some W1.heap.size) :
    SiM (w6.setCell ⟨g, 1, none⟩ v6) base g v6 vc { p with ids := p.ids ++ [n] } := by
  have h1 := h.next hb1
  have hblk := blk_kt h1.blk (KT.grown h1.ids hg (by decide))
  have ks : KT w6 (w6.setCell ⟨g, 1, none⟩ v6) 9 := KT.set hblk (by decide) _ _
  refine ⟨hblk.set_ 1 v6, h.hg, row_kt hrow ks, ?_, ?_⟩
  · exact row_kt (row_other h1.classes hg (fun b hb => h.dj.symm b hb)) ks
  · exact (Dj.grown h.dj.symm h1.classes ho).symm
theorem SiM.class_ {W W1 w6 : World} {base g : Nat} {vi vc v6 : Value} {p : Sim} {n : List UInt8} (h : SiM W base g vi vc p) (hb1 : Below W.heap.size W W1) (hrow : Row w6 base 9 1 txC v6 (p.classes ++ [n])) (hg : W1.grownBy w6 vc.ownBlock) (ho : v6.ownBlock = vc.ownBlock ∨ v6.ownBlock = some W1.heap.size) :
    SiM (w6.setCell ⟨g, 2, none⟩ v6) base g vi v6 { p with classes := p.classes ++ [n] } := by
  have h1 := h.next hb1
  have hblk := blk_kt h1.blk (KT.grown h1.classes hg (by decide))
  have ks : KT w6 (w6.setCell ⟨g, 2, none⟩ v6) 9 := KT.set hblk (by decide) _ _
  refine ⟨hblk.set_ 2 v6, h.hg, ?_, row_kt hrow ks, ?_⟩
  · exact row_kt (row_other h1.ids hg (fun b hb => h.dj b hb)) ks
  · exact Dj.grown h.dj h1.ids ho
def SiO (w : World) (base g : Nat) (p : Sim) : Prop := ∃ vi vc, SiM w base g vi vc p
theorem SiO.next {w w' : World} {base g : Nat} {p : Sim} (h : SiO w base g p) (hb : Below w.heap.size w w') : SiO w' base g p := by
  obtain ⟨vi, vc, h⟩ := h
  exact ⟨vi, vc, h.next hb⟩
/-- What take answers. -/
def TaR (w : World) (base g : Nat) (p : Sim) (x : Option Sim) (e : Ending) : Prop := (x = none ∧ e = .returned (.bool false) ∧ SiO w base g p) ∨ ∃ p', x = some p' ∧ e = .returned (.bool true) ∧ SiO w base g p'
theorem take_sign {p : Sim} {c : UInt8} {n : List UInt8} (h1 : c :: n ≠ linkT) (h2 : c :: n ≠ visT) : takeS p (c :: n) = if c = 35 ∧ nameB n = true then some { p with ids := p.ids ++ [n] } else if c = 46 ∧ nameB n = true then some { p with classes := p.classes ++ [n] } else none := by
  unfold takeS
  rw [if_neg h1, if_neg h2]
set_option maxRecDepth 100000 in
set_option maxHeartbeats 16000000 in
theorem take_any (w : World) (base g : Nat) (p : Sim) (c : UInt8) (n : List UInt8) (h : SiO w base g p) (hbase : base ≤ w.heap.size) (hn : n.length ≤ 1000000) (hi : p.ids.length ≤ 1000) (hc : p.classes.length ≤ 1000) :
    Calls Tryz.prog 138 #[.pointer (some ⟨g, 0, none⟩), .string (toB (c :: n))] w fun e w' => TaR w' base g p (takeS p (c :: n)) e ∧ Below base w w' := by
  obtain ⟨vi, vc, h⟩ := h
  have c1 : ∀ w, (Instr.slice 9 (.string (toB (c :: n))) none (some (.int .i64 1)) none).run Tryz.prog w = .ok (.string (toB [c])) w := fun w => cutH (c :: n) 1 (by simp) w
  have c2 : ∀ w, (Instr.slice 9 (.string (toB (c :: n))) (some (.int .i64 1)) none none).run Tryz.prog w = .ok (.string (toB n)) w := fun w => cutL (c :: n) 1 (by simp) w
  have cn := fun w => name_any n (by simp only [maxLen]; omega) w
  have e1 := lit_eq (c :: n) linkT
  have e2 := lit_eq (c :: n) visT
  have e3 : ((toB [c]).toList == [35]) = decide (c = 35) := by rw [lit_eq]; simp
  have e4 : ((toB [c]).toList == [46]) = decide (c = 46) := by rw [lit_eq]; simp
  unfold linkT at e1
  unfold visT at e2
  have hgl := h.blk.lt
  by_cases t1 : c :: n = linkT
  · have hT : takeS p (c :: n) = some { p with link := true } := by unfold takeS; rw [if_pos t1]
    rw [hT]
    rw [decide_eq_true (show c :: n = [58, 108, 105, 110, 107] from t1)] at e1
    generalize toB (c :: n) = S at *
    generalize toB [c] = S1 at *
    generalize toB n = S2 at *
    clear hT t1 cn e3 e4 e2
    go_enter Tryz.func138, Tryz.ntmps138
    go_wp2
    go_quiet (fail)
    have hB := below_drewN (Below.refl w.heap.size w) nq
    have h2 := h.next hB
    have hBb : Below base w (w.drewN nq) := hB.mono hbase
    have hgl2 := h2.blk.lt
    clear h hB
    generalize w.drewN nq = W2 at *
    have f3 := h2.blk.frozen 3
    have x3 := h2.blk.cell 3
    simp only [List.getElem?_toArray, List.getElem?_cons_zero, List.getElem?_cons_succ] at x3
    go_wp2
    go_ret
    exact ⟨.inr ⟨_, rfl, rfl, _, _, h2.link_⟩, hBb.setCell h2.hg _⟩
  rw [decide_eq_false (show ¬ c :: n = [58, 108, 105, 110, 107] from t1)] at e1
  by_cases t2 : c :: n = visT
  · have hT : takeS p (c :: n) = some { p with visited := true } := by unfold takeS; rw [if_neg t1, if_pos t2]
    rw [hT]
    rw [decide_eq_true (show c :: n = [58, 118, 105, 115, 105, 116, 101, 100] from t2)] at e2
    generalize toB (c :: n) = S at *
    generalize toB [c] = S1 at *
    generalize toB n = S2 at *
    clear hT t1 t2 cn e3 e4
    go_enter Tryz.func138, Tryz.ntmps138
    go_wp2
    go_quiet (fail)
    have hB := below_drewN (Below.refl w.heap.size w) nq
    have h2 := h.next hB
    have hBb : Below base w (w.drewN nq) := hB.mono hbase
    have hgl2 := h2.blk.lt
    clear h hB
    generalize w.drewN nq = W2 at *
    have f3 := h2.blk.frozen 4
    have x3 := h2.blk.cell 4
    simp only [List.getElem?_toArray, List.getElem?_cons_zero, List.getElem?_cons_succ] at x3
    go_wp2
    go_ret
    exact ⟨.inr ⟨_, rfl, rfl, _, _, h2.vis_⟩, hBb.setCell h2.hg _⟩
  rw [decide_eq_false (show ¬ c :: n = [58, 118, 105, 115, 105, 116, 101, 100] from t2)] at e2
  have hTS := take_sign (p := p) t1 t2
  rw [hTS]
  have HN : Hid (nameB n = nameB n) := rfl
  by_cases t3 : c = 35
  · rw [decide_eq_true t3] at e3
    rw [decide_eq_false (show ¬ c = 46 by rw [t3]; decide)] at e4
    cases hnm : nameB n with
    | true =>
      rw [if_pos ⟨t3, rfl⟩]
      rw [hnm] at cn
      have HS2 : Hid (txC n = [.string (toB n)]) := rfl
      generalize toB (c :: n) = S at *
      generalize toB [c] = S1 at *
      generalize hS2 : toB n = S2 at *
      clear hTS t1 t2 t3 hnm HN hS2
      go_enter Tryz.func138, Tryz.ntmps138
      go_wp2
      go_quiet (fail)
      have hB := below_drewN (Below.refl w.heap.size w) nq
      have h2 := h.next hB
      have hBb : Below base w (w.drewN nq) := hB.mono hbase
      have hgl2 := h2.blk.lt
      clear h hB
      generalize w.drewN nq = W2 at *
      have c1' := h2.blk.cell 1
      simp only [List.getElem?_toArray, List.getElem?_cons_zero, List.getElem?_cons_succ] at c1'
      obtain ⟨A, ca, hv⟩ := h2.ids.form
      obtain ⟨M, hM⟩ : ∃ M, M = p.ids.length := ⟨_, rfl⟩
      rw [← hM] at hv
      have HM := Lib.hid hM
      obtain rfl := hv
      clear hM
      go_wp2_with (first
        | (go_at_call 137; (with_reducible refine (cn _).mono ?_); rintro e w3 ⟨rfl, hb3⟩
           have h3 := h2.next hb3
           have hB3 : Below base w w3 := hBb.trans (hb3.mono (Nat.le_trans hbase hBb.size))
           have c13 := (hb3.cell (p := ⟨g, 1, none⟩) hgl2).trans c1'
           have hA := below_al (Below.refl w3.heap.size w3) (.cells #[.string S2] 9)
           have hY := h3.ids.alloc (.cells #[.string S2] 9)
           have hnc : ∀ (j : Nat) (u : Value), (txC n)[j]? = some u → (w3.alloc (.cells #[.string S2] 9)).cell? ⟨w3.heap.size, j, none⟩ = some u := by
             rw [HS2.out]
             exact RowG.new_cells w3 9 [.string S2]
           have hBA : Below base w (w3.alloc (.cells #[.string S2] 9)) := hB3.alloc (Nat.le_trans hbase hB3.size) _
           have hzA : base ≤ (w3.alloc (.cells #[.string S2] 9)).heap.size := Nat.le_trans hbase hBA.size)
        | (refine RowG.wpList_more _ (by rfl) _ _ 49 (by rfl) 9 txC 1 16 _ info_str Tryz.underlying49 rfl (by decide) txC_len txC_one base _ p.ids n (by rfl) w3.heap.size _ (by rfl) hY hnc (by simp only [maxLen]; omega) (by omega) hzA ?_
           intro v6 w6 hrow6 hg6 ho6
           obtain ⟨A7, c7, hv7⟩ := hrow6.form
           obtain ⟨M7, hM7⟩ : ∃ M7, M7 = (p.ids ++ [n]).length := ⟨_, rfl⟩
           rw [← hM7] at hv7
           clear hM7
           subst hv7
           have h6 := h3.id_ hA hrow6 hg6 ho6
           have hB6 : Below base w w6 := hBA.grown hg6 hzA (fun k hk => (World.ownsRow.lt hY k hk).1)
           have k6 := blk_kt (h3.next hA).blk (KT.grown (e := 70) hY hg6 (by decide))
           have f6 := k6.frozen 1
           have x6 := k6.cell 1
           simp only [List.getElem?_toArray, List.getElem?_cons_zero, List.getElem?_cons_succ] at x6))
      go_ret
      exact ⟨.inr ⟨_, rfl, rfl, _, _, h6⟩, hB6.setCell h2.hg _⟩
    | false =>
      have hno : (if c = 35 ∧ false = true then some { p with ids := p.ids ++ [n] } else if c = 46 ∧ false = true then some { p with classes := p.classes ++ [n] } else none : Option Sim) = none := by simp
      rw [hno]
      rw [hnm] at cn
      generalize toB (c :: n) = S at *
      generalize toB [c] = S1 at *
      generalize toB n = S2 at *
      clear hTS t1 t2 t3 hnm HN hno
      go_enter Tryz.func138, Tryz.ntmps138
      go_wp2
      go_quiet (fail)
      have hB := below_drewN (Below.refl w.heap.size w) nq
      have h2 := h.next hB
      have hBb : Below base w (w.drewN nq) := hB.mono hbase
      clear h hB
      generalize w.drewN nq = W2 at *
      go_wp2_with (first
        | (go_at_call 137; (with_reducible refine (cn _).mono ?_); rintro e w3 ⟨rfl, hb3⟩
           have h3 := h2.next hb3
           have hB3 : Below base w w3 := hBb.trans (hb3.mono (Nat.le_trans hbase hBb.size))))
      go_ret
      exact ⟨.inl ⟨rfl, rfl, _, _, h3⟩, hB3⟩
  rw [decide_eq_false t3] at e3
  by_cases t4 : c = 46
  · rw [decide_eq_true t4] at e4
    cases hnm : nameB n with
    | true =>
      rw [if_neg (by rintro ⟨e, -⟩; exact t3 e), if_pos ⟨t4, rfl⟩]
      rw [hnm] at cn
      have HS2 : Hid (txC n = [.string (toB n)]) := rfl
      generalize toB (c :: n) = S at *
      generalize toB [c] = S1 at *
      generalize hS2 : toB n = S2 at *
      clear hTS t1 t2 t3 t4 hnm HN hS2
      go_enter Tryz.func138, Tryz.ntmps138
      go_wp2
      go_quiet (fail)
      have hB := below_drewN (Below.refl w.heap.size w) nq
      have h2 := h.next hB
      have hBb : Below base w (w.drewN nq) := hB.mono hbase
      have hgl2 := h2.blk.lt
      clear h hB
      generalize w.drewN nq = W2 at *
      have c1' := h2.blk.cell 2
      simp only [List.getElem?_toArray, List.getElem?_cons_zero, List.getElem?_cons_succ] at c1'
      obtain ⟨A, ca, hv⟩ := h2.classes.form
      obtain ⟨M, hM⟩ : ∃ M, M = p.classes.length := ⟨_, rfl⟩
      rw [← hM] at hv
      have HM := Lib.hid hM
      obtain rfl := hv
      clear hM
      go_wp2_with (first
        | (go_at_call 137; (with_reducible refine (cn _).mono ?_); rintro e w3 ⟨rfl, hb3⟩
           have h3 := h2.next hb3
           have hB3 : Below base w w3 := hBb.trans (hb3.mono (Nat.le_trans hbase hBb.size))
           have c13 := (hb3.cell (p := ⟨g, 2, none⟩) hgl2).trans c1'
           have hA := below_al (Below.refl w3.heap.size w3) (.cells #[.string S2] 9)
           have hY := h3.classes.alloc (.cells #[.string S2] 9)
           have hnc : ∀ (j : Nat) (u : Value), (txC n)[j]? = some u → (w3.alloc (.cells #[.string S2] 9)).cell? ⟨w3.heap.size, j, none⟩ = some u := by
             rw [HS2.out]
             exact RowG.new_cells w3 9 [.string S2]
           have hBA : Below base w (w3.alloc (.cells #[.string S2] 9)) := hB3.alloc (Nat.le_trans hbase hB3.size) _
           have hzA : base ≤ (w3.alloc (.cells #[.string S2] 9)).heap.size := Nat.le_trans hbase hBA.size)
        | (refine RowG.wpList_more _ (by rfl) _ _ 49 (by rfl) 9 txC 1 16 _ info_str Tryz.underlying49 rfl (by decide) txC_len txC_one base _ p.classes n (by rfl) w3.heap.size _ (by rfl) hY hnc (by simp only [maxLen]; omega) (by omega) hzA ?_
           intro v6 w6 hrow6 hg6 ho6
           obtain ⟨A7, c7, hv7⟩ := hrow6.form
           obtain ⟨M7, hM7⟩ : ∃ M7, M7 = (p.classes ++ [n]).length := ⟨_, rfl⟩
           rw [← hM7] at hv7
           clear hM7
           subst hv7
           have h6 := h3.class_ hA hrow6 hg6 ho6
           have hB6 : Below base w w6 := hBA.grown hg6 hzA (fun k hk => (World.ownsRow.lt hY k hk).1)
           have k6 := blk_kt (h3.next hA).blk (KT.grown (e := 70) hY hg6 (by decide))
           have f6 := k6.frozen 2
           have x6 := k6.cell 2
           simp only [List.getElem?_toArray, List.getElem?_cons_zero, List.getElem?_cons_succ] at x6))
      go_ret
      exact ⟨.inr ⟨_, rfl, rfl, _, _, h6⟩, hB6.setCell h2.hg _⟩
    | false =>
      have hno : (if c = 35 ∧ false = true then some { p with ids := p.ids ++ [n] } else if c = 46 ∧ false = true then some { p with classes := p.classes ++ [n] } else none : Option Sim) = none := by simp
      rw [hno]
      rw [hnm] at cn
      generalize toB (c :: n) = S at *
      generalize toB [c] = S1 at *
      generalize toB n = S2 at *
      clear hTS t1 t2 t3 t4 hnm HN hno
      go_enter Tryz.func138, Tryz.ntmps138
      go_wp2
      go_quiet (fail)
      have hB := below_drewN (Below.refl w.heap.size w) nq
      have h2 := h.next hB
      have hBb : Below base w (w.drewN nq) := hB.mono hbase
      clear h hB
      generalize w.drewN nq = W2 at *
      go_wp2_with (first
        | (go_at_call 137; (with_reducible refine (cn _).mono ?_); rintro e w3 ⟨rfl, hb3⟩
           have h3 := h2.next hb3
           have hB3 : Below base w w3 := hBb.trans (hb3.mono (Nat.le_trans hbase hBb.size))))
      go_ret
      exact ⟨.inl ⟨rfl, rfl, _, _, h3⟩, hB3⟩
  · rw [decide_eq_false t4] at e4
    have hno : (if c = 35 ∧ nameB n = true then some { p with ids := p.ids ++ [n] } else if c = 46 ∧ nameB n = true then some { p with classes := p.classes ++ [n] } else none : Option Sim) = none := by simp [t3, t4]
    rw [hno]
    generalize toB (c :: n) = S at *
    generalize toB [c] = S1 at *
    generalize toB n = S2 at *
    clear hTS t1 t2 t3 t4 HN hno cn
    go_enter Tryz.func138, Tryz.ntmps138
    go_wp2
    go_quiet (fail)
    have hB := below_drewN (Below.refl w.heap.size w) nq
    have h2 := h.next hB
    have hBb : Below base w (w.drewN nq) := hB.mono hbase
    clear h hB
    generalize w.drewN nq = W2 at *
    go_wp2
    go_ret
    exact ⟨.inl ⟨rfl, rfl, _, _, h2⟩, hBb⟩
end Sel
end Go.Proofs.YtdfcahdipalmkaaGreatDoor
namespace Go.Proofs.YtdfcahdipalmkaaGreatDoor
open Go.ChangeShapes Go.WideShapes Go.ChangeAt Go.RowKit Go.Shelf
namespace Sel
open Tok
open RowG (Row)
theorem row_less {α : Type} {w : World} {base b k : Nat} {e : TypeId} {enc : α → List Value} {v : Value} {l : List α} (h : Row w base e k enc v l) (hb : b ≤ base) : Row w b e k enc v l := by
  refine ⟨h.1, ?_⟩
  rcases h.2 with h2 | ⟨g, cap, cur, h1, h2, h3, h4⟩
  · exact Or.inl h2
  · exact Or.inr ⟨g, cap, cur, h1, Nat.le_trans hb h2, h3, h4⟩
def siV (p : Sim) (vi vc : Value) : Value := .agg #[.string (toB p.tag), vi, vc, .bool p.link, .bool p.visited]
/-- What readSimple answers. -/
def SiR (w : World) (base : Nat) (x : Option Sim) (e : Ending) : Prop := match x with
  | none => e = .returned (.tuple #[.agg #[.string ⟨#[]⟩, .slice none 0 0, .slice none 0 0, .bool false, .bool false], .bool false])
  | some p => ∃ vi vc, e = .returned (.tuple #[siV p vi vc, .bool true]) ∧ Row w base 9 1 txC vi p.ids ∧ Row w base 9 1 txC vc p.classes
theorem own_nil (k : Nat) (p : Sim) : ownF k [] p = some p := own_done k p
theorem own_zero {c : UInt8} {t : List UInt8} (p : Sim) : ownF 0 (c :: t) p = none := rfl
theorem own_succ {k : Nat} {c : UInt8} {t : List UInt8} (p : Sim) : ownF (k + 1) (c :: t) p = match takeS p (c :: own1 t) with
    | none => none
    | some p' => ownF k (own2 t) p' := rfl
theorem own2_drop (t : List UInt8) : own2 t = t.drop (own1 t).length := by
  have h : own1 t ++ own2 t = t := List.takeWhile_append_dropWhile
  have h2 : (own1 t ++ own2 t).drop (own1 t).length = own2 t := List.drop_left
  rw [h] at h2
  exact h2.symm
theorem own1_take (t : List UInt8) : own1 t = t.take (own1 t).length := by
  have h : own1 t ++ own2 t = t := List.takeWhile_append_dropWhile
  have h2 : (own1 t ++ own2 t).take (own1 t).length = own1 t := List.take_left
  rw [h] at h2
  exact h2.symm
theorem own1_le (t : List UInt8) : (own1 t).length ≤ t.length := (List.takeWhile_sublist _).length_le
theorem own2_le (t : List UInt8) : (own2 t).length ≤ t.length := (List.dropWhile_sublist _).length_le
theorem take_cnt {p q : Sim} {own : List UInt8} (h : takeS p own = some q) : q.ids.length ≤ p.ids.length + 1 ∧ q.classes.length ≤ p.classes.length + 1 := by
  unfold takeS at h
  split at h
  · injection h with h; subst h; exact ⟨Nat.le_succ _, Nat.le_succ _⟩
  · split at h
    · injection h with h; subst h; exact ⟨Nat.le_succ _, Nat.le_succ _⟩
    · split at h
      · cases h
      · split at h
        · injection h with h; subst h; exact ⟨by simp, Nat.le_succ _⟩
        · split at h
          · injection h with h; subst h; exact ⟨Nat.le_succ _, by simp⟩
          · cases h
theorem info_sim5 : (Tryz.prog.info? 70).map (·.size) = some 5 := by kernel_rfl
def zS : Array Value := #[.string ⟨#[]⟩, .slice none 0 0, .slice none 0 0, .bool false, .bool false]
theorem ta_none {w : World} {base g : Nat} {p : Sim} {e : Ending} (h : TaR w base g p none e) : e = .returned (.bool false) ∧ SiO w base g p := by
  rcases h with ⟨-, h1, h2⟩ | ⟨q, hq, -⟩
  · exact ⟨h1, h2⟩
  · cases hq
theorem ta_some {w : World} {base g : Nat} {p q : Sim} {e : Ending} (h : TaR w base g p (some q) e) : e = .returned (.bool true) ∧ SiO w base g q := by
  rcases h with ⟨hq, -⟩ | ⟨q', hq, h1, h2⟩
  · cases hq
  · obtain rfl := Option.some.inj hq
    exact ⟨h1, h2⟩
set_option maxRecDepth 100000 in
set_option maxHeartbeats 16000000 in
theorem readSimple_any (l : List UInt8) (hl : l.length ≤ 100000) (w : World) :
    Calls Tryz.prog 99 #[.string (toB l)] w fun e w' => SiR w' w.heap.size (simF l) e ∧ Below w.heap.size w w' := by
  have cu := fun w => until_bg l (by unfold mostB; omega) w
  have hcl := fun w => cutL l (own1 l).length (own1_le l) w
  have z0 := lit_eq l []
  have z1 := lit_eq (own1 l) [42]
  have z2 := lit_eq (own1 l) []
  have K0 := (Blk.new w 70 zS).alloc (.cells zS 70)
  have K1 := Blk.new (w.alloc (.cells zS 70)) 70 zS
  rw [size_al] at K1
  have hB0 := below_al (below_al (Below.refl w.heap.size w) (.cells zS 70)) (.cells zS 70)
  have hz0 : ((w.alloc (.cells zS 70)).alloc (.cells zS 70)).heap.size = w.heap.size + 1 + 1 := by rw [size_al, size_al]
  have hS0 : SiM ((w.alloc (.cells zS 70)).alloc (.cells zS 70)) (w.heap.size + 1) (w.heap.size + 1) (.slice none 0 0) (.slice none 0 0) sim0 := ⟨K1, Nat.le_refl _, Row.nil _ _ _ _ _, Row.nil _ _ _ _ _, fun b hb => by simp [Value.ownBlock] at hb⟩
  obtain ⟨R, hR⟩ : ∃ R, R = simF l := ⟨_, rfl⟩
  rw [← hR]
  unfold simF at hR
  unfold zS at *
  have HR := Lib.hid hR
  clear hR
  by_cases t0 : l = []
  · obtain rfl : R = none := by rw [HR.out, if_pos (.inl t0)]
    subst t0
    have ho : own1 [] = [] := rfl
    have z1' : ((toB []).toList == [42]) = false := by rw [lit_eq]; rfl
    have z2' : ((toB []).toList == []) = true := by rw [lit_eq]; rfl
    rw [ho] at cu
    clear HR z0 z1 z2 hcl
    generalize toB [] = E at *
    go_enter Tryz.func99, Tryz.ntmps99
    go_wp2_with (first
      | (go_at_call 136; (with_reducible refine (cu _).mono ?_); rintro e w2 ⟨rfl, hb2⟩
         have hS2 := hS0.next hb2
         have KR := K0.next hb2
         have hB2 := below_next hB0 hb2
         have hz2 := hb2.size
         have p0 := hS2.blk.cell 0
         have pf := hS2.blk.frozen 0
         simp only [List.getElem?_toArray, List.getElem?_cons_zero] at p0
         obtain ⟨k0, k1, k2, k3, k4⟩ := blk5 KR
         obtain ⟨f0, f1, f2, f3, f4⟩ := fz5 KR
         have KRt := blk_setOther (p := ⟨w.heap.size + 1, 0, none⟩) KR (Nat.ne_of_lt (Nat.lt_succ_self _)) (.string E)
         have hBt := hB2.setCell (p := ⟨w.heap.size + 1, 0, none⟩) (by show w.heap.size ≤ w.heap.size + 1; omega) (.string E)))
    have K5 := blk_set5 KRt (.string ⟨#[]⟩) (.slice none 0 0) (.slice none 0 0) (.bool false) (.bool false)
    have B5 := below_set5 hBt (Nat.le_refl w.heap.size) (.string ⟨#[]⟩) (.slice none 0 0) (.slice none 0 0) (.bool false) (.bool false)
    generalize (((((w2.setCell ⟨w.heap.size + 1, 0, none⟩ (.string E)).setCell ⟨w.heap.size, 0, none⟩ (.string ⟨#[]⟩)).setCell ⟨w.heap.size, 1, none⟩ (.slice none 0 0)).setCell ⟨w.heap.size, 2, none⟩ (.slice none 0 0)).setCell ⟨w.heap.size, 3, none⟩ (.bool false)).setCell ⟨w.heap.size, 4, none⟩ (.bool false) = WF at K5 B5 ⊢
    obtain ⟨r0, r1, r2, r3, r4⟩ := blk5 K5
    exact bodyPost_ret (v := .tuple #[.agg #[.string ⟨#[]⟩, .slice none 0 0, .slice none 0 0, .bool false, .bool false], .bool false]) (by simp [results, Tryz.results99, go_sem, r0, r1, r2, r3, r4]) rfl ⟨rfl, B5⟩
  rw [decide_eq_false t0] at z0
  have hTz : (toB (own1 l)).size = (own1 l).length := toB_size _
  rw [← own2_drop, ← hTz] at hcl
  have HRO : Hid (¬(tagP l ≠ [] ∧ nameB (tagP l) = false) → R = ownF 8 (own2 l) { sim0 with tag := tagP l }) := by
    intro e
    rw [HR.out, if_neg]
    rintro (e2 | e2)
    · exact t0 e2
    · exact e e2
  have HRN : Hid (tagP l ≠ [] ∧ nameB (tagP l) = false → R = none) := fun e => by rw [HR.out, if_pos (.inr e)]
  have hrl := own2_le l
  clear HR hTz
  by_cases t1 : own1 l = [42]
  · rw [decide_eq_true t1] at z1
    have htag : tagP l = [] := by unfold tagP; rw [if_pos t1]
    have HR0 : Hid (R = ownF (8 - 0) (own2 l) { sim0 with tag := tagP l }) := HRO.out (fun e => e.1 htag)
    have hS0' : SiM ((w.alloc (.cells #[.string ⟨#[]⟩, .slice none 0 0, .slice none 0 0, .bool false, .bool false] 70)).alloc (.cells #[.string ⟨#[]⟩, .slice none 0 0, .slice none 0 0, .bool false, .bool false] 70)) (w.heap.size + 1) (w.heap.size + 1) (.slice none 0 0) (.slice none 0 0) { sim0 with tag := tagP l } := by rw [htag]; exact hS0
    clear HRO HRN z2 t1 hS0
    generalize hT : toB (own1 l) = T at *
    generalize hL : toB l = L at *
    clear hT hL
    go_enter Tryz.func99, Tryz.ntmps99
    go_wp2_with (first
      | (go_at_call 136; (with_reducible refine (cu _).mono ?_); rintro e w2 ⟨rfl, hb2⟩
         have hS2 := hS0'.next hb2
         have KR := K0.next hb2
         have hB2 := below_next hB0 hb2
         have hz2 := hb2.size
         obtain ⟨k0, k1, k2, k3, k4⟩ := blk5 KR
         obtain ⟨f0, f1, f2, f3, f4⟩ := fz5 KR
         have p0 : w2.cell? ⟨w.heap.size + 1, 0, none⟩ = some (.string ⟨#[]⟩) := by
           have := hS2.blk.cell 0
           rw [htag] at this
           exact this))
    rw [hz0] at hz2
    have hS3 := hS2
    have KR3 := KR
    have hB3 := hB2
    have hz3 := hz2
    have hS0 := hS0'
    clear hS2 KR hB2 hz2 p0 htag hS0' k0 k1 k2 k3 k4 f0 f1 f2 f3 f4 hb2
    generalize w2 = W3 at *
    clear hS0 K0 K1 hB0 cu hcl z0 z1
    have hS3' : SiO W3 (w.heap.size + 1) (w.heap.size + 1) { sim0 with tag := tagP l } := ⟨_, _, hS3⟩
    clear hS3
    go_loopw [6, 7] (fun v6 v7 wr => ∃ (k : Nat) (rest : List UInt8) (p' : Sim), v6 = .string (toB rest) ∧ v7 = .int .i64 k ∧ k ≤ 8 ∧ rest.length ≤ l.length ∧ SiO wr (w.heap.size + 1) (w.heap.size + 1) p' ∧ p'.ids.length ≤ k ∧ p'.classes.length ≤ k ∧ Hid (R = ownF (8 - k) rest p') ∧ Blk wr w.heap.size 70 #[.string ⟨#[]⟩, .slice none 0 0, .slice none 0 0, .bool false, .bool false] ∧ Below w.heap.size w wr ∧ w.heap.size + 1 + 1 ≤ wr.heap.size) (fun _ v7 _ => 9 - (intOf v7).toNat)
    case atStart => exact ⟨0, own2 l, _, rfl, rfl, by omega, hrl, hS3', Nat.zero_le _, Nat.zero_le _, HR0, KR3, hB3, hz3⟩
    case round =>
      obtain ⟨k, rest, p', rfl, rfl, hk, hrest, ⟨vi, vc, hS⟩, hi, hc, HK, KR, hBr, hzr⟩ := hrel
      obtain ⟨k0, k1, k2, k3, k4⟩ := blk5 KR
      obtain ⟨f0, f1, f2, f3, f4⟩ := fz5 KR
      clear hS3' HR0 KR3 hB3 hz3
      cases rest with
      | nil =>
        have z0 : ((toB []).toList == []) = true := by rw [lit_eq]; rfl
        obtain ⟨Ai, ci, rfl⟩ := hS.ids.form
        obtain ⟨Ac, cc, rfl⟩ := hS.classes.form
        obtain ⟨s0, s1, s2, s3, s4⟩ := blk5 hS.blk
        have hRp : R = some p' := by rw [HK.out, own_nil]
        generalize toB [] = E at *
        go_wp2
        have hKT := kt_set5 (e := 9) KR (by decide) (.string (toB p'.tag)) (.slice Ai p'.ids.length ci) (.slice Ac p'.classes.length cc) (.bool p'.link) (.bool p'.visited)
        have hri := row_less (row_kt hS.ids hKT) (Nat.le_succ w.heap.size)
        have hrc := row_less (row_kt hS.classes hKT) (Nat.le_succ w.heap.size)
        have K5 := blk_set5 KR (.string (toB p'.tag)) (.slice Ai p'.ids.length ci) (.slice Ac p'.classes.length cc) (.bool p'.link) (.bool p'.visited)
        have B5 := below_set5 hBr (Nat.le_refl w.heap.size) (.string (toB p'.tag)) (.slice Ai p'.ids.length ci) (.slice Ac p'.classes.length cc) (.bool p'.link) (.bool p'.visited)
        generalize ((((wr.setCell ⟨w.heap.size, 0, none⟩ (.string (toB p'.tag))).setCell ⟨w.heap.size, 1, none⟩ (.slice Ai p'.ids.length ci)).setCell ⟨w.heap.size, 2, none⟩ (.slice Ac p'.classes.length cc)).setCell ⟨w.heap.size, 3, none⟩ (.bool p'.link)).setCell ⟨w.heap.size, 4, none⟩ (.bool p'.visited) = WF at K5 B5 hri hrc ⊢
        obtain ⟨r0, r1, r2, r3, r4⟩ := blk5 K5
        exact bodyPost_ret (v := .tuple #[siV p' (.slice Ai p'.ids.length ci) (.slice Ac p'.classes.length cc), .bool true]) (by simp [results, Tryz.results99, go_sem, siV, r0, r1, r2, r3, r4]) rfl ⟨by rw [hRp]; exact ⟨_, _, rfl, hri, hrc⟩, B5⟩
      | cons c t =>
        have z0 : ((toB (c :: t)).toList == []) = false := by rw [lit_eq]; simp
        have c1 : ∀ w, (Instr.slice 9 (.string (toB (c :: t))) (some (.int .i64 1)) none none).run Tryz.prog w = .ok (.string (toB t)) w := fun w => cutL (c :: t) 1 (by simp) w
        rw [List.length_cons] at hrest
        have cu := fun w => until_bg t (by unfold mostB; omega) w
        have hol := own1_le t
        have hTz : (toB (own1 t)).size = (own1 t).length := toB_size _
        have hM : (1 : Int) + ((toB (own1 t)).size : Int) = (((own1 t).length + 1 : Nat) : Int) := by rw [hTz]; omega
        have c2 := fun w => cutH (c :: t) ((own1 t).length + 1) (by rw [List.length_cons]; omega) w
        have e2 : (c :: t).take ((own1 t).length + 1) = c :: own1 t := by rw [List.take_succ_cons, ← own1_take]
        rw [e2] at c2
        have c3 := fun w => cutL (c :: t) ((own1 t).length + 1) (by rw [List.length_cons]; omega) w
        have e3 : (c :: t).drop ((own1 t).length + 1) = own2 t := by rw [List.drop_succ_cons, ← own2_drop]
        rw [e3] at c3
        have hOz : ((toB (c :: own1 t)).size : Int) = (((own1 t).length + 1 : Nat) : Int) := by rw [toB_size, List.length_cons]
        have hrl2 := own2_le t
        obtain ⟨m, hm⟩ : ∃ m, m = (own1 t).length + 1 := ⟨_, rfl⟩
        rw [← hm] at hM c2 c3 hOz
        have hm0 : (0 : Int) ≤ (m : Int) := Int.natCast_nonneg _
        have hmb : m ≤ 1000000 := by omega
        clear e2 e3 hTz hm
        generalize hE : toB (c :: t) = E at *
        generalize toB t = Et at *
        generalize toB (own1 t) = Eo at *
        generalize hO : toB (c :: own1 t) = O at *
        have HO := Lib.hid hO
        clear hE hO
        by_cases hk8 : k = 8
        · subst hk8
          obtain rfl : R = none := by rw [HK.out]; rfl
          clear c3 hOz
          go_wp2_with (first
            | (go_at_call 136; (with_reducible refine (cu _).mono ?_); rintro e w4 ⟨rfl, hb4⟩
               have hS4 := (show SiO wr (w.heap.size + 1) (w.heap.size + 1) p' from ⟨_, _, hS⟩).next hb4
               have KR4 := KR.next hb4
               have hB4 := below_next hBr hb4
               have hz4 := hb4.size
               obtain ⟨y0, y1, y2, y3, y4⟩ := blk5 KR4
               obtain ⟨g0, g1, g2, g3, g4⟩ := fz5 KR4))
          have K5 := blk_set5 KR4 (.string ⟨#[]⟩) (.slice none 0 0) (.slice none 0 0) (.bool false) (.bool false)
          have B5 := below_set5 hB4 (Nat.le_refl w.heap.size) (.string ⟨#[]⟩) (.slice none 0 0) (.slice none 0 0) (.bool false) (.bool false)
          generalize ((((w4.setCell ⟨w.heap.size, 0, none⟩ (.string ⟨#[]⟩)).setCell ⟨w.heap.size, 1, none⟩ (.slice none 0 0)).setCell ⟨w.heap.size, 2, none⟩ (.slice none 0 0)).setCell ⟨w.heap.size, 3, none⟩ (.bool false)).setCell ⟨w.heap.size, 4, none⟩ (.bool false) = WF at K5 B5 ⊢
          obtain ⟨r0, r1, r2, r3, r4⟩ := blk5 K5
          exact bodyPost_ret (v := .tuple #[.agg #[.string ⟨#[]⟩, .slice none 0 0, .slice none 0 0, .bool false, .bool false], .bool false]) (by simp [results, Tryz.results99, go_sem, r0, r1, r2, r3, r4]) rfl ⟨rfl, B5⟩
        · have hk8b : ((k : Int) == 8) = false := by rw [beq_eq_false_iff_ne]; omega
          obtain ⟨j, hj⟩ : ∃ j, 8 - k = j + 1 := ⟨7 - k, by omega⟩
          have hj2 : 8 - (k + 1) = j := by omega
          have HK2 : Hid (R = match takeS p' (c :: own1 t) with | none => none | some q => ownF j (own2 t) q) := by show _ = _; rw [HK.out, hj]; rfl
          have ct := fun w' h hb => take_any w' (w.heap.size + 1) (w.heap.size + 1) p' c (own1 t) h hb (by omega) (by omega) (by omega)
          have hcnt := fun q h => take_cnt (p := p') (q := q) (own := c :: own1 t) h
          rw [HO.out] at ct
          rw [← hj2] at HK2
          have hk7 : k ≤ 7 := by omega
          clear HK hj hj2 hk8
          cases hts : takeS p' (c :: own1 t) with
          | none =>
            rw [hts] at ct HK2
            obtain rfl : R = none := HK2.out
            clear HK2 hts hcnt c3
            go_wp2_with (first
              | (go_at_call 136; (with_reducible refine (cu _).mono ?_); rintro e w4 ⟨rfl, hb4⟩
                 have hS4 := (show SiO wr (w.heap.size + 1) (w.heap.size + 1) p' from ⟨_, _, hS⟩).next hb4
                 have KR4 := KR.next hb4
                 have hB4 := below_next hBr hb4
                 have hz4 := hb4.size
                 obtain ⟨y0, y1, y2, y3, y4⟩ := blk5 KR4
                 obtain ⟨g0, g1, g2, g3, g4⟩ := fz5 KR4)
              | (go_at_call 138; (with_reducible refine (ct _ hS4 (by omega)).mono ?_); rintro e w5 ⟨hta, hb5⟩
                 obtain ⟨rfl, hS5⟩ := ta_none hta
                 have KR5 := blk_below KR4 hb5 (Nat.lt_succ_self _)
                 have hB5 : Below w.heap.size w w5 := hB4.trans (hb5.mono (Nat.le_succ _))
                 obtain ⟨x0, x1, x2, x3, x4⟩ := blk5 KR5
                 obtain ⟨h0, h1, h2, h3, h4⟩ := fz5 KR5))
            have K5 := blk_set5 KR5 (.string ⟨#[]⟩) (.slice none 0 0) (.slice none 0 0) (.bool false) (.bool false)
            have B5 := below_set5 hB5 (Nat.le_refl w.heap.size) (.string ⟨#[]⟩) (.slice none 0 0) (.slice none 0 0) (.bool false) (.bool false)
            generalize ((((w5.setCell ⟨w.heap.size, 0, none⟩ (.string ⟨#[]⟩)).setCell ⟨w.heap.size, 1, none⟩ (.slice none 0 0)).setCell ⟨w.heap.size, 2, none⟩ (.slice none 0 0)).setCell ⟨w.heap.size, 3, none⟩ (.bool false)).setCell ⟨w.heap.size, 4, none⟩ (.bool false) = WF at K5 B5 ⊢
            obtain ⟨r0, r1, r2, r3, r4⟩ := blk5 K5
            exact bodyPost_ret (v := .tuple #[.agg #[.string ⟨#[]⟩, .slice none 0 0, .slice none 0 0, .bool false, .bool false], .bool false]) (by simp [results, Tryz.results99, go_sem, r0, r1, r2, r3, r4]) rfl ⟨rfl, B5⟩
          | some q =>
            rw [hts] at ct HK2
            obtain ⟨hq1, hq2⟩ := hcnt q hts
            clear hts hcnt
            go_wp2_with (first
              | (go_at_call 136; (with_reducible refine (cu _).mono ?_); rintro e w4 ⟨rfl, hb4⟩
                 have hS4 := (show SiO wr (w.heap.size + 1) (w.heap.size + 1) p' from ⟨_, _, hS⟩).next hb4
                 have KR4 := KR.next hb4
                 have hB4 := below_next hBr hb4
                 have hz4 := hb4.size
                 obtain ⟨y0, y1, y2, y3, y4⟩ := blk5 KR4
                 obtain ⟨g0, g1, g2, g3, g4⟩ := fz5 KR4)
              | (go_at_call 138; (with_reducible refine (ct _ hS4 (by omega)).mono ?_); rintro e w5 ⟨hta, hb5⟩
                 obtain ⟨rfl, hS5⟩ := ta_some hta
                 have KR5 := blk_below KR4 hb5 (Nat.lt_succ_self _)
                 have hB5 : Below w.heap.size w w5 := hB4.trans (hb5.mono (Nat.le_succ _))
                 have hz5 := Nat.le_trans hzr (Nat.le_trans hz4 hb5.size)))
            go_roundw
            case rel => exact ⟨k + 1, own2 t, q, rfl, by go_num, by omega, by omega, hS5, by omega, by omega, HK2, KR5, hB5, hz5⟩
            case measure => simp [intOf]; omega
  rw [decide_eq_false t1] at z1
  have htag : tagP l = own1 l := by unfold tagP; rw [if_neg t1]
  by_cases t2 : own1 l = []
  · rw [decide_eq_true t2] at z2
    have HR0 : Hid (R = ownF (8 - 0) (own2 l) { sim0 with tag := tagP l }) := HRO.out (fun e => e.1 (by rw [htag]; exact t2))
    have HTG := Lib.hid htag
    clear HRO HRN t1 htag
    clear t2
    generalize hT : toB (own1 l) = T at *
    have HT := Lib.hid hT
    generalize hL : toB l = L at *
    clear hT hL
    go_enter Tryz.func99, Tryz.ntmps99
    go_wp2_with (first
      | (go_at_call 136; (with_reducible refine (cu _).mono ?_); rintro e w2 ⟨rfl, hb2⟩
         have hS2 := hS0.next hb2
         have KR := K0.next hb2
         have hB2 := below_next hB0 hb2
         have hz2 := hb2.size
         have p0 := hS2.blk.cell 0
         have pf := hS2.blk.frozen 0
         simp only [List.getElem?_toArray, List.getElem?_cons_zero] at p0
         obtain ⟨k0, k1, k2, k3, k4⟩ := blk5 KR
         obtain ⟨f0, f1, f2, f3, f4⟩ := fz5 KR
         have KRt := blk_setOther (p := ⟨w.heap.size + 1, 0, none⟩) KR (Nat.ne_of_lt (Nat.lt_succ_self _)) (.string T)
         have hBt := hB2.setCell (p := ⟨w.heap.size + 1, 0, none⟩) (by show w.heap.size ≤ w.heap.size + 1; omega) (.string T)
         have hSt := hS2.tag_ (own1 l)
         rw [HT.out, ← HTG.out] at hSt))
    rw [hz0] at hz2
    have hS3 := hSt
    have KR3 := KRt
    have hB3 := hBt
    have hz3 : w.heap.size + 1 + 1 ≤ (w2.setCell ⟨w.heap.size + 1, 0, none⟩ (.string T)).heap.size := Nat.le_trans hz2 ((Below.refl (w.heap.size + 1) w2).setCell (p := ⟨w.heap.size + 1, 0, none⟩) (Nat.le_refl _) (.string T)).size
    clear hS2 KR hB2 hz2 p0 pf k0 k1 k2 k3 k4 f0 f1 f2 f3 f4 hb2 hSt KRt hBt
    generalize w2.setCell ⟨w.heap.size + 1, 0, none⟩ (.string T) = W3 at *
    clear hS0 K0 K1 hB0 cu hcl z0 z1
    have hS3' : SiO W3 (w.heap.size + 1) (w.heap.size + 1) { sim0 with tag := tagP l } := ⟨_, _, hS3⟩
    clear hS3
    go_loopw [6, 7] (fun v6 v7 wr => ∃ (k : Nat) (rest : List UInt8) (p' : Sim), v6 = .string (toB rest) ∧ v7 = .int .i64 k ∧ k ≤ 8 ∧ rest.length ≤ l.length ∧ SiO wr (w.heap.size + 1) (w.heap.size + 1) p' ∧ p'.ids.length ≤ k ∧ p'.classes.length ≤ k ∧ Hid (R = ownF (8 - k) rest p') ∧ Blk wr w.heap.size 70 #[.string ⟨#[]⟩, .slice none 0 0, .slice none 0 0, .bool false, .bool false] ∧ Below w.heap.size w wr ∧ w.heap.size + 1 + 1 ≤ wr.heap.size) (fun _ v7 _ => 9 - (intOf v7).toNat)
    case atStart => exact ⟨0, own2 l, _, rfl, rfl, by omega, hrl, hS3', Nat.zero_le _, Nat.zero_le _, HR0, KR3, hB3, hz3⟩
    case round =>
      obtain ⟨k, rest, p', rfl, rfl, hk, hrest, ⟨vi, vc, hS⟩, hi, hc, HK, KR, hBr, hzr⟩ := hrel
      obtain ⟨k0, k1, k2, k3, k4⟩ := blk5 KR
      obtain ⟨f0, f1, f2, f3, f4⟩ := fz5 KR
      clear hS3' HR0 KR3 hB3 hz3
      cases rest with
      | nil =>
        have z0 : ((toB []).toList == []) = true := by rw [lit_eq]; rfl
        obtain ⟨Ai, ci, rfl⟩ := hS.ids.form
        obtain ⟨Ac, cc, rfl⟩ := hS.classes.form
        obtain ⟨s0, s1, s2, s3, s4⟩ := blk5 hS.blk
        have hRp : R = some p' := by rw [HK.out, own_nil]
        generalize toB [] = E at *
        go_wp2
        have hKT := kt_set5 (e := 9) KR (by decide) (.string (toB p'.tag)) (.slice Ai p'.ids.length ci) (.slice Ac p'.classes.length cc) (.bool p'.link) (.bool p'.visited)
        have hri := row_less (row_kt hS.ids hKT) (Nat.le_succ w.heap.size)
        have hrc := row_less (row_kt hS.classes hKT) (Nat.le_succ w.heap.size)
        have K5 := blk_set5 KR (.string (toB p'.tag)) (.slice Ai p'.ids.length ci) (.slice Ac p'.classes.length cc) (.bool p'.link) (.bool p'.visited)
        have B5 := below_set5 hBr (Nat.le_refl w.heap.size) (.string (toB p'.tag)) (.slice Ai p'.ids.length ci) (.slice Ac p'.classes.length cc) (.bool p'.link) (.bool p'.visited)
        generalize ((((wr.setCell ⟨w.heap.size, 0, none⟩ (.string (toB p'.tag))).setCell ⟨w.heap.size, 1, none⟩ (.slice Ai p'.ids.length ci)).setCell ⟨w.heap.size, 2, none⟩ (.slice Ac p'.classes.length cc)).setCell ⟨w.heap.size, 3, none⟩ (.bool p'.link)).setCell ⟨w.heap.size, 4, none⟩ (.bool p'.visited) = WF at K5 B5 hri hrc ⊢
        obtain ⟨r0, r1, r2, r3, r4⟩ := blk5 K5
        exact bodyPost_ret (v := .tuple #[siV p' (.slice Ai p'.ids.length ci) (.slice Ac p'.classes.length cc), .bool true]) (by simp [results, Tryz.results99, go_sem, siV, r0, r1, r2, r3, r4]) rfl ⟨by rw [hRp]; exact ⟨_, _, rfl, hri, hrc⟩, B5⟩
      | cons c t =>
        have z0 : ((toB (c :: t)).toList == []) = false := by rw [lit_eq]; simp
        have c1 : ∀ w, (Instr.slice 9 (.string (toB (c :: t))) (some (.int .i64 1)) none none).run Tryz.prog w = .ok (.string (toB t)) w := fun w => cutL (c :: t) 1 (by simp) w
        rw [List.length_cons] at hrest
        have cu := fun w => until_bg t (by unfold mostB; omega) w
        have hol := own1_le t
        have hTz : (toB (own1 t)).size = (own1 t).length := toB_size _
        have hM : (1 : Int) + ((toB (own1 t)).size : Int) = (((own1 t).length + 1 : Nat) : Int) := by rw [hTz]; omega
        have c2 := fun w => cutH (c :: t) ((own1 t).length + 1) (by rw [List.length_cons]; omega) w
        have e2 : (c :: t).take ((own1 t).length + 1) = c :: own1 t := by rw [List.take_succ_cons, ← own1_take]
        rw [e2] at c2
        have c3 := fun w => cutL (c :: t) ((own1 t).length + 1) (by rw [List.length_cons]; omega) w
        have e3 : (c :: t).drop ((own1 t).length + 1) = own2 t := by rw [List.drop_succ_cons, ← own2_drop]
        rw [e3] at c3
        have hOz : ((toB (c :: own1 t)).size : Int) = (((own1 t).length + 1 : Nat) : Int) := by rw [toB_size, List.length_cons]
        have hrl2 := own2_le t
        obtain ⟨m, hm⟩ : ∃ m, m = (own1 t).length + 1 := ⟨_, rfl⟩
        rw [← hm] at hM c2 c3 hOz
        have hm0 : (0 : Int) ≤ (m : Int) := Int.natCast_nonneg _
        have hmb : m ≤ 1000000 := by omega
        clear e2 e3 hTz hm
        generalize hE : toB (c :: t) = E at *
        generalize toB t = Et at *
        generalize toB (own1 t) = Eo at *
        generalize hO : toB (c :: own1 t) = O at *
        have HO := Lib.hid hO
        clear hE hO
        by_cases hk8 : k = 8
        · subst hk8
          obtain rfl : R = none := by rw [HK.out]; rfl
          clear c3 hOz
          go_wp2_with (first
            | (go_at_call 136; (with_reducible refine (cu _).mono ?_); rintro e w4 ⟨rfl, hb4⟩
               have hS4 := (show SiO wr (w.heap.size + 1) (w.heap.size + 1) p' from ⟨_, _, hS⟩).next hb4
               have KR4 := KR.next hb4
               have hB4 := below_next hBr hb4
               have hz4 := hb4.size
               obtain ⟨y0, y1, y2, y3, y4⟩ := blk5 KR4
               obtain ⟨g0, g1, g2, g3, g4⟩ := fz5 KR4))
          have K5 := blk_set5 KR4 (.string ⟨#[]⟩) (.slice none 0 0) (.slice none 0 0) (.bool false) (.bool false)
          have B5 := below_set5 hB4 (Nat.le_refl w.heap.size) (.string ⟨#[]⟩) (.slice none 0 0) (.slice none 0 0) (.bool false) (.bool false)
          generalize ((((w4.setCell ⟨w.heap.size, 0, none⟩ (.string ⟨#[]⟩)).setCell ⟨w.heap.size, 1, none⟩ (.slice none 0 0)).setCell ⟨w.heap.size, 2, none⟩ (.slice none 0 0)).setCell ⟨w.heap.size, 3, none⟩ (.bool false)).setCell ⟨w.heap.size, 4, none⟩ (.bool false) = WF at K5 B5 ⊢
          obtain ⟨r0, r1, r2, r3, r4⟩ := blk5 K5
          exact bodyPost_ret (v := .tuple #[.agg #[.string ⟨#[]⟩, .slice none 0 0, .slice none 0 0, .bool false, .bool false], .bool false]) (by simp [results, Tryz.results99, go_sem, r0, r1, r2, r3, r4]) rfl ⟨rfl, B5⟩
        · have hk8b : ((k : Int) == 8) = false := by rw [beq_eq_false_iff_ne]; omega
          obtain ⟨j, hj⟩ : ∃ j, 8 - k = j + 1 := ⟨7 - k, by omega⟩
          have hj2 : 8 - (k + 1) = j := by omega
          have HK2 : Hid (R = match takeS p' (c :: own1 t) with | none => none | some q => ownF j (own2 t) q) := by show _ = _; rw [HK.out, hj]; rfl
          have ct := fun w' h hb => take_any w' (w.heap.size + 1) (w.heap.size + 1) p' c (own1 t) h hb (by omega) (by omega) (by omega)
          have hcnt := fun q h => take_cnt (p := p') (q := q) (own := c :: own1 t) h
          rw [HO.out] at ct
          rw [← hj2] at HK2
          have hk7 : k ≤ 7 := by omega
          clear HK hj hj2 hk8
          cases hts : takeS p' (c :: own1 t) with
          | none =>
            rw [hts] at ct HK2
            obtain rfl : R = none := HK2.out
            clear HK2 hts hcnt c3
            go_wp2_with (first
              | (go_at_call 136; (with_reducible refine (cu _).mono ?_); rintro e w4 ⟨rfl, hb4⟩
                 have hS4 := (show SiO wr (w.heap.size + 1) (w.heap.size + 1) p' from ⟨_, _, hS⟩).next hb4
                 have KR4 := KR.next hb4
                 have hB4 := below_next hBr hb4
                 have hz4 := hb4.size
                 obtain ⟨y0, y1, y2, y3, y4⟩ := blk5 KR4
                 obtain ⟨g0, g1, g2, g3, g4⟩ := fz5 KR4)
              | (go_at_call 138; (with_reducible refine (ct _ hS4 (by omega)).mono ?_); rintro e w5 ⟨hta, hb5⟩
                 obtain ⟨rfl, hS5⟩ := ta_none hta
                 have KR5 := blk_below KR4 hb5 (Nat.lt_succ_self _)
                 have hB5 : Below w.heap.size w w5 := hB4.trans (hb5.mono (Nat.le_succ _))
                 obtain ⟨x0, x1, x2, x3, x4⟩ := blk5 KR5
                 obtain ⟨h0, h1, h2, h3, h4⟩ := fz5 KR5))
            have K5 := blk_set5 KR5 (.string ⟨#[]⟩) (.slice none 0 0) (.slice none 0 0) (.bool false) (.bool false)
            have B5 := below_set5 hB5 (Nat.le_refl w.heap.size) (.string ⟨#[]⟩) (.slice none 0 0) (.slice none 0 0) (.bool false) (.bool false)
            generalize ((((w5.setCell ⟨w.heap.size, 0, none⟩ (.string ⟨#[]⟩)).setCell ⟨w.heap.size, 1, none⟩ (.slice none 0 0)).setCell ⟨w.heap.size, 2, none⟩ (.slice none 0 0)).setCell ⟨w.heap.size, 3, none⟩ (.bool false)).setCell ⟨w.heap.size, 4, none⟩ (.bool false) = WF at K5 B5 ⊢
            obtain ⟨r0, r1, r2, r3, r4⟩ := blk5 K5
            exact bodyPost_ret (v := .tuple #[.agg #[.string ⟨#[]⟩, .slice none 0 0, .slice none 0 0, .bool false, .bool false], .bool false]) (by simp [results, Tryz.results99, go_sem, r0, r1, r2, r3, r4]) rfl ⟨rfl, B5⟩
          | some q =>
            rw [hts] at ct HK2
            obtain ⟨hq1, hq2⟩ := hcnt q hts
            clear hts hcnt
            go_wp2_with (first
              | (go_at_call 136; (with_reducible refine (cu _).mono ?_); rintro e w4 ⟨rfl, hb4⟩
                 have hS4 := (show SiO wr (w.heap.size + 1) (w.heap.size + 1) p' from ⟨_, _, hS⟩).next hb4
                 have KR4 := KR.next hb4
                 have hB4 := below_next hBr hb4
                 have hz4 := hb4.size
                 obtain ⟨y0, y1, y2, y3, y4⟩ := blk5 KR4
                 obtain ⟨g0, g1, g2, g3, g4⟩ := fz5 KR4)
              | (go_at_call 138; (with_reducible refine (ct _ hS4 (by omega)).mono ?_); rintro e w5 ⟨hta, hb5⟩
                 obtain ⟨rfl, hS5⟩ := ta_some hta
                 have KR5 := blk_below KR4 hb5 (Nat.lt_succ_self _)
                 have hB5 : Below w.heap.size w w5 := hB4.trans (hb5.mono (Nat.le_succ _))
                 have hz5 := Nat.le_trans hzr (Nat.le_trans hz4 hb5.size)))
            go_roundw
            case rel => exact ⟨k + 1, own2 t, q, rfl, by go_num, by omega, by omega, hS5, by omega, by omega, HK2, KR5, hB5, hz5⟩
            case measure => simp [intOf]; omega
  rw [decide_eq_false t2] at z2
  have hnl := own1_le l
  have cn := fun w => name_any (own1 l) (by simp only [maxLen]; omega) w
  have HTG := Lib.hid htag
  cases hnm : nameB (own1 l) with
  | false =>
    obtain rfl : R = none := HRN.out (by rw [htag]; exact ⟨t2, hnm⟩)
    rw [hnm] at cn
    clear HRO HRN t1 t2 htag hnm hcl
    generalize hT : toB (own1 l) = T at *
    have HT := Lib.hid hT
    generalize hL : toB l = L at *
    clear hT hL
    go_enter Tryz.func99, Tryz.ntmps99
    go_wp2_with (first
      | (go_at_call 136; (with_reducible refine (cu _).mono ?_); rintro e w2 ⟨rfl, hb2⟩
         have hS2 := hS0.next hb2
         have KR := K0.next hb2
         have hB2 := below_next hB0 hb2
         have hz2 := hb2.size
         have p0 := hS2.blk.cell 0
         have pf := hS2.blk.frozen 0
         simp only [List.getElem?_toArray, List.getElem?_cons_zero] at p0
         obtain ⟨k0, k1, k2, k3, k4⟩ := blk5 KR
         obtain ⟨f0, f1, f2, f3, f4⟩ := fz5 KR
         have KRt := blk_setOther (p := ⟨w.heap.size + 1, 0, none⟩) KR (Nat.ne_of_lt (Nat.lt_succ_self _)) (.string T)
         have hBt := hB2.setCell (p := ⟨w.heap.size + 1, 0, none⟩) (by show w.heap.size ≤ w.heap.size + 1; omega) (.string T)
         have hSt := hS2.tag_ (own1 l)
         rw [HT.out, ← HTG.out] at hSt)
      | (go_at_call 137; (with_reducible refine (cn _).mono ?_); rintro e w3 ⟨rfl, hb3⟩
         have hSn := hSt.next hb3
         have KRn := KRt.next hb3
         have hBn := below_next hBt hb3
         have hzn := hb3.size
         obtain ⟨n0, n1, n2, n3, n4⟩ := blk5 KRn
         obtain ⟨m0, m1, m2, m3, m4⟩ := fz5 KRn))
    have K5 := blk_set5 KRn (.string ⟨#[]⟩) (.slice none 0 0) (.slice none 0 0) (.bool false) (.bool false)
    have B5 := below_set5 hBn (Nat.le_refl w.heap.size) (.string ⟨#[]⟩) (.slice none 0 0) (.slice none 0 0) (.bool false) (.bool false)
    generalize ((((w3.setCell ⟨w.heap.size, 0, none⟩ (.string ⟨#[]⟩)).setCell ⟨w.heap.size, 1, none⟩ (.slice none 0 0)).setCell ⟨w.heap.size, 2, none⟩ (.slice none 0 0)).setCell ⟨w.heap.size, 3, none⟩ (.bool false)).setCell ⟨w.heap.size, 4, none⟩ (.bool false) = WF at K5 B5 ⊢
    obtain ⟨r0, r1, r2, r3, r4⟩ := blk5 K5
    exact bodyPost_ret (v := .tuple #[.agg #[.string ⟨#[]⟩, .slice none 0 0, .slice none 0 0, .bool false, .bool false], .bool false]) (by simp [results, Tryz.results99, go_sem, r0, r1, r2, r3, r4]) rfl ⟨rfl, B5⟩
  | true =>
    have HR0 : Hid (R = ownF (8 - 0) (own2 l) { sim0 with tag := tagP l }) := HRO.out (fun e => by rw [htag, hnm] at e; exact absurd e.2 (by decide))
    rw [hnm] at cn
    clear HRO HRN t1 t2 htag hnm
    generalize hT : toB (own1 l) = T at *
    have HT := Lib.hid hT
    generalize hL : toB l = L at *
    clear hT hL
    go_enter Tryz.func99, Tryz.ntmps99
    go_wp2_with (first
      | (go_at_call 136; (with_reducible refine (cu _).mono ?_); rintro e w2 ⟨rfl, hb2⟩
         have hS2 := hS0.next hb2
         have KR := K0.next hb2
         have hB2 := below_next hB0 hb2
         have hz2 := hb2.size
         have p0 := hS2.blk.cell 0
         have pf := hS2.blk.frozen 0
         simp only [List.getElem?_toArray, List.getElem?_cons_zero] at p0
         obtain ⟨k0, k1, k2, k3, k4⟩ := blk5 KR
         obtain ⟨f0, f1, f2, f3, f4⟩ := fz5 KR
         have KRt := blk_setOther (p := ⟨w.heap.size + 1, 0, none⟩) KR (Nat.ne_of_lt (Nat.lt_succ_self _)) (.string T)
         have hBt := hB2.setCell (p := ⟨w.heap.size + 1, 0, none⟩) (by show w.heap.size ≤ w.heap.size + 1; omega) (.string T)
         have hSt := hS2.tag_ (own1 l)
         rw [HT.out, ← HTG.out] at hSt)
      | (go_at_call 137; (with_reducible refine (cn _).mono ?_); rintro e w3 ⟨rfl, hb3⟩
         have hSn := hSt.next hb3
         have KRn := KRt.next hb3
         have hBn := below_next hBt hb3
         have hzn := hb3.size
         obtain ⟨n0, n1, n2, n3, n4⟩ := blk5 KRn
         obtain ⟨m0, m1, m2, m3, m4⟩ := fz5 KRn))
    rw [hz0] at hz2
    have hS3 := hSn
    have KR3 := KRn
    have hB3 := hBn
    have hz3 : w.heap.size + 1 + 1 ≤ w3.heap.size := Nat.le_trans (Nat.le_trans hz2 ((Below.refl (w.heap.size + 1) w2).setCell (p := ⟨w.heap.size + 1, 0, none⟩) (Nat.le_refl _) (.string T)).size) hzn
    clear hS2 KR hB2 hz2 p0 pf k0 k1 k2 k3 k4 f0 f1 f2 f3 f4 hb2 hSt KRt hBt hSn KRn hBn hzn n0 n1 n2 n3 n4 m0 m1 m2 m3 m4 hb3 cn
    generalize w3 = W3 at *
    clear hS0 K0 K1 hB0 cu hcl z0 z1
    have hS3' : SiO W3 (w.heap.size + 1) (w.heap.size + 1) { sim0 with tag := tagP l } := ⟨_, _, hS3⟩
    clear hS3
    go_loopw [6, 7] (fun v6 v7 wr => ∃ (k : Nat) (rest : List UInt8) (p' : Sim), v6 = .string (toB rest) ∧ v7 = .int .i64 k ∧ k ≤ 8 ∧ rest.length ≤ l.length ∧ SiO wr (w.heap.size + 1) (w.heap.size + 1) p' ∧ p'.ids.length ≤ k ∧ p'.classes.length ≤ k ∧ Hid (R = ownF (8 - k) rest p') ∧ Blk wr w.heap.size 70 #[.string ⟨#[]⟩, .slice none 0 0, .slice none 0 0, .bool false, .bool false] ∧ Below w.heap.size w wr ∧ w.heap.size + 1 + 1 ≤ wr.heap.size) (fun _ v7 _ => 9 - (intOf v7).toNat)
    case atStart => exact ⟨0, own2 l, _, rfl, rfl, by omega, hrl, hS3', Nat.zero_le _, Nat.zero_le _, HR0, KR3, hB3, hz3⟩
    case round =>
      obtain ⟨k, rest, p', rfl, rfl, hk, hrest, ⟨vi, vc, hS⟩, hi, hc, HK, KR, hBr, hzr⟩ := hrel
      obtain ⟨k0, k1, k2, k3, k4⟩ := blk5 KR
      obtain ⟨f0, f1, f2, f3, f4⟩ := fz5 KR
      clear hS3' HR0 KR3 hB3 hz3
      cases rest with
      | nil =>
        have z0 : ((toB []).toList == []) = true := by rw [lit_eq]; rfl
        obtain ⟨Ai, ci, rfl⟩ := hS.ids.form
        obtain ⟨Ac, cc, rfl⟩ := hS.classes.form
        obtain ⟨s0, s1, s2, s3, s4⟩ := blk5 hS.blk
        have hRp : R = some p' := by rw [HK.out, own_nil]
        generalize toB [] = E at *
        go_wp2
        have hKT := kt_set5 (e := 9) KR (by decide) (.string (toB p'.tag)) (.slice Ai p'.ids.length ci) (.slice Ac p'.classes.length cc) (.bool p'.link) (.bool p'.visited)
        have hri := row_less (row_kt hS.ids hKT) (Nat.le_succ w.heap.size)
        have hrc := row_less (row_kt hS.classes hKT) (Nat.le_succ w.heap.size)
        have K5 := blk_set5 KR (.string (toB p'.tag)) (.slice Ai p'.ids.length ci) (.slice Ac p'.classes.length cc) (.bool p'.link) (.bool p'.visited)
        have B5 := below_set5 hBr (Nat.le_refl w.heap.size) (.string (toB p'.tag)) (.slice Ai p'.ids.length ci) (.slice Ac p'.classes.length cc) (.bool p'.link) (.bool p'.visited)
        generalize ((((wr.setCell ⟨w.heap.size, 0, none⟩ (.string (toB p'.tag))).setCell ⟨w.heap.size, 1, none⟩ (.slice Ai p'.ids.length ci)).setCell ⟨w.heap.size, 2, none⟩ (.slice Ac p'.classes.length cc)).setCell ⟨w.heap.size, 3, none⟩ (.bool p'.link)).setCell ⟨w.heap.size, 4, none⟩ (.bool p'.visited) = WF at K5 B5 hri hrc ⊢
        obtain ⟨r0, r1, r2, r3, r4⟩ := blk5 K5
        exact bodyPost_ret (v := .tuple #[siV p' (.slice Ai p'.ids.length ci) (.slice Ac p'.classes.length cc), .bool true]) (by simp [results, Tryz.results99, go_sem, siV, r0, r1, r2, r3, r4]) rfl ⟨by rw [hRp]; exact ⟨_, _, rfl, hri, hrc⟩, B5⟩
      | cons c t =>
        have z0 : ((toB (c :: t)).toList == []) = false := by rw [lit_eq]; simp
        have c1 : ∀ w, (Instr.slice 9 (.string (toB (c :: t))) (some (.int .i64 1)) none none).run Tryz.prog w = .ok (.string (toB t)) w := fun w => cutL (c :: t) 1 (by simp) w
        rw [List.length_cons] at hrest
        have cu := fun w => until_bg t (by unfold mostB; omega) w
        have hol := own1_le t
        have hTz : (toB (own1 t)).size = (own1 t).length := toB_size _
        have hM : (1 : Int) + ((toB (own1 t)).size : Int) = (((own1 t).length + 1 : Nat) : Int) := by rw [hTz]; omega
        have c2 := fun w => cutH (c :: t) ((own1 t).length + 1) (by rw [List.length_cons]; omega) w
        have e2 : (c :: t).take ((own1 t).length + 1) = c :: own1 t := by rw [List.take_succ_cons, ← own1_take]
        rw [e2] at c2
        have c3 := fun w => cutL (c :: t) ((own1 t).length + 1) (by rw [List.length_cons]; omega) w
        have e3 : (c :: t).drop ((own1 t).length + 1) = own2 t := by rw [List.drop_succ_cons, ← own2_drop]
        rw [e3] at c3
        have hOz : ((toB (c :: own1 t)).size : Int) = (((own1 t).length + 1 : Nat) : Int) := by rw [toB_size, List.length_cons]
        have hrl2 := own2_le t
        obtain ⟨m, hm⟩ : ∃ m, m = (own1 t).length + 1 := ⟨_, rfl⟩
        rw [← hm] at hM c2 c3 hOz
        have hm0 : (0 : Int) ≤ (m : Int) := Int.natCast_nonneg _
        have hmb : m ≤ 1000000 := by omega
        clear e2 e3 hTz hm
        generalize hE : toB (c :: t) = E at *
        generalize toB t = Et at *
        generalize toB (own1 t) = Eo at *
        generalize hO : toB (c :: own1 t) = O at *
        have HO := Lib.hid hO
        clear hE hO
        by_cases hk8 : k = 8
        · subst hk8
          obtain rfl : R = none := by rw [HK.out]; rfl
          clear c3 hOz
          go_wp2_with (first
            | (go_at_call 136; (with_reducible refine (cu _).mono ?_); rintro e w4 ⟨rfl, hb4⟩
               have hS4 := (show SiO wr (w.heap.size + 1) (w.heap.size + 1) p' from ⟨_, _, hS⟩).next hb4
               have KR4 := KR.next hb4
               have hB4 := below_next hBr hb4
               have hz4 := hb4.size
               obtain ⟨y0, y1, y2, y3, y4⟩ := blk5 KR4
               obtain ⟨g0, g1, g2, g3, g4⟩ := fz5 KR4))
          have K5 := blk_set5 KR4 (.string ⟨#[]⟩) (.slice none 0 0) (.slice none 0 0) (.bool false) (.bool false)
          have B5 := below_set5 hB4 (Nat.le_refl w.heap.size) (.string ⟨#[]⟩) (.slice none 0 0) (.slice none 0 0) (.bool false) (.bool false)
          generalize ((((w4.setCell ⟨w.heap.size, 0, none⟩ (.string ⟨#[]⟩)).setCell ⟨w.heap.size, 1, none⟩ (.slice none 0 0)).setCell ⟨w.heap.size, 2, none⟩ (.slice none 0 0)).setCell ⟨w.heap.size, 3, none⟩ (.bool false)).setCell ⟨w.heap.size, 4, none⟩ (.bool false) = WF at K5 B5 ⊢
          obtain ⟨r0, r1, r2, r3, r4⟩ := blk5 K5
          exact bodyPost_ret (v := .tuple #[.agg #[.string ⟨#[]⟩, .slice none 0 0, .slice none 0 0, .bool false, .bool false], .bool false]) (by simp [results, Tryz.results99, go_sem, r0, r1, r2, r3, r4]) rfl ⟨rfl, B5⟩
        · have hk8b : ((k : Int) == 8) = false := by rw [beq_eq_false_iff_ne]; omega
          obtain ⟨j, hj⟩ : ∃ j, 8 - k = j + 1 := ⟨7 - k, by omega⟩
          have hj2 : 8 - (k + 1) = j := by omega
          have HK2 : Hid (R = match takeS p' (c :: own1 t) with | none => none | some q => ownF j (own2 t) q) := by show _ = _; rw [HK.out, hj]; rfl
          have ct := fun w' h hb => take_any w' (w.heap.size + 1) (w.heap.size + 1) p' c (own1 t) h hb (by omega) (by omega) (by omega)
          have hcnt := fun q h => take_cnt (p := p') (q := q) (own := c :: own1 t) h
          rw [HO.out] at ct
          rw [← hj2] at HK2
          have hk7 : k ≤ 7 := by omega
          clear HK hj hj2 hk8
          cases hts : takeS p' (c :: own1 t) with
          | none =>
            rw [hts] at ct HK2
            obtain rfl : R = none := HK2.out
            clear HK2 hts hcnt c3
            go_wp2_with (first
              | (go_at_call 136; (with_reducible refine (cu _).mono ?_); rintro e w4 ⟨rfl, hb4⟩
                 have hS4 := (show SiO wr (w.heap.size + 1) (w.heap.size + 1) p' from ⟨_, _, hS⟩).next hb4
                 have KR4 := KR.next hb4
                 have hB4 := below_next hBr hb4
                 have hz4 := hb4.size
                 obtain ⟨y0, y1, y2, y3, y4⟩ := blk5 KR4
                 obtain ⟨g0, g1, g2, g3, g4⟩ := fz5 KR4)
              | (go_at_call 138; (with_reducible refine (ct _ hS4 (by omega)).mono ?_); rintro e w5 ⟨hta, hb5⟩
                 obtain ⟨rfl, hS5⟩ := ta_none hta
                 have KR5 := blk_below KR4 hb5 (Nat.lt_succ_self _)
                 have hB5 : Below w.heap.size w w5 := hB4.trans (hb5.mono (Nat.le_succ _))
                 obtain ⟨x0, x1, x2, x3, x4⟩ := blk5 KR5
                 obtain ⟨h0, h1, h2, h3, h4⟩ := fz5 KR5))
            have K5 := blk_set5 KR5 (.string ⟨#[]⟩) (.slice none 0 0) (.slice none 0 0) (.bool false) (.bool false)
            have B5 := below_set5 hB5 (Nat.le_refl w.heap.size) (.string ⟨#[]⟩) (.slice none 0 0) (.slice none 0 0) (.bool false) (.bool false)
            generalize ((((w5.setCell ⟨w.heap.size, 0, none⟩ (.string ⟨#[]⟩)).setCell ⟨w.heap.size, 1, none⟩ (.slice none 0 0)).setCell ⟨w.heap.size, 2, none⟩ (.slice none 0 0)).setCell ⟨w.heap.size, 3, none⟩ (.bool false)).setCell ⟨w.heap.size, 4, none⟩ (.bool false) = WF at K5 B5 ⊢
            obtain ⟨r0, r1, r2, r3, r4⟩ := blk5 K5
            exact bodyPost_ret (v := .tuple #[.agg #[.string ⟨#[]⟩, .slice none 0 0, .slice none 0 0, .bool false, .bool false], .bool false]) (by simp [results, Tryz.results99, go_sem, r0, r1, r2, r3, r4]) rfl ⟨rfl, B5⟩
          | some q =>
            rw [hts] at ct HK2
            obtain ⟨hq1, hq2⟩ := hcnt q hts
            clear hts hcnt
            go_wp2_with (first
              | (go_at_call 136; (with_reducible refine (cu _).mono ?_); rintro e w4 ⟨rfl, hb4⟩
                 have hS4 := (show SiO wr (w.heap.size + 1) (w.heap.size + 1) p' from ⟨_, _, hS⟩).next hb4
                 have KR4 := KR.next hb4
                 have hB4 := below_next hBr hb4
                 have hz4 := hb4.size
                 obtain ⟨y0, y1, y2, y3, y4⟩ := blk5 KR4
                 obtain ⟨g0, g1, g2, g3, g4⟩ := fz5 KR4)
              | (go_at_call 138; (with_reducible refine (ct _ hS4 (by omega)).mono ?_); rintro e w5 ⟨hta, hb5⟩
                 obtain ⟨rfl, hS5⟩ := ta_some hta
                 have KR5 := blk_below KR4 hb5 (Nat.lt_succ_self _)
                 have hB5 : Below w.heap.size w w5 := hB4.trans (hb5.mono (Nat.le_succ _))
                 have hz5 := Nat.le_trans hzr (Nat.le_trans hz4 hb5.size)))
            go_roundw
            case rel => exact ⟨k + 1, own2 t, q, rfl, by go_num, by omega, by omega, hS5, by omega, by omega, HK2, KR5, hB5, hz5⟩
            case measure => simp [intOf]; omega
end Sel
end Go.Proofs.YtdfcahdipalmkaaGreatDoor
