/- What strings.IndexAny tells of a few ascii bytes, in any text. Conditions: the text is not too long; at least two bytes are asked for, at most a hundred. -/
import Derived.Test.YthacboofbbfmlaaGreatDoorShelf
import Derived.Test.YthacboofbbfmlaaGreatDoorValBase
import Derived.Laws.RangeString
import Derived.Laws.RangeAny
import Derived.Lib.QuoteLoop
import Derived.Lib.TrimUEq
import Derived.Shelf.Strings.IndexAnyAll
import Derived.Deep.LoopGhost
import Derived.WalkMore
import Derived.Lib.SpaceUEq
import Derived.Lib.TrimU
import Derived.Lib.OthersKept
import Derived.Lib.IndexLaws
namespace Go.Proofs.YthacboofbbfmlaaGreatDoor
open Go.ChangeShapes Go.WideShapes Go.ChangeAt Go.RowKit Go.Shelf
namespace Ia
theorem enc_last (r : Int) (h0 : 128 ≤ r) (h1 : r ≤ 1114111) : (∃ x y : UInt8, Utf8.encode r = ⟨#[x, y]⟩ ∧ 128 ≤ y.toNat) ∨ (∃ x y z : UInt8, Utf8.encode r = ⟨#[x, y, z]⟩ ∧ 128 ≤ z.toNat) ∨ ∃ x y z u : UInt8, Utf8.encode r = ⟨#[x, y, z, u]⟩ ∧ 128 ≤ u.toNat := by
  unfold Utf8.encode
  simp only
  generalize hc : (if Utf8.valid r then r.toNat else Utf8.runeError) = c
  have hc0 : 128 ≤ c := by
    rw [← hc]
    split
    · omega
    · unfold Utf8.runeError; omega
  rw [if_neg (by omega)]
  by_cases h2 : c < 2048
  · rw [if_pos h2]
    refine .inl ⟨_, _, rfl, ?_⟩
    rw [UInt8.toNat_ofNat']
    omega
  · rw [if_neg h2]
    by_cases h3 : c < 65536
    · rw [if_pos h3]
      refine .inr (.inl ⟨_, _, _, rfl, ?_⟩)
      rw [UInt8.toNat_ofNat']
      omega
    · rw [if_neg h3]
      refine .inr (.inr ⟨_, _, _, _, rfl, ?_⟩)
      rw [UInt8.toNat_ofNat']
      omega
def Asc (C : List UInt8) : Prop := ∀ c ∈ C, c.toNat < 128
theorem ib_miss {C : List UInt8} {y : UInt8} (h : y ∉ C) : Lib.indexByte C y = -1 := by
  have hge := Lib.indexByte_ge C y
  by_cases e : Lib.indexByte C y = -1
  · exact e
  · obtain ⟨o, ho⟩ : ∃ o : Nat, Lib.indexByte C y = o := ⟨(Lib.indexByte C y).toNat, by omega⟩
    obtain ⟨h1, -⟩ := Lib.indexByte_some ho
    exact absurd (List.mem_of_getElem? h1) h
theorem asc_not {C : List UInt8} (hC : Asc C) {y : UInt8} (hy : 128 ≤ y.toNat) : y ∉ C := fun h => by have := hC y h; omega
set_option maxRecDepth 100000 in
set_option maxHeartbeats 8000000 in
theorem ir_tail (C : List UInt8) (hC : Asc C) (r : Int) (h0 : 128 ≤ r) (h1 : r ≤ 1114111) (hR : r ≠ 65533) (hv : Lib.validRune r = true) (w : World) :
    Calls Tryz.prog 73 #[.string (toB C), .int .i32 r] w fun e w' => e = .returned (.int .i64 (-1)) ∧ Below w.heap.size w w' := by
  have d1 : decide (r < 128) = false := decide_eq_false (by omega)
  have d2 : (r == 65533) = false := beq_eq_false_iff_ne.2 hR
  have hcv0 : ∀ w, (convert 21 9 (.int .i32 r)).run Tryz.prog w = .ok (.string (Utf8.encode r)) w := fun w => run_convert_int_string w 21 9 .i32 r (by rw [Tryz.underlying21]; rfl) Tryz.underlying9
  obtain ⟨last, hl1, hl3, y, hy, hs, hg⟩ : ∃ last : Nat, 1 ≤ last ∧ last ≤ 3 ∧ ∃ y : UInt8, 128 ≤ y.toNat ∧ (Utf8.encode r).size = last + 1 ∧ ∀ h : last < (Utf8.encode r).size, (Utf8.encode r)[last] = y := by
    rcases enc_last r h0 h1 with ⟨x, y, hE, hy⟩ | ⟨x, y, z, hE, hy⟩ | ⟨x, y, z, u, hE, hy⟩
    · exact ⟨1, by omega, by omega, y, hy, by rw [hE]; rfl, fun h => by simp only [hE]; rfl⟩
    · exact ⟨2, by omega, by omega, z, hy, by rw [hE]; rfl, fun h => by simp only [hE]; rfl⟩
    · exact ⟨3, by omega, by omega, u, hy, by rw [hE]; rfl, fun h => by simp only [hE]; rfl⟩
  generalize Utf8.encode r = rs at *
  have hny := asc_not hC hy
  have hsz : (toB C).size = C.length := toB_size C
  have hat : ∀ (h : last < (toB C).size), ((((toB C)[last]).toNat : Int) != (y.toNat : Int)) = true := by
    intro h
    have h2 : last < C.length := by rw [← hsz]; exact h
    have := hC (C[last]) (List.getElem_mem h2)
    have e : (((toB C)[last]).toNat : Int) = (C[last].toNat : Int) := rfl
    rw [bne_iff_ne]
    omega
  have c1 := fun w => Tryz.strings_IndexByte (toB (C.drop (last + 1))) (y.toNat : Int) w
  have hyb : ((y.toNat : Int)).toNat.toUInt8 = y := by simp
  have hmiss : Lib.indexByte (toB (C.drop (last + 1))).data.toList (((y.toNat : Int)).toNat.toUInt8) = -1 := by
    rw [hyb]
    exact ib_miss (fun h => hny (List.mem_of_mem_drop h))
  rw [hmiss] at c1
  have hex : last + 1 ≤ C.length → (toB C).extract (last + 1) (toB C).size = toB (C.drop (last + 1)) := by
    intro h
    apply bytes_inj
    rw [ByteArray.data_extract]
    simp only [toB, Array.toList_extract, List.extract_eq_take_drop]
    exact List.take_of_length_le (by rw [List.length_drop]; show C.length - _ ≤ C.toArray.size - _; simp)
  by_cases hlt : last < C.length
  · have hsl : ∀ w, (Instr.slice 9 (.string (toB C)) (some (.int .i64 ((last : Int) + 1))) none none).run Tryz.prog w = .ok (.string (toB (C.drop (last + 1)))) w := by
      intro w
      rw [← hex hlt, show (last : Int) + 1 = ((last + 1 : Nat) : Int) by omega]
      exact run_slice_string_l (P := Tryz.prog) (w := w) (t := 9) (s := toB C) Tryz.underlying9 .i64 ((last + 1 : Nat) : Int) (by omega) (by rw [hsz]; omega)
    have q1 : (last : Int) < (C.length : Int) := by omega
    have q3 : (last : Int) < (rs.size : Int) := by omega
    have hb4 : last < rs.size := by omega
    have q4 := hg hb4
    have q5 : (rs.size : Int) - 1 = (last : Int) := by omega
    have hb6 : last < (toB C).size := by omega
    have q6 := hat hb6
    have q0 : (0 : Int) ≤ (last : Int) := Int.natCast_nonneg _
    clear hex hmiss hyb hat hg hny
    generalize toB C = S at *
    rw [← hsz] at q1
    clear hs hsz
    go_enter Tryz.func73, Tryz.ntmps73
    go_wp2_with (go_at_call 83; (with_reducible refine (Tryz.utf8_ValidRune r _).mono ?_); rintro e w' ⟨rfl, rfl⟩; rw [hv])
    go_wp2
    go_step3
    go_wp2
    go_loopw [9] (fun i wr => i = .int .i64 (last : Int) ∧ wr = w') (fun _ _ => 0)
    case atStart => exact ⟨rfl, rfl⟩
    case round =>
      obtain ⟨rfl, rfl⟩ := hrel
      clear hcv0
      go_wp2
      go_step3
      go_wp2
      go_quiet (fail)
      go_wp2
      go_quiet ((go_at_call 44; exact (c1 _).mono (fun e w1 h => ⟨h.1, _, h.2⟩)))
      go_wp2
      simp +zetaDelta only [Exit.noGoto, Exit.inBlock, Exit.then]
      go_ret
      exact ⟨rfl, below_drewN (Below.refl _ _) _⟩
  · have q1 : ¬ (last : Int) < ((toB C).size : Int) := by omega
    have q5 : (rs.size : Int) - 1 = (last : Int) := by omega
    generalize toB C = S at *
    clear hny hex hat hg c1 hmiss hyb hs hsz
    go_enter Tryz.func73, Tryz.ntmps73
    go_wp2_with (go_at_call 83; (with_reducible refine (Tryz.utf8_ValidRune r _).mono ?_); rintro e w' ⟨rfl, rfl⟩; rw [hv])
    go_wp2
    go_step3
    go_wp2
    go_loopw [9] (fun i wr => i = .int .i64 (last : Int) ∧ wr = w') (fun _ _ => 0)
    case atStart => exact ⟨rfl, rfl⟩
    case round =>
      obtain ⟨rfl, rfl⟩ := hrel
      clear hcv0
      go_wp2
      simp only [Exit.noGoto, Exit.inBlock]
      go_ret
      exact ⟨rfl, Below.refl _ _⟩
set_option maxRecDepth 100000 in
set_option maxHeartbeats 8000000 in
theorem ir_high (C : List UInt8) (hC : Asc C) (r : Int) (h0 : 128 ≤ r) (h1 : r ≤ 1114111) (w : World) :
    Calls Tryz.prog 73 #[.string (toB C), .int .i32 r] w fun e w' => e = .returned (.int .i64 (-1)) ∧ Below w.heap.size w w' := by
  have d1 : decide (r < 128) = false := decide_eq_false (by omega)
  by_cases hR : r = 65533
  · subst hR
    have hsz : (toB C).size = C.length := toB_size C
    have hat : ∀ (p : Nat) (h : p < (toB C).size), ((toB C)[p]).toNat < 128 := by
      intro p h
      have h2 : p < C.length := by rw [← hsz]; exact h
      exact hC (C[p]) (List.getElem_mem h2)
    generalize toB C = S at *
    have HAT := Lib.hid hat
    clear hat hC
    go_enter Tryz.func73, Tryz.ntmps73
    go_wp2
    go_loopw [] (fun wr => ∃ p : Nat, p ≤ S.size ∧ wr = w.iter S p) (fun wr => S.size - wr.iterPos w.heap.size)
    case atStart => exact ⟨0, by omega, rfl⟩
    case round =>
      obtain ⟨p, hp, rfl⟩ := hrel
      have hbl : ∀ q, Below w.heap.size w (w.iter S q) := fun q => below_al (Below.refl _ _) _
      by_cases hlt : p < S.size
      · have h128 := HAT.out p hlt
        have hnx := fun ty => run_next_ascii (P := Tryz.prog) w S p ty hlt h128
        have hne : (((S[p]).toNat : Int) == 65533) = false := by rw [beq_eq_false_iff_ne]; omega
        generalize (S[p]).toNat = x at *
        go_wp2
        go_roundw
        case rel => exact ⟨p + 1, by omega, rfl⟩
        case measure => simp; omega
      · have hpe : p = S.size := by omega
        have hnx := fun ty => run_next_end (P := Tryz.prog) w S p ty (by omega)
        clear hpe hlt
        go_wp2
        go_ret
        exact ⟨rfl, hbl _⟩
  · cases hv : Lib.validRune r with
    | true => exact ir_tail C hC r h0 h1 hR hv w
    | false =>
      have d2 : (r == 65533) = false := beq_eq_false_iff_ne.2 hR
      generalize toB C = S at *
      go_enter Tryz.func73, Tryz.ntmps73
      go_wp2_with (go_at_call 83; (with_reducible refine (Tryz.utf8_ValidRune r _).mono ?_); rintro e w' ⟨rfl, rfl⟩; rw [hv])
      go_ret
      exact ⟨rfl, Below.refl _ _⟩
def No (C l : List UInt8) : Prop := ∀ c ∈ l, C.contains c = false
theorem ia_miss {C : List UInt8} : ∀ {l : List UInt8}, No C l → Lib.indexAny l C = -1
  | [], _ => rfl
  | b :: l, h => by
    rw [Lib.indexAny, h b (by simp), if_neg (by decide), ia_miss (fun c hc => h c (by simp [hc]))]
    rfl
theorem ia_hit {C : List UInt8} : ∀ {h : List UInt8} {c : UInt8} {t : List UInt8}, No C h → C.contains c = true → Lib.indexAny (h ++ c :: t) C = h.length
  | [], c, t, _, hc => by
    show Lib.indexAny (c :: t) C = _
    rw [Lib.indexAny, hc, if_pos rfl]
    rfl
  | b :: h, c, t, hn, hc => by
    show Lib.indexAny (b :: (h ++ c :: t)) C = _
    rw [Lib.indexAny, hn b (by simp), if_neg (by decide), ia_hit (fun d hd => hn d (by simp [hd])) hc]
    have : ¬ (((h.length : Int) == -1) = true) := by simp
    rw [if_neg this]
    simp
theorem high_bytes (s : ByteArray) (p : Nat) (hp : p < s.size) (h : 128 ≤ (s.data.toList[p]'(by rw [size_list]; exact hp)).toNat) :
    p + (Utf8.decode s p).2 ≤ s.size ∧ ∀ j c, p ≤ j → j < p + (Utf8.decode s p).2 → s.data.toList[j]? = some c → 128 ≤ c.toNat := by
  have hl := size_list s
  rw [Lib.decode_N]
  have hw := Lib.decodeN_width_le (s.data.toList.length - p) (s.data.toList.getD p 0).toNat (s.data.toList.getD (p + 1) 0).toNat (s.data.toList.getD (p + 2) 0).toNat (s.data.toList.getD (p + 3) 0).toNat (by omega)
  obtain ⟨k1, k2, k3, k4⟩ := Lib.decodeN_conts (s.data.toList.length - p) (s.data.toList.getD p 0).toNat (s.data.toList.getD (p + 1) 0).toNat (s.data.toList.getD (p + 2) 0).toNat (s.data.toList.getD (p + 3) 0).toNat
  generalize (Lib.decodeN (s.data.toList.length - p) (s.data.toList.getD p 0).toNat (s.data.toList.getD (p + 1) 0).toNat (s.data.toList.getD (p + 2) 0).toNat (s.data.toList.getD (p + 3) 0).toNat).2 = wd at *
  refine ⟨by omega, fun j c h1 h2 hc => ?_⟩
  have hg : ∀ k, s.data.toList[k]? = some c → s.data.toList.getD k 0 = c := fun k hk => by simp [List.getD, hk]
  rcases (by omega : j = p ∨ j = p + 1 ∨ j = p + 2 ∨ j = p + 3) with rfl | rfl | rfl | rfl
  · rw [List.getElem?_eq_getElem (by rw [size_list]; exact hp)] at hc
    obtain rfl := Option.some.inj hc
    exact h
  · have := (k1 (by omega)).1
    rw [hg _ hc] at this; omega
  · have := (k2 (by omega)).1
    rw [hg _ hc] at this; omega
  · have := (k3 (by omega)).1
    rw [hg _ hc] at this; omega
set_option maxRecDepth 100000 in
set_option maxHeartbeats 8000000 in
theorem ia_short (C : List UInt8) (hC : Asc C) (hn : 2 ≤ C.length) (s : ByteArray) (h8 : s.size ≤ 8) (w : World) :
    Calls Tryz.prog 59 #[.string s, .string (toB C)] w fun e w' => e = .returned (.int .i64 (Lib.indexAny s.data.toList C)) ∧ Below w.heap.size w w' := by
  obtain ⟨R, hR⟩ : ∃ R, Lib.indexAny s.data.toList C = R := ⟨_, rfl⟩
  rw [hR]
  have HR := Lib.hid hR
  clear hR
  have cs := fun w => Tryz.strings_shouldUseASCIISet (s.size : Int) w
  have d8 : decide ((8 : Int) < (s.size : Int)) = false := decide_eq_false (by omega)
  have hsz : (toB C).size = C.length := toB_size C
  have hemp : (toB C).toList.isEmpty = false := by
    rw [Lib.toList_data]
    show C.isEmpty = false
    cases hq : C with
    | nil => rw [hq] at hn; simp at hn
    | cons _ _ => rfl
  have hemp2 : ((toB C).toList == ([] : List UInt8)) = false := by
    rw [Lib.toList_data]
    show (C == []) = false
    cases hq : C with
    | nil => rw [hq] at hn; simp at hn
    | cons _ _ => rfl
  have hemp3 : ¬ (toB C).toList = [] := fun e => by rw [e] at hemp; cases hemp
  have hn1 : (((toB C).size : Int) == 1) = false := by rw [beq_eq_false_iff_ne]; omega
  have CI := Lib.hid (fun (c : UInt8) (h : c.toNat < 128) w => Tryz.strings_IndexRune_ascii (toB C) (c.toNat : Int) w (by omega) (by omega))
  have CH := Lib.hid (fun (r : Int) (h0 : 128 ≤ r) (h1 : r ≤ 1114111) w => ir_high C hC r h0 h1 w)
  have HCA := Lib.hid (fun (y : UInt8) (hy : 128 ≤ y.toNat) => asc_not hC hy)
  have hback : (toB C).data.toList = C := rfl
  rw [hback] at CI
  clear hsz hn hback
  generalize toB C = S at *
  go_enter Tryz.func59, Tryz.ntmps59
  go_wp2_with (go_at_call 74; (with_reducible refine (cs _).mono ?_); rintro e w' ⟨rfl, hw⟩; rw [hw, d8])
  go_loopw [] (fun wr => ∃ p : Nat, p ≤ s.size ∧ wr.heap[w.heap.size]? = some (.stringIter s p) ∧ Below w.heap.size w wr ∧ Hid (No C (s.data.toList.take p))) (fun wr => s.size - wr.iterPos w.heap.size)
  case atStart => exact ⟨0, Nat.zero_le _, World.iter_heap w s 0, below_al (Below.refl _ _) _, fun c hc => by simp at hc⟩
  case round =>
    obtain ⟨p, hp, hit, hB, HN⟩ := hrel
    have hit2 := fun q => Lib.iterAt_heap wr w.heap.size s p q hit
    have hB2 := fun q => Lib.below_iterAt hB (k := w.heap.size) (Nat.le_refl _) s q
    have hlt2 : ∀ q, w.heap.size < (wr.iterAt w.heap.size s q).heap.size := fun q => (Array.getElem?_eq_some_iff.1 (hit2 q)).1
    have hmw : wr.iterPos w.heap.size = p := by simp [World.iterPos, hit]
    clear hemp hemp2 hemp3 hn1
    by_cases hlt : p < s.size
    · have hlt' : p < s.data.toList.length := by rw [size_list]; exact hlt
      obtain ⟨c, hce⟩ : ∃ c : UInt8, s.data.toList[p] = c := ⟨_, rfl⟩
      have hsc : s[p]'hlt = c := hce
      have hsplit : s.data.toList = s.data.toList.take p ++ c :: s.data.toList.drop (p + 1) := by
        conv => lhs; rw [← List.take_append_drop p s.data.toList]
        rw [List.drop_eq_getElem_cons hlt', hce]
      have hpl : (s.data.toList.take p).length = p := by rw [List.length_take, size_list]; omega
      by_cases h128 : c.toNat < 128
      · have hnx := fun ty => Lib.run_next_ascii_at (P := Tryz.prog) wr w.heap.size s p ty hit hlt (by rw [hsc]; exact h128)
        simp only [hsc] at hnx
        have ci := CI.out c h128
        have hb : ((c.toNat : Int)).toNat.toUInt8 = c := by simp
        rw [hb] at ci
        have hcon := Lib.contains_iff_indexByte C c
        cases hc : C.contains c with
        | true =>
          rw [hc] at hcon
          have hge : (0 : Int) ≤ Lib.indexByte C c := of_decide_eq_true hcon.symm
          have HA : Hid (R = (p : Int)) := by
            show R = (p : Int)
            rw [← HR.out, hsplit, ia_hit HN.out hc, hpl]
          clear hcon hsplit HR HN hce hc
          generalize Lib.indexByte C c = ix at *
          go_wp2_with (go_at_call 73; (with_reducible refine (ci _).mono ?_); rintro e w' ⟨rfl, rfl⟩)
          go_ret
          exact ⟨by rw [HA.out]; rfl, hB2 _⟩
        | false =>
          rw [hc] at hcon
          have hlt0 : Lib.indexByte C c < 0 := by have := of_decide_eq_false hcon.symm; omega
          have HN' : Hid (No C (s.data.toList.take (p + 1))) := by
            intro d hd
            rw [List.take_succ_eq_append_getElem hlt', hce] at hd
            rcases List.mem_append.1 hd with h | h
            · exact HN.out d h
            · obtain rfl := List.mem_singleton.1 h
              exact hc
          clear hcon hsplit HN hce hc
          generalize Lib.indexByte C c = ix at *
          go_wp2_with (go_at_call 73; (with_reducible refine (ci _).mono ?_); rintro e w' ⟨rfl, rfl⟩)
          go_roundw
          case rel => exact ⟨p + 1, by omega, hit2 _, hB2 _, HN'⟩
          case measure => rw [hmw]; simp only [World.iterPos, hit2 (p + 1)]; omega
      · have hnx := fun ty => Lib.run_next_any_at (P := Tryz.prog) wr w.heap.size s p ty hit hlt
        obtain ⟨hle, hbs⟩ := high_bytes s p hlt (by rw [hce]; omega)
        obtain ⟨hr0, hw1⟩ := decode_high s p hlt (by rw [hsc]; omega)
        have hr1 := Lib.rune_le s p
        generalize Utf8.decode s p = dd at *
        obtain ⟨r, wd⟩ := dd
        simp only at hle hbs hr0 hw1 hr1 hnx
        have ci := CH.out (r : Int) (by omega) (by omega)
        have HN' : Hid (No C (s.data.toList.take (p + wd))) := by
          intro d hd
          obtain ⟨j, hj⟩ := List.mem_iff_getElem?.1 hd
          have hjl := (List.getElem?_eq_some_iff.1 hj).1
          rw [List.length_take] at hjl
          rw [List.getElem?_take_of_lt (by omega)] at hj
          by_cases hjp : j < p
          · refine HN.out d (List.mem_iff_getElem?.2 ⟨j, ?_⟩)
            rw [List.getElem?_take_of_lt hjp]; exact hj
          · have h9 := hbs j d (by omega) (by omega) hj
            have h10 := HCA.out d h9
            cases e : C.contains d with
            | false => rfl
            | true => exact absurd (List.contains_iff_mem.1 e) h10
        clear hbs hsplit HN hce hsc
        go_wp2_with (go_at_call 73; (with_reducible refine (ci _).mono ?_); rintro e w' ⟨rfl, hb⟩)
        have hit3 : w'.heap[w.heap.size]? = some (.stringIter s (p + wd)) := (hb.block _ (hlt2 _)).trans (hit2 _)
        go_roundw
        case rel => exact ⟨p + wd, by omega, hit3, (hB2 _).trans (hb.mono (Nat.le_of_lt (hlt2 _))), HN'⟩
        case measure => rw [hmw]; simp only [World.iterPos, hit3]; omega
    · obtain rfl : p = s.size := by omega
      have hnx := fun ty => Lib.run_next_end_at (P := Tryz.prog) wr w.heap.size s s.size ty hit (by omega)
      have HA : Hid (R = -1) := by
        show R = -1
        have := HN.out
        rw [List.take_of_length_le (by rw [size_list]; exact Nat.le_refl _)] at this
        rw [← HR.out, ia_miss this]
      go_wp2
      go_ret
      exact ⟨by rw [HA.out]; rfl, hB⟩
theorem info256 : (Tryz.prog.info? 96).map (fun i => (i.zero, i.size)) = some (some (.agg (Array.replicate 256 (.bool false))), 256) := by kernel_rfl
end Ia
end Go.Proofs.YthacboofbbfmlaaGreatDoor
