/- token.Read answers what a text is made of. Conditions: the text has at most 4000 bytes; a longer one has none. -/
import Derived.Test.YteopighhhcikcaaGreatDoorTokG
import Derived.Deep.RegionHeld3
namespace Go.Proofs.YteopighhhcikcaaGreatDoor
open Go.ChangeShapes Go.WideShapes Go.ChangeAt Go.RowKit
namespace Tok
open RowG (Row)
set_option maxRecDepth 100000 in
theorem cut3_run (g o N cap n : Nat) (hn : n ≤ N) (hc : N ≤ cap) (w : World) : (Instr.slice 74 (.slice (some ⟨g, o, none⟩) N cap) none (some (.int .i64 n)) (some (.int .i64 n))).run Tryz.prog w = .ok (.slice (some ⟨g, o, none⟩) n n) w := by
  have h1 := run_slice_hm (P := Tryz.prog) (w := w) (t := 74) (a := some ⟨g, o, none⟩) (len := N) (cap := cap) Tryz.underlying74 .i64 .i64 n n (by omega) (by omega) (by omega)
  have hs : ∀ w, (sizeOf (Tryz.prog.elem 74)).run Tryz.prog w = .ok 1 w := fun w => by kernel_rfl
  rw [h1, hs]
  simp [Result.andThen, sliced, Addr.add]
theorem TksV.lt {w : World} {base : Nat} {v : Value} {ts : List T} (h : TksV w base v ts) {g : Nat} (e : v.ownBlock = some g) : g < w.heap.size := by
  obtain ⟨cs, h1, -, -⟩ := h
  exact (World.ownsRow.lt h1 g e).2
theorem txtP_len (u : List UInt8) : (txtP u).length ≤ 1 := by unfold txtP; split <;> simp
theorem arr_cells (cs : List Value) (j : Nat) (u : Value) (h : cs[j]? = some u) : cs.toArray[j]? = some u := by simpa using h
theorem Lf.take {w : World} {g o : Nat} {l : List UInt8} (h : Lf w g o l) (n : Nat) : Lf w g o (l.take n) :=
  ⟨h.1, fun j c hc => h.2 j c (by
    rw [List.getElem?_take] at hc
    split at hc
    · exact hc
    · cases hc)⟩
theorem read_long (s : ByteArray) (w : World) (h : 4000 < s.size) : Calls Tryz.prog 16 #[.string s] w fun e w' => e = .returned (.tuple #[.slice none 0 0, .int .i64 3]) ∧ w = w' := by
  go_enter Tryz.func16, Tryz.ntmps16
  go_wp2
  go_ret2
  exact ⟨rfl, rfl⟩
set_option maxRecDepth 100000 in
set_option maxHeartbeats 8000000 in
theorem read_any (l : List UInt8) (hl : l.length ≤ 4000) (w : World) :
    Calls Tryz.prog 16 #[.string (toB l)] w fun e w' => ∃ v, e = .returned (.tuple #[v, .int .i64 0]) ∧ TksV w' (w.heap.size + 1) v (readP l) ∧ Below w.heap.size w w' := by
  obtain ⟨E, c0, hrun, hc0, hL0, hB0, hz0⟩ := run_bytes l w
  have hsz : (toB l).size = l.length := toB_size l
  have HT : Hid (([] : List T) ++ readF (l.take 0) (l.drop 0) = readP l) := rfl
  have h0 : LfV E w.heap.size (.slice (some ⟨w.heap.size, 0, none⟩) l.length c0) l := ⟨0, c0, rfl, hc0, hL0⟩
  have hT0 := TksV.nil E E.heap.size
  have hgE : w.heap.size < E.heap.size := hL0.1
  rw [← hz0]
  obtain ⟨R, hR⟩ : ∃ R, R = readP l := ⟨_, rfl⟩
  rw [← hR] at HT ⊢
  clear hR hz0
  generalize toB l = s at *
  generalize w.heap.size = g at *
  go_enter Tryz.func16, Tryz.ntmps16
  go_wp2
  go_loopw [4, 5, 6] (fun tv lv av wr => ∃ (l' : List UInt8) (k : Nat) (ts : List T), LfV wr g lv l' ∧ k ≤ l'.length ∧ av = .int .i64 k ∧ TksV wr E.heap.size tv ts ∧ Below E.heap.size E wr ∧ Hid (ts ++ readF (l'.take k) (l'.drop k) = R) ∧ ts.length + 2 * l'.length ≤ 2 * l.length) (fun _ lv av _ => sizeV lv - (intOf av).toNat)
  case atStart => exact ⟨l, 0, [], h0, Nat.zero_le _, rfl, hT0, Below.refl _ _, HT, by simp⟩
  case round =>
    obtain ⟨l', k, ts, hv, hk, rfl, hT, hBr, HR, hlen⟩ := hrel
    clear HT h0 hT0 hrun hL0
    have hsv := hv.sizeV
    have hl' : l'.length ≤ 4000 := by omega
    by_cases hlt : k < l'.length
    · have cb := behindV hv k hk
      have cf := fun v w h => first_any g v (l'.drop k) (by rw [List.length_drop]; omega) w h
      obtain ⟨o, cap, rfl, hc, hL⟩ := hv
      have k0 : (0 : Int) ≤ (k : Int) := Int.natCast_nonneg _
      have k1 : (k : Int) < (l'.length : Int) := by omega
      have k2 : (l'.length : Int) ≤ 4000 := by omega
      cases hf : firstP (l'.drop k) with
      | none =>
        rw [hf] at cf
        have cf2 : ∀ v w, LfV w g v (l'.drop k) → Calls Tryz.prog 51 #[v] w fun e w' => e = .returned (.tuple #[.agg #[.int .i64 0, .string ⟨#[]⟩, .string ⟨#[]⟩, .slice none 0 0], .slice none 0 0, .bool false]) ∧ Below w.heap.size w w' := cf
        have HR2 : Hid (ts ++ readF (l'.take (k + 1)) (l'.drop (k + 1)) = R) := by
          have hd := List.drop_eq_getElem_cons hlt
          rw [hd] at hf
          have h := HR.out
          rw [hd, readF_miss hf, ← List.take_succ_eq_append_getElem hlt] at h
          exact h
        clear cf hf HR
        go_wp2_with (first
          | (go_at_call 52; (with_reducible refine cb.mono ?_); rintro e w3 ⟨⟨v3, rfl, hv3⟩, rfl⟩)
          | (go_at_call 51; (with_reducible refine (cf2 _ _ hv3).mono ?_); rintro e w4 ⟨rfl, hb4⟩))
        go_roundw
        case rel =>
          have hb5 := below_al hb4 (.cells #[.int .i64 0, .string ⟨#[]⟩, .string ⟨#[]⟩, .slice none 0 0] 38)
          exact ⟨l', k + 1, ts, ⟨o, cap, rfl, hc, hL.next hb5⟩, by omega, by go_num, hT.next hb5, below_next hBr hb5, HR2, hlen⟩
        case measure => rw [hsv]; simp [intOf]; omega
      | some x =>
        obtain ⟨t, b⟩ := x
        rw [hf] at cf
        have cf2 : ∀ v w, LfV w g v (l'.drop k) → Calls Tryz.prog 51 #[v] w fun e w' => (∃ vt v, e = .returned (.tuple #[vt, v, .bool true]) ∧ TkV w' w.heap.size vt t ∧ LfV w' g v b) ∧ Below w.heap.size w w' := cf
        have hbl := firstP_len hf
        rw [List.length_drop] at hbl
        have HR2 : Hid (((ts ++ txtP (l'.take k)) ++ [t]) ++ readF (b.take 0) (b.drop 0) = R) := by
          have h := HR.out
          rw [readF_hit hf] at h
          show _ = _
          rw [← h]
          simp
        have hcut := fun w => cut3_run g o l'.length cap k hk hc w
        have htk : (l'.take k).length = k := by rw [List.length_take]; omega
        clear cf hf HR
        go_wp2_with (first
          | (go_at_call 52; (with_reducible refine cb.mono ?_); rintro e w3 ⟨⟨v3, rfl, hv3⟩, rfl⟩)
          | (go_at_call 51; (with_reducible refine (cf2 _ _ hv3).mono ?_); rintro e w4 ⟨⟨vt, v4, rfl, hT4, hv4⟩, hb4⟩
             obtain ⟨tk, ta, tb, tA, tm, tc, rfl, hT4⟩ := tkV_form hT4))
        have hb5 := below_al hb4 (.cells #[.int .i64 tk, .string ta, .string tb, .slice tA tm tc] 38)
        have hB5 := below_next hBr hb5
        have Kb := Blk.new w4 38 #[.int .i64 tk, .string ta, .string tb, .slice tA tm tc]
        have hT5 := hT.next hb5
        have hX5 : LfV (w4.alloc (.cells #[.int .i64 tk, .string ta, .string tb, .slice tA tm tc] 38)) g (.slice (some ⟨g, o, none⟩) k k) (l'.take k) := ⟨o, k, by rw [htk], by rw [htk]; exact Nat.le_refl _, (hL.next hb5).take k⟩
        have hV5 := hv4.next (below_al (Below.refl w4.heap.size w4) (.cells #[.int .i64 tk, .string ta, .string tb, .slice tA tm tc] 38))
        have hk5 := (hT4.less hBr.size).next (below_al (Below.refl w4.heap.size w4) (.cells #[.int .i64 tk, .string ta, .string tb, .slice tA tm tc] 38))
        have hown : ∀ g', u4.ownBlock = some g' → g' < wr.heap.size := fun g' e => hT.lt e
        have cw := fun W h1 h2 h3 => withText_any E g u4 (.slice (some ⟨g, o, none⟩) k k) ts (l'.take k) (by omega) (by omega) W h1 h2 h3
        have hSk : ∀ W, Blk W w4.heap.size 38 #[.int .i64 tk, .string ta, .string tb, .slice tA tm tc] → (W.cell? ⟨w4.heap.size, 0, none⟩ = some (.int .i64 tk) ∧ W.cell? ⟨w4.heap.size, 1, none⟩ = some (.string ta) ∧ W.cell? ⟨w4.heap.size, 2, none⟩ = some (.string tb) ∧ W.cell? ⟨w4.heap.size, 3, none⟩ = some (.slice tA tm tc)) := fun W h => blk4 h
        have hnb : some w4.heap.size ≠ u4.ownBlock := fun e => by
          have h1 := hown _ e.symm
          have h2 := hb4.size
          omega
        have hT5d : TksV (w4.alloc (.cells #[.int .i64 tk, .string ta, .string tb, .slice tA tm tc] 38)).drew E.heap.size u4 ts := hT5
        have hX5d : LfV (w4.alloc (.cells #[.int .i64 tk, .string ta, .string tb, .slice tA tm tc] 38)).drew g (.slice (some ⟨g, o, none⟩) k k) (l'.take k) := hX5
        have hB5d : Below E.heap.size E (w4.alloc (.cells #[.int .i64 tk, .string ta, .string tb, .slice tA tm tc] 38)).drew := hB5.drew
        have hbo := below_al (Below.refl (w4.alloc (.cells #[.int .i64 tk, .string ta, .string tb, .slice tA tm tc] 38)).heap.size (w4.alloc (.cells #[.int .i64 tk, .string ta, .string tb, .slice tA tm tc] 38))) (.cells #[.int .i64 tk, .string ta, .string tb, .slice tA tm tc] 38)
        have hT5e : TksV ((w4.alloc (.cells #[.int .i64 tk, .string ta, .string tb, .slice tA tm tc] 38)).alloc (.cells #[.int .i64 tk, .string ta, .string tb, .slice tA tm tc] 38)).drew E.heap.size u4 ts := hT5.next hbo.drew
        have hX5e : LfV ((w4.alloc (.cells #[.int .i64 tk, .string ta, .string tb, .slice tA tm tc] 38)).alloc (.cells #[.int .i64 tk, .string ta, .string tb, .slice tA tm tc] 38)).drew g (.slice (some ⟨g, o, none⟩) k k) (l'.take k) := hX5.next hbo.drew
        have hB5e : Below E.heap.size E ((w4.alloc (.cells #[.int .i64 tk, .string ta, .string tb, .slice tA tm tc] 38)).alloc (.cells #[.int .i64 tk, .string ta, .string tb, .slice tA tm tc] 38)).drew := (below_next hB5 hbo).drew
        have hk5e : TkV ((w4.alloc (.cells #[.int .i64 tk, .string ta, .string tb, .slice tA tm tc] 38)).alloc (.cells #[.int .i64 tk, .string ta, .string tb, .slice tA tm tc] 38)).drew E.heap.size (.agg #[.int .i64 tk, .string ta, .string tb, .slice tA tm tc]) t := hk5.next hbo.drew
        have hk5f : TkV ((w4.alloc (.cells #[.int .i64 tk, .string ta, .string tb, .slice tA tm tc] 38)).drew.alloc (.cells #[.int .i64 tk, .string ta, .string tb, .slice tA tm tc] 38)) E.heap.size (.agg #[.int .i64 tk, .string ta, .string tb, .slice tA tm tc]) t := hk5e
        have hT5f : TksV ((w4.alloc (.cells #[.int .i64 tk, .string ta, .string tb, .slice tA tm tc] 38)).drew.alloc (.cells #[.int .i64 tk, .string ta, .string tb, .slice tA tm tc] 38)) E.heap.size u4 ts := hT5e
        have hX5f : LfV ((w4.alloc (.cells #[.int .i64 tk, .string ta, .string tb, .slice tA tm tc] 38)).drew.alloc (.cells #[.int .i64 tk, .string ta, .string tb, .slice tA tm tc] 38)) g (.slice (some ⟨g, o, none⟩) k k) (l'.take k) := hX5e
        have hB5f : Below E.heap.size E ((w4.alloc (.cells #[.int .i64 tk, .string ta, .string tb, .slice tA tm tc] 38)).drew.alloc (.cells #[.int .i64 tk, .string ta, .string tb, .slice tA tm tc] 38)) := hB5e
        have KO := Blk.new (w4.alloc (.cells #[.int .i64 tk, .string ta, .string tb, .slice tA tm tc] 38)) 38 #[.int .i64 tk, .string ta, .string tb, .slice tA tm tc]
        rw [size_al] at KO
        have hnb2 : some (w4.heap.size + 1) ≠ u4.ownBlock := fun e => by
          have h1 := hown _ e.symm
          have h2 := hb4.size
          omega
        have hSz : E.heap.size ≤ w4.heap.size := Nat.le_trans hBr.size hb4.size
        first
        | (go_region_held3 (fun W' => W'.cell? ⟨w4.heap.size, 0, none⟩ = some (.int .i64 tk) ∧ W'.cell? ⟨w4.heap.size, 1, none⟩ = some (.string ta) ∧ W'.cell? ⟨w4.heap.size, 2, none⟩ = some (.string tb) ∧ W'.cell? ⟨w4.heap.size, 3, none⟩ = some (.slice tA tm tc))
            (first | (with_reducible assumption) | exact hSk _ Kb.drew | exact hSk _ (Kb.alloc _).drew | exact hSk _ K6 | exact hSk _ (K6.alloc _) | exact hSk _ K7)
            (first
              | (go_at_call 53; (with_reducible refine (cw _ hT5d hX5d hB5d).mono ?_); rintro e w6 ⟨v6, rfl, ⟨cs6, hrow6, hlen6, hall6⟩, hB6, hk6, hkeep6, ho6⟩
                 have K6 := hk6.blk Kb.drew hnb
                 have hn6 : some w4.heap.size ≠ v6.ownBlock := fun e => by
                   rcases ho6 _ e.symm with h | h
                   · exact hnb h.symm
                   · have h : (w4.alloc (.cells #[.int .i64 tk, .string ta, .string tb, .slice tA tm tc] 38)).heap.size ≤ w4.heap.size := h
                     rw [size_al] at h; omega
                 have KX := K6.alloc (.cells #[.int .i64 tk, .string ta, .string tb, .slice tA tm tc] 38)
                 have hkX : TkV (w6.alloc (.cells #[.int .i64 tk, .string ta, .string tb, .slice tA tm tc] 38)) E.heap.size (.agg #[.int .i64 tk, .string ta, .string tb, .slice tA tm tc]) t := (hkeep6 _ _ hk5).next (below_al (Below.refl _ _) (.cells #[.int .i64 tk, .string ta, .string tb, .slice tA tm tc] 38))
                 have hvX := hV5.via hB5 hB6 hgE
                 have hrowX := hrow6.alloc (.cells #[.int .i64 tk, .string ta, .string tb, .slice tA tm tc] 38)
                 have hallX := fun i c t h1 h2 => (hall6 i c t h1 h2).next (below_al (Below.refl _ _) (.cells #[.int .i64 tk, .string ta, .string tb, .slice tA tm tc] 38))
                 have hcX := RowG.new_cells w6 38 (tcC ⟨tk, ta, tb, tA, tm, tc⟩)
                 have hBX := below_al hB6 (.cells #[.int .i64 tk, .string ta, .string tb, .slice tA tm tc] 38)
                 have HL := Lib.hid hlen6
                 have hcl6 : cs6.length ≤ 10000 := by
                   rw [hlen6, List.length_append]
                   have := txtP_len (l'.take k)
                   omega
                 clear hlen6)
              | (go_at_call 53; (first | (with_reducible refine (cw _ hT5e hX5e hB5e).mono ?_) | (with_reducible refine (cw _ hT5f hX5f hB5f).mono ?_)); rintro e w6 ⟨v6, rfl, ⟨cs6, hrow6, hlen6, hall6⟩, hB6, hk6, hkeep6, ho6⟩
                 have K6 := hk6.blk (Kb.alloc (.cells #[.int .i64 tk, .string ta, .string tb, .slice tA tm tc] 38)).drew hnb
                 have hn6 : some w4.heap.size ≠ v6.ownBlock := fun e => by
                   rcases ho6 _ e.symm with h | h
                   · exact hnb h.symm
                   · have h : ((w4.alloc (.cells #[.int .i64 tk, .string ta, .string tb, .slice tA tm tc] 38)).alloc (.cells #[.int .i64 tk, .string ta, .string tb, .slice tA tm tc] 38)).heap.size ≤ w4.heap.size := h
                     rw [size_al, size_al] at h; omega
                 have KX := K6
                 have hkX : TkV w6 E.heap.size (.agg #[.int .i64 tk, .string ta, .string tb, .slice tA tm tc]) t := by first | exact hkeep6 _ _ hk5e | exact hkeep6 _ _ hk5f
                 have hvX := hV5.via hB5 hB6 hgE
                 have hrowX := hrow6
                 have hallX := hall6
                 have KO6 := hk6.blk KO.drew hnb2
                 have hcX : ∀ (j : Nat) (u : Value), (tcC ⟨tk, ta, tb, tA, tm, tc⟩)[j]? = some u → w6.cell? ⟨w4.heap.size + 1, j, none⟩ = some u := fun j u hu => (KO6.cell j).trans (arr_cells (tcC ⟨tk, ta, tb, tA, tm, tc⟩) j u hu)
                 have hBX := hB6
                 have HL := Lib.hid hlen6
                 have hcl6 : cs6.length ≤ 10000 := by
                   rw [hlen6, List.length_append]
                   have := txtP_len (l'.take k)
                   omega
                 clear hlen6)
              | (refine RowG.step_more _ (by rfl) _ _ 23 (by rfl) 38 tcC 4 64 _ info_tok Tryz.underlying23 rfl (by decide) tcC_len tcC_one E.heap.size _ cs6 ⟨tk, ta, tb, tA, tm, tc⟩ (by rfl) _ _ (by rfl) hrowX hcX (by simp only [maxLen]; omega) (by omega) hBX.size ?_
                 intro v7 w7 hrow7 hg7 ho7
                 have K7 := KX.grown hg7 hn6)))
        | (fail)
        all_goals
          go_wp2
          have hB7 := RowG.below_row hBX hrowX hg7
          have hV7 := hV5.via hB5 hB7 hgE
          have hT7 := tks_more (c := ⟨tk, ta, tb, tA, tm, tc⟩) (t := t) hrowX HL.out hallX hkX hrow7 hg7
          go_roundw
          case rel => exact ⟨b, 0, (ts ++ txtP (l'.take k)) ++ [t], hV7, Nat.zero_le _, rfl, hT7, hB7, HR2, by
            have := txtP_len (l'.take k)
            rw [List.length_append, List.length_append, List.length_singleton]
            omega⟩
          case measure => rw [hsv, hv4.sizeV]; simp [intOf]; omega
    · obtain rfl : k = l'.length := by omega
      have hRe : ts ++ txtP l' = R := by
        have h := HR.out
        rw [List.drop_length, List.take_length, readF_nil] at h
        exact h
      have cw := withText_any E g u4 u5 ts l' (by omega) (by omega) wr hT hv hBr
      rw [hRe] at cw
      obtain ⟨o, cap, rfl, hc, hL⟩ := hv
      clear HR hRe hL
      go_wp2_with (go_at_call 53; (with_reducible refine cw.mono ?_); rintro e w6 ⟨v6, rfl, hT6, hB6, -⟩)
      go_ret2
      exact ⟨v6, rfl, hT6, hB0.trans (hB6.mono (Nat.le_of_lt hgE))⟩
end Tok
end Go.Proofs.YteopighhhcikcaaGreatDoor
