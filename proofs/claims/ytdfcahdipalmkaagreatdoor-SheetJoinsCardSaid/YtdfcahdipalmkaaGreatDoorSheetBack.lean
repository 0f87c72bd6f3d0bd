/- Rows.SheetBackSaid: the walk. Conditions: what came in is no more than what can be reached; the tables are laid. -/
import Derived.Test.YtdfcahdipalmkaaGreatDoorShtP
import Derived.Test.YtdfcahdipalmkaaGreatDoorShtMath2
namespace Go.Proofs.YtdfcahdipalmkaaGreatDoor
open Go.ChangeShapes Go.WideShapes Go.ChangeAt Go.RowKit Go.Shelf
namespace sheetBack
open Sht
open RowG (Row)
theorem good_bound {r : Rul} (h : Sht.Good r) : RulB r := by
  obtain ⟨h1, h2, h3⟩ := h
  refine ⟨by omega, by omega, fun x hx => ?_⟩
  obtain ⟨g1, g2⟩ := h3 x hx
  obtain ⟨g3, g4, g5⟩ := Sel.cost_few g1
  exact ⟨by omega, by omega, g4, g5⟩
theorem go_may : ∀ (ts : List (List UInt8)) (xs : List Sel.Slr), Sel.listP.go ts = some xs → xs.all Sel.maySlr = true ∧ xs.length = ts.length
  | [], xs, h => by
    injection h with h
    subst h
    exact ⟨rfl, rfl⟩
  | t :: ts, xs, h => by
    rw [Sel.go_cons] at h
    cases h1 : Sel.readP t with
    | none => rw [h1] at h; cases h
    | some x =>
      rw [h1] at h
      cases h2 : Sel.listP.go ts with
      | none => rw [h2] at h; cases h
      | some ys =>
        rw [h2] at h
        injection h with h
        subst h
        obtain ⟨g1, g2⟩ := go_may ts ys h2
        exact ⟨by rw [List.all_cons, Sel.read_may h1, g1]; rfl, by rw [List.length_cons, List.length_cons, g2]⟩
theorem decls_le2 (l : List UInt8) : (declsF l).length ≤ 4 * (l.length + 1) := by
  unfold declsF
  have h := acc_len (splitF 59 l) (splitF 59 l).length
  rw [List.take_length] at h
  have := (Sel.split_small 59 l).1
  omega
theorem read_bound {l : List UInt8} {rs : List Rul} (h : readS l = some rs) : rs.length ≤ 40 ∧ ∀ r ∈ rs, RulB r := by
  unfold readS at h
  split at h
  · rename_i hc
    injection h with h
    refine ⟨by rw [← h]; exact hc.2, fun r hr => ?_⟩
    rw [← h] at hr
    unfold rulesF at hr
    obtain ⟨b, hb, e⟩ := List.mem_filterMap.1 hr
    have hs := (blocks_small (stripL l)).2 b hb
    have hl := strip_len l
    unfold ruleF at e
    cases hg : Sel.listP.go (splitF 44 b.1) with
    | none => rw [hg] at e; cases e
    | some xs =>
      rw [hg] at e
      injection e with e
      subst e
      obtain ⟨g1, g2⟩ := go_may _ _ hg
      have g3 := (Sel.split_small 44 b.1).1
      have g4 := decls_le2 b.2
      refine ⟨by show xs.length ≤ _; omega, by show (declsF b.2).length ≤ _; omega, fun x hx => sel_bound (List.all_eq_true.1 g1 x hx)⟩
  · cases h
theorem read_printS {rs : List Rul} (h : mayS rs = true) (hl : (printS rs).length ≤ 4000) : readS (printS rs) = some rs := by
  have e : printS rs = (rs.map printR).flatten := by unfold printS; rw [if_pos h]
  have h2 := h
  unfold mayS at h2
  rw [Bool.and_eq_true, decide_eq_true_eq] at h2
  have hr := rules_print [] rs h2.2
  rw [List.append_nil, show rulesF [] = [] from by decide +kernel, List.append_nil] at hr
  unfold readS
  rw [e, hr, if_pos ⟨by rw [← e]; exact hl, h2.1⟩]
set_option maxRecDepth 100000 in
set_option maxHeartbeats 64000000 in
theorem walk (A : Option Addr) (n c : Nat) (rs : List Rul) (s : ByteArray) (hs : s.size ≤ 140737488351232) (W : World) (hT : Val.Tabs W) (hn : n ≤ 4000000000000) (hR : RsR W W.heap.size A n rs) (hX : ∀ x ∈ rs, RulX x) :
    Calls Tryz.prog 4 #[.slice A n c, .string s] W fun e w' => e = .returned (.bool true) ∧ Below W.heap.size W w' := by
  obtain ⟨ls, hls⟩ : ∃ ls, s = toB ls := ⟨s.data.toList, rfl⟩
  have HLS := Lib.hid hls
  clear hls
  have ca := awake10_any W hT
  by_cases hbig : 1000 < s.size
  · have h1 : (1000 : Int) < (s.size : Int) := by omega
    go_enter Tryz.func4, Tryz.ntmps4
    go_wp2_with (go_at_call 8; (with_reducible refine ca.mono ?_); rintro e w1 ⟨rfl, hb1⟩)
    go_ret
    exact ⟨rfl, hb1⟩
  · have h1 : ¬ (1000 : Int) < (s.size : Int) := by omega
    have co := fun w (hb : Below W.heap.size W w) => own10_any A n c rs hn (fun x hx => (hX x hx).1) w (hR.below hb hb.size)
    have cl := fun A' n' c' w h => large10_any A' n' c' (rs.take 201) h (fun x hx => hX x (List.mem_of_mem_take hx)) w
    have hlen := hR.len
    have hn201 : (rs.take 201).length ≤ 201 := by rw [List.length_take]; omega
    have HL := Lib.hid hlen
    clear hX hlen
    go_enter Tryz.func4, Tryz.ntmps4
    go_upto_region 5 with (first
      | (go_at_call 8; (with_reducible refine ca.mono ?_); rintro e w1 ⟨rfl, hb1⟩)
      | (go_at_call 10; (with_reducible refine (co _ hb1).mono ?_); rintro e w2 ⟨⟨A2, n2, c2, rfl, hR2⟩, hb2⟩
         have hB2 := below_next hb1 hb2
         have hn2 : n2 ≤ 4000000000000 := by have := hR2.len; omega)
      | (go_at_call 9; (with_reducible refine (cl _ _ _ _ hn2 hR2).mono ?_); rintro e w3 ⟨⟨b, rfl, HB⟩, hb3⟩
         have hB3 := below_next hB2 hb3))
    · go_ret
      exact ⟨rfl, hB3⟩
    · obtain ⟨h100, hgood⟩ := HB.out (show (s.size : Int) ≤ 1000 ∧ b = false by assumption).2
      have hrs : rs.length ≤ 100 := by
        rw [List.length_take] at h100
        omega
      rw [List.take_of_length_le (by omega)] at hgood
      have hbd : ∀ r ∈ rs, RulB r := fun r hr => good_bound (hgood r hr)
      have hn6 : n ≤ 1000000 := by rw [← HL.out]; omega
      have hR3 := hR.below hB3 hB3.size
      have cp := print_any A n c rs hn6 hbd w3 (hT.at_ hB3) hR3
      obtain ⟨T, hTe⟩ : ∃ T, T = toB (printS rs) := ⟨_, rfl⟩
      have HTe := Lib.hid hTe
      have hTs : T.size ≤ 2160000 := by rw [hTe, toB_size]; exact printS_le rs
      rw [← hTe] at cp
      have hTl : T.size = (printS rs).length := by rw [hTe, toB_size]
      have HTl := Lib.hid hTl
      clear hTl hTe hgood h100 HB ca co cl hR2 hn2
      go_upto_region 6 with (go_at_call 20; (with_reducible refine cp.mono ?_); rintro e w4 ⟨rfl, hb4⟩)
      have hB4 := below_next hB3 hb4
      have hR4 := hR3.below hb4 hb4.size
      have cm := may_any A n c rs hn6 hbd w4 hR4
      go_cut [31] (fun s31 wx => s31 = .bool (mayS rs && decide (T.size ≤ 4000)) ∧ Below w4.heap.size w4 wx)
      case first =>
        by_cases hle : T.size ≤ 4000
        · have hli : (T.size : Int) ≤ 4000 := by omega
          cases hM : mayS rs with
          | true =>
            rw [hM] at cm
            go_wp2_with (go_at_call 18; (with_reducible refine cm.mono ?_); rintro e w5 ⟨rfl, hb5⟩)
            go_meet
            exact ⟨by rw [hM, decide_eq_true hle]; rfl, hb5⟩
          | false =>
            rw [hM] at cm
            go_wp2_with (go_at_call 18; (with_reducible refine cm.mono ?_); rintro e w5 ⟨rfl, hb5⟩)
            go_meet
            exact ⟨by rw [hM]; rfl, hb5⟩
        · have hli : ¬ (T.size : Int) ≤ 4000 := by omega
          cases hM : mayS rs with
          | true =>
            rw [hM] at cm
            go_wp2_with (go_at_call 18; (with_reducible refine cm.mono ?_); rintro e w5 ⟨rfl, hb5⟩)
            go_meet
            exact ⟨by rw [hM, decide_eq_false hle, decide_eq_false (show ¬ (T.size : Int) ≤ 4000 by omega)]; rfl, hb5⟩
          | false =>
            rw [hM] at cm
            go_wp2_with (go_at_call 18; (with_reducible refine cm.mono ?_); rintro e w5 ⟨rfl, hb5⟩)
            go_meet
            exact ⟨by rw [hM]; rfl, hb5⟩
      case rest =>
        obtain ⟨rfl, hb5⟩ := hcut
        generalize wc = w5 at *
        have hB5 := below_next hB4 hb5
        have hR5 := hR4.below hb5 hb5.size
        clear cm hb4 hb5
        go_upto_if 31 with (fail)
        go_cut [] (fun wx => Below w5.heap.size w5 wx)
        case first =>
          by_cases hP : mayS rs = true ∧ T.size ≤ 4000
          · obtain ⟨hM, hle⟩ := hP
            rw [hM, decide_eq_true hle]
            have hrd := read_printS hM (by rw [← HTl.out]; exact hle)
            have cr := read_any (printS rs) w5 (hT.at_ hB5)
            rw [hrd, ← HTe.out] at cr
            change Calls Tryz.prog 11 #[.string T] w5 (fun e w' => (∃ v, e = .returned (.tuple #[v, .int .i64 0]) ∧ RuL w' w5.heap.size v rs) ∧ Below w5.heap.size w5 w') at cr
            go_wp2_with (first
              | (go_at_call 11; (with_reducible refine cr.mono ?_); rintro e w6 ⟨⟨v, rfl, hL6⟩, hb6⟩
                 obtain ⟨A6, c6, hv6⟩ := hL6.form
                 rw [HL.out] at hv6
                 subst hv6
                 have hQ6 := hL6.reads
                 have hR6 := hR5.below hb6 hb6.size)
              | (go_at_call 22; (with_reducible refine (same_any A A6 n c n c6 rs rs hn6 hbd w6 hR6 hQ6).mono ?_); rintro e w7 ⟨rfl, hb7⟩
                 rw [decide_eq_true rfl]))
            go_meet
            exact below_next hb6 hb7
          · have hF : (mayS rs && decide (T.size ≤ 4000)) = false := by
              cases hM : mayS rs with
              | false => rfl
              | true => rw [decide_eq_false (fun h => hP ⟨hM, h⟩)]; rfl
            rw [hF]
            go_wp2
            go_meet
            exact Below.refl _ _
        case rest =>
          generalize wc = w8 at *
          have hB8 := below_next hB5 hcut
          have cr := read_any ls w8 (hT.at_ hB8)
          rw [← HLS.out] at cr
          clear HTe HTl hcut hR5 hR4 hR3 hR hrs hbd cp
          cases hq : readS ls with
          | none =>
            rw [hq] at cr
            change Calls Tryz.prog 11 #[.string s] w8 (fun e w' => e = .returned (.tuple #[.slice none 0 0, .int .i64 3]) ∧ Below w8.heap.size w8 w') at cr
            go_wp2_with (go_at_call 11; (with_reducible refine cr.mono ?_); rintro e w9 ⟨rfl, hb9⟩)
            go_ret
            exact ⟨rfl, below_next hB8 hb9⟩
          | some ms =>
            rw [hq] at cr
            change Calls Tryz.prog 11 #[.string s] w8 (fun e w' => (∃ v, e = .returned (.tuple #[v, .int .i64 0]) ∧ RuL w' w8.heap.size v ms) ∧ Below w8.heap.size w8 w') at cr
            obtain ⟨hm40, hmb⟩ := read_bound hq
            obtain ⟨mn, hmn⟩ : ∃ mn, ms.length = mn := ⟨_, rfl⟩
            have HMN := Lib.hid hmn
            have hmn6 : mn ≤ 1000000 := by omega
            have cp := fun A c w hT (h : RsR w w.heap.size A mn ms) => print_any A mn c ms hmn6 hmb w hT h
            have cm := fun A c w (h : RsR w w.heap.size A mn ms) => may_any A mn c ms hmn6 hmb w h
            have cs := fun A c A2 c2 w (h : RsR w w.heap.size A mn ms) (h2 : RsR w w.heap.size A2 mn ms) => same_any A A2 mn c mn c2 ms ms hmn6 hmb w h h2
            have hts := printS_le ms
            obtain ⟨U, hU⟩ : ∃ U, U = toB (printS ms) := ⟨_, rfl⟩
            have hUs : U.size = (printS ms).length := by rw [hU, toB_size]
            have hUb : U.size ≤ 2160000 := by omega
            have HUs := Lib.hid hUs
            rw [← hU] at cp
            have crU := fun w hT => read_any (printS ms) w hT
            rw [← hU] at crU
            clear hq hmn hm40 hts hU hUs
            by_cases hgo : mayS ms = true ∧ U.size ≤ 4000
            · obtain ⟨hM, hle⟩ := hgo
              have hli : (U.size : Int) ≤ 4000 := by omega
              have hli2 : ¬ 4000 < (U.size : Int) := by omega
              rw [hM] at cm
              rw [read_printS hM (by rw [← HUs.out]; exact hle)] at crU
              change ∀ w, Val.Tabs w → Calls Tryz.prog 11 #[.string U] w (fun e w' => (∃ v, e = .returned (.tuple #[v, .int .i64 0]) ∧ RuL w' w.heap.size v ms) ∧ Below w.heap.size w w') at crU
              clear hM hle
              go_wp2_with (first
                | (go_at_call 11; (with_reducible refine cr.mono ?_); rintro e w9 ⟨⟨v, rfl, hL9⟩, hb9⟩
                   obtain ⟨A9, c9, hv9⟩ := hL9.form
                   rw [HMN.out] at hv9
                   subst hv9
                   have hQ9 := hL9.reads
                   have hB9 := below_next hB8 hb9)
                | (go_at_call 20; (with_reducible refine (cp _ _ _ (hT.at_ hB9) hQ9).mono ?_); rintro e w10 ⟨rfl, hb10⟩
                   have hQ10 := hQ9.below hb10 hb10.size
                   have hB10 := below_next hB9 hb10)
                | (go_at_call 18; (with_reducible refine (cm _ _ _ hQ10).mono ?_); rintro e w11 ⟨rfl, hb11⟩
                   have hQ11 := hQ10.below hb11 hb11.size
                   have hB11 := below_next hB10 hb11)
                | (go_at_call 11; (with_reducible refine (crU _ (hT.at_ hB11)).mono ?_); rintro e w12 ⟨⟨v2, rfl, hL12⟩, hb12⟩
                   obtain ⟨A12, c12, hv12⟩ := hL12.form
                   rw [HMN.out] at hv12
                   subst hv12
                   have hN12 := hL12.reads
                   have hQ12 := hQ11.below hb12 hb12.size
                   have hB12 := below_next hB11 hb12)
                | (go_at_call 22; (with_reducible refine (cs _ _ _ _ _ hQ12 hN12).mono ?_); rintro e w13 ⟨rfl, hb13⟩
                   try rw [decide_eq_true rfl]
                   have hN13 := hN12.below hb13 hb13.size
                   have hB13 := below_next hB12 hb13)
                | (go_at_call 20; (with_reducible refine (cp _ _ _ (hT.at_ hB13) hN13).mono ?_); rintro e w14 ⟨rfl, hb14⟩
                   have hB14 := below_next hB13 hb14))
              go_ret
              exact ⟨by simp, hB14⟩
            · cases hM : mayS ms with
              | false =>
                rw [hM] at cm
                clear hgo
                go_wp2_with (first
                  | (go_at_call 11; (with_reducible refine cr.mono ?_); rintro e w9 ⟨⟨v, rfl, hL9⟩, hb9⟩
                     obtain ⟨A9, c9, hv9⟩ := hL9.form
                     rw [HMN.out] at hv9
                     subst hv9
                     have hQ9 := hL9.reads
                     have hB9 := below_next hB8 hb9)
                  | (go_at_call 20; (with_reducible refine (cp _ _ _ (hT.at_ hB9) hQ9).mono ?_); rintro e w10 ⟨rfl, hb10⟩
                     have hQ10 := hQ9.below hb10 hb10.size
                     have hB10 := below_next hB9 hb10)
                  | (go_at_call 18; (with_reducible refine (cm _ _ _ hQ10).mono ?_); rintro e w11 ⟨rfl, hb11⟩
                     have hB11 := below_next hB10 hb11))
                go_ret
                exact ⟨rfl, hB11⟩
              | true =>
                have hli2 : 4000 < (U.size : Int) := by
                  have : ¬ U.size ≤ 4000 := fun h => hgo ⟨hM, h⟩
                  omega
                rw [hM] at cm
                clear hgo
                go_wp2_with (first
                  | (go_at_call 11; (with_reducible refine cr.mono ?_); rintro e w9 ⟨⟨v, rfl, hL9⟩, hb9⟩
                     obtain ⟨A9, c9, hv9⟩ := hL9.form
                     rw [HMN.out] at hv9
                     subst hv9
                     have hQ9 := hL9.reads
                     have hB9 := below_next hB8 hb9)
                  | (go_at_call 20; (with_reducible refine (cp _ _ _ (hT.at_ hB9) hQ9).mono ?_); rintro e w10 ⟨rfl, hb10⟩
                     have hQ10 := hQ9.below hb10 hb10.size
                     have hB10 := below_next hB9 hb10)
                  | (go_at_call 18; (with_reducible refine (cm _ _ _ hQ10).mono ?_); rintro e w11 ⟨rfl, hb11⟩
                     have hB11 := below_next hB10 hb11))
                go_ret
                exact ⟨rfl, hB11⟩
end sheetBack
end Go.Proofs.YtdfcahdipalmkaaGreatDoor
