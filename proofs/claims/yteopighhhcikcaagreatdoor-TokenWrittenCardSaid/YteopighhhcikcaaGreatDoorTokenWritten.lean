/- TokenWritten's walk: what is written is read. Conditions: none beyond the row's own. -/
import Derived.Test.YteopighhhcikcaaGreatDoorTokenParts
import Derived.Test.YteopighhhcikcaaGreatDoorTokL
import Derived.Deep.RegionHeld3
namespace Go.Proofs.YteopighhhcikcaaGreatDoor
open Go.ChangeShapes Go.WideShapes Go.ChangeAt Go.RowKit
namespace tokenWritten
open Tok SetB
open RowG (Row)
theorem cat_run (a b : List UInt8) (h : a.length + b.length ≤ 1000000) (w : World) : (binOp .add 9 (.string (toB a)) (.string (toB b))).run Tryz.prog w = .ok (.string (toB (a ++ b))) w := by
  have ha : ((toB a).size : Int) ≤ 8388608 := by rw [toB_size]; omega
  have hb : ((toB b).size : Int) ≤ 8388608 := by rw [toB_size]; omega
  have := run_string_add (P := Tryz.prog) w (toB a) (toB b) ha hb
  rw [toB_cat] at this
  go_simp
theorem atsTx_len (ats : List At) (h : ∀ a ∈ ats, a.1.length ≤ 20 ∧ a.2.length ≤ 50) : (atsTx ats).length ≤ 330 * ats.length := by
  induction ats with
  | nil => exact Nat.le_refl _
  | cons a t ih =>
    have h1 := h a List.mem_cons_self
    have h2 := ih (fun b hb => h b (List.mem_cons_of_mem _ hb))
    have h3 := signL_len true a.2
    show (atTx a ++ atsTx t).length ≤ _
    rw [List.length_append, List.length_cons]
    unfold atTx
    simp only [List.length_cons, List.length_append, List.length_nil]
    omega
theorem atsTx_snoc (ats : List At) (a : At) : atsTx (ats ++ [a]) = atsTx ats ++ atTx a := by
  induction ats with
  | nil => show atTx a ++ [] = _; rw [List.append_nil]; rfl
  | cons b t ih => show atTx b ++ atsTx (t ++ [a]) = (atTx b ++ atsTx t) ++ atTx a; rw [ih, List.append_assoc]
theorem add_at {S : ByteArray} {p : List UInt8} (h : S = toB p) (a : At) : S ++ ((⟨#[32]⟩ : ByteArray) ++ toB a.1 ++ ⟨#[61, 34]⟩ ++ toB (signL true a.2) ++ ⟨#[34]⟩) = toB (p ++ atTx a) := by
  rw [h, show (⟨#[32]⟩ : ByteArray) = toB [32] from rfl, show (⟨#[61, 34]⟩ : ByteArray) = toB [61, 34] from rfl, show (⟨#[34]⟩ : ByteArray) = toB [34] from rfl]
  simp only [toB_cat]
  unfold atTx
  simp
theorem add_end {S tn : ByteArray} {nm x : List UInt8} {ats : List At} (h : S = toB (60 :: (nm ++ atsTx ats))) (hn : tn = toB nm) : S ++ ((⟨#[62]⟩ : ByteArray) ++ toB (signL false x) ++ ⟨#[60, 47]⟩ ++ tn ++ ⟨#[62]⟩) = toB (wrTx nm ats x) := by
  rw [h, hn, show (⟨#[62]⟩ : ByteArray) = toB [62] from rfl, show (⟨#[60, 47]⟩ : ByteArray) = toB [60, 47] from rfl]
  simp only [toB_cat]
  unfold wrTx
  simp
theorem atsOk_snoc {ats : List At} {a : At} (h : AtsOk ats) (hn : nameB a.1 = true) (hno : a.1 ∉ ats.map (·.1)) : AtsOk (ats ++ [a]) := by
  refine ⟨?_, ?_⟩
  · rw [List.map_append, List.nodup_append]
    refine ⟨h.1, by simp, ?_⟩
    intro y hy z hz e
    simp only [List.map_cons, List.map_nil, List.mem_singleton] at hz
    subst hz
    subst e
    exact hno hy
  · intro b hb
    rcases List.mem_append.1 hb with hb | hb
    · exact h.2 b hb
    · rw [List.mem_singleton] at hb; rw [hb]; exact hn
/-- What holds of the copied attribute's two cells while memory grows. -/
theorem keptB {E W W' : World} {g : Nat} {x y : Value} (hg : g < E.heap.size) (h : (W.cell? ⟨g, 0, none⟩ = some x ∧ W.cell? ⟨g, 1, none⟩ = some y) ∧ Below E.heap.size E W) (hb : Below W.heap.size W W') :
    (W'.cell? ⟨g, 0, none⟩ = some x ∧ W'.cell? ⟨g, 1, none⟩ = some y) ∧ Below E.heap.size E W' := by
  have hgW : g < W.heap.size := Nat.lt_of_lt_of_le hg h.2.size
  exact ⟨⟨(hb.cell (p := ⟨g, 0, none⟩) hgW).trans h.1.1, (hb.cell (p := ⟨g, 1, none⟩) hgW).trans h.1.2⟩, below_next h.2 hb⟩
theorem seen_kept {w w' : World} {b : Nat} {ks : List (List UInt8)} (h : Seen w b ks) (hb : Below w.heap.size w w') : Seen w' b ks := h.next hb
set_option maxRecDepth 100000 in
set_option maxHeartbeats 16000000 in
theorem walk (name : ByteArray) (hname : name.size ≤ maxLen) (A : Option Addr) (n c : Nat) (ats : List At) (text : ByteArray) (_ht : text.size ≤ maxLen) (w : World) (hn : n ≤ 17592186043904) (hr : Reads w w.heap.size 2 A n (ats.flatMap atC)) (hz : ∀ x ∈ ats, x.1.length ≤ 140737488351232 ∧ x.2.length ≤ 140737488351232) :
    Calls Tryz.prog 6 #[.string name, .slice A n c, .string text] w fun e w' => e = .returned (.bool true) ∧ Below w.heap.size w w' := by
  have ca := awakeT_any w
  by_cases hl : 400 < text.size
  · have hl' : (400 : Int) < (text.size : Int) := by omega
    go_enter Tryz.func6, Tryz.ntmps6
    go_wp2_with (go_at_call 15; (with_reducible refine ca.mono ?_); rintro e w1 ⟨rfl, hB1⟩)
    go_ret
    exact ⟨rfl, hB1⟩
  · have hd : decide ((400 : Int) < (text.size : Int)) = false := decide_eq_false (by omega)
    obtain ⟨nm, rfl⟩ : ∃ l, name = toB l := ⟨name.data.toList, bytes_inj rfl⟩
    rw [toB_size] at hname
    have cn := fun w => name_any nm hname w
    cases hnm : nameB nm with
    | false =>
      rw [hnm] at cn
      generalize toB nm = tn at *
      clear hl hname
      go_enter Tryz.func6, Tryz.ntmps6
      go_wp2_with (first
        | (go_at_call 15; (with_reducible refine ca.mono ?_); rintro e w1 ⟨rfl, hB1⟩)
        | (go_at_call 20; (with_reducible refine (cn _).mono ?_); rintro e w2 ⟨rfl, hb2⟩))
      go_ret
      exact ⟨rfl, below_next hB1 hb2⟩
    | true =>
      rw [hnm] at cn
      by_cases h10 : 10 < n
      · have h10' : (10 : Int) < (n : Int) := by omega
        generalize toB nm = tn at *
        clear hl hname
        go_enter Tryz.func6, Tryz.ntmps6
        go_wp2_with (first
          | (go_at_call 15; (with_reducible refine ca.mono ?_); rintro e w1 ⟨rfl, hB1⟩)
          | (go_at_call 20; (with_reducible refine (cn _).mono ?_); rintro e w2 ⟨rfl, hb2⟩))
        go_ret
        exact ⟨rfl, below_next hB1 hb2⟩
      · have hd2 : decide ((10 : Int) < (n : Int)) = false := decide_eq_false (by omega)
        obtain ⟨x, rfl⟩ : ∃ l, text = toB l := ⟨text.data.toList, bytes_inj rfl⟩
        rw [toB_size] at hl _ht hd
        have hnl := nameB_len hnm
        have hsz0 : ((toB x).size : Int) = x.length := by rw [toB_size]
        have hsz1 : (toB x).size = x.length := toB_size x
        have hst : (toB nm).size ≤ 20 := by rw [toB_size]; omega
        have hatl : ats.length = n := by have := hr.1; rw [flat_len atC_len] at this; omega
        have HZ := Lib.hid hz
        have HNM := Lib.hid hnm
        have HAL := Lib.hid hatl
        have HNL := Lib.hid hnl
        have hmm := @run_makeMap Tryz.prog
        obtain ⟨tn, htn⟩ : ∃ tn, tn = toB nm := ⟨_, rfl⟩
        obtain ⟨tx, htx⟩ : ∃ tx, tx = toB x := ⟨_, rfl⟩
        rw [← htn] at cn hst ⊢
        rw [← htx] at hsz0 hsz1 ⊢
        have HTN := Lib.hid htn
        have HTX := Lib.hid htx
        have HS0 : Hid ((⟨#[60]⟩ : ByteArray) ++ tn = toB (60 :: (nm ++ atsTx (ats.take 0)))) := by
          show _ = _
          rw [htn, show (⟨#[60]⟩ : ByteArray) = toB [60] from rfl, toB_cat]
          simp [atsTx]
        clear hz hnm hatl htn htx hname hnl hsz0
        go_enter Tryz.func6, Tryz.ntmps6
        go_wp2_with (first
          | (go_at_call 15; (with_reducible refine ca.mono ?_); rintro e w1 ⟨rfl, hB1⟩)
          | (go_at_call 20; (with_reducible refine (cn _).mono ?_); rintro e w2 ⟨rfl, hb2⟩
             have hB2 := below_next hB1 hb2
             have hSn := Seen.made w2
             have hBm := below_al hB2 (.map #[] 0)
             have hbz := hB2.size))
        clear hmm cn ca
        obtain ⟨b, hbe⟩ : ∃ b, b = w2.heap.size := ⟨_, rfl⟩
        rw [← hbe] at hSn hbz ⊢
        clear hbe
        generalize w2.alloc (.map #[] 0) = W0 at *
        go_loopw [7, 34] (fun sv iv wr => ∃ (k : Nat) (S : ByteArray), k ≤ n ∧ iv = .int .i64 k ∧ sv = .string S ∧ Hid (S = toB (60 :: (nm ++ atsTx (ats.take k)))) ∧ Below w.heap.size w wr ∧ Seen wr b ((ats.take k).map (·.1)) ∧ Hid (AtsOk (ats.take k)) ∧ Hid (∀ a ∈ ats.take k, a.1.length ≤ 20 ∧ a.2.length ≤ 50)) (fun _ iv _ => n - (intOf iv).toNat)
        case atStart => exact ⟨0, _, Nat.zero_le _, rfl, rfl, HS0, hBm, hSn, atsOk_nil, fun a ha => by simp at ha⟩
        case round =>
          obtain ⟨k, S, hk, rfl, rfl, HS, hBr, hSr, HOK, HBD⟩ := hrel
          clear HS0 hBm hSn
          by_cases hlt : k < n
          · obtain ⟨a, ha⟩ : ∃ a, ats[k]? = some a := ⟨_, List.getElem?_eq_getElem (by rw [HAL.out]; exact hlt)⟩
            obtain ⟨ad, rfl, -, f0, f1⟩ := attr_of (hr.below hBr) ha
            have hal := HZ.out a (List.mem_of_getElem? ha)
            have cn := fun w => name_any a.1 (by unfold maxLen; omega) w
            have K1 := Blk.new wr 41 #[.string (toB a.1), .string (toB a.2)]
            have hS1 := hSr.next (below_al (Below.refl wr.heap.size wr) (.cells #[.string (toB a.1), .string (toB a.2)] 41))
            have hB1' := below_al hBr (.cells #[.string (toB a.1), .string (toB a.2)] 41)
            have htk : ats.take (k + 1) = ats.take k ++ [a] := by rw [List.take_add_one, ha]; rfl
            have HTK := Lib.hid htk
            have hkl : (ats.take k).length = k := by rw [List.length_take]; have := HAL.out; omega
            have hln : (ats.take k).length ≤ 10 := by omega
            clear htk ha hkl
            generalize ats.take k = ak at *
            cases hna : nameB a.1 with
            | false =>
              rw [hna] at cn
              go_wp2_with (go_at_call 20; (with_reducible refine (cn _).mono ?_); rintro e w5 ⟨rfl, hb5⟩)
              go_ret
              exact ⟨rfl, below_next hB1' hb5⟩
            | true =>
              rw [hna] at cn
              have hnl := nameB_len hna
              have hbl := hSr.lt
              by_cases hin : a.1 ∈ ak.map (·.1)
              · go_wp2_with (go_at_call 20; (with_reducible refine (cn _).mono ?_); rintro e w5 ⟨rfl, hb5⟩
                             have K5 := K1.next hb5
                             have x0 := K5.cell 0
                             have hlk := (hS1.next hb5).look a.1 (by unfold maxLen; omega)
                             rw [decide_eq_true hin] at hlk)
                go_ret
                exact ⟨rfl, below_next hB1' hb5⟩
              · have hsv : (toB a.2).size = a.2.length := toB_size _
                by_cases h50 : 50 < a.2.length
                · have h50' : (50 : Int) < (a.2.length : Int) := by omega
                  go_wp2_with (go_at_call 20; (with_reducible refine (cn _).mono ?_); rintro e w5 ⟨rfl, hb5⟩
                               have K5 := K1.next hb5
                               have x0 := K5.cell 0
                               have x1 := K5.cell 1
                               have hlk := (hS1.next hb5).look a.1 (by unfold maxLen; omega)
                               rw [decide_eq_false hin] at hlk)
                  go_ret
                  exact ⟨rfl, below_next hB1' hb5⟩
                · have h50' : decide ((50 : Int) < (a.2.length : Int)) = false := decide_eq_false (by omega)
                  go_wp2_with (first
                    | (go_at_call 20; (with_reducible refine (cn _).mono ?_); rintro e w5 ⟨rfl, hb5⟩
                       have K5 := K1.next hb5
                       have x0 := K5.cell 0
                       have x1 := K5.cell 1
                       have hS5 := hS1.next hb5
                       have hlk := hS5.look a.1 (by unfold maxLen; omega)
                       rw [decide_eq_false hin] at hlk
                       have hB5 := below_next hB1' hb5)
                    | (refine wpList_put (by rfl) _ _ _ (by rfl) b (ak.map (·.1)) a.1 (by rfl) hS5 (by unfold maxLen; omega) (by rw [List.length_map]; unfold maxLen; omega) (by rfl) (by rfl) ?_
                       intro w6 hS6 hg6))
                  have K6 : Blk w6 wr.heap.size 41 #[.string (toB a.1), .string (toB a.2)] := Blk.grown K5 hg6 (fun e => by injection e with e; omega)
                  have hB6 := hB5.grown hg6 hB5.size (fun k hk => by cases hk; exact hbz)
                  have y0 := K6.cell 0
                  have y1 := K6.cell 1
                  have hlt6 := K6.lt
                  have cs := fun w => Sg.sign_any a.2 true (by omega) w
                  have hz1 : (toB a.1).size ≤ 20 := by rw [toB_size]; omega
                  have hz3 : (toB (signL true a.2)).size ≤ 300 := by rw [toB_size]; have := signL_len true a.2; omega
                  have hzS : S.size ≤ 3400 := by
                    rw [HS.out, toB_size, List.length_cons, List.length_append]
                    have := atsTx_len ak HBD.out
                    have := HNL.out
                    omega
                  have q1 : ¬9223372036854775807 < 1 + (toB a.1).size := by omega
                  have q2 : ¬9223372036854775807 < 1 + (toB a.1).size + 2 := by omega
                  have q3 : ¬9223372036854775807 < 1 + (toB a.1).size + 2 + (toB (signL true a.2)).size := by omega
                  have q4 : ¬9223372036854775807 < 1 + (toB a.1).size + 2 + (toB (signL true a.2)).size + 1 := by omega
                  have q5 : ¬9223372036854775807 < S.size + (1 + (toB a.1).size + 2 + (toB (signL true a.2)).size + 1) := by omega
                  clear K5 K1 x0 x1 hlk hS5 hS1 cn hB5 K6
                  go_region_held3 (fun W' => (W'.cell? ⟨wr.heap.size, 0, none⟩ = some (.string (toB a.1)) ∧ W'.cell? ⟨wr.heap.size, 1, none⟩ = some (.string (toB a.2))) ∧ Below w6.heap.size w6 W')
                    (first | assumption | exact ⟨⟨y0, y1⟩, (Below.refl _ _).drew⟩ | exact keptB hlt6 (by assumption) (by assumption))
                    (first | (go_at_call 24; (with_reducible refine (cs _).mono ?_); rintro e w7 ⟨rfl, hb7⟩))
                  rename_i hS7
                  go_wp2
                  go_roundw
                  case rel =>
                    refine ⟨k + 1, _, by omega, by go_num, rfl, ?_, below_next hB6 hS7.2, ?_, ?_, ?_⟩
                    · show _ = _
                      rw [HTK.out, atsTx_snoc, ← List.append_assoc]
                      exact add_at HS.out a
                    · rw [HTK.out, List.map_append]; exact hS6.next hS7.2
                    · show AtsOk _
                      rw [HTK.out]
                      exact atsOk_snoc HOK.out hna hin
                    · show ∀ b ∈ _, _
                      rw [HTK.out]
                      intro d hd
                      rcases List.mem_append.1 hd with hd | hd
                      · exact HBD.out d hd
                      · rw [List.mem_singleton] at hd; rw [hd]; omega
                  case measure => simp [intOf]; omega
          · obtain rfl : k = n := by omega
            have htk : ats.take k = ats := List.take_of_length_le (by rw [HAL.out]; exact Nat.le_refl _)
            rw [htk] at HS HOK HBD hSr
            have cs := fun w => Sg.sign_any x false (by omega) w
            have hTt := add_end (x := x) HS.out HTN.out
            have hzt := congrArg ByteArray.size hTt
            rw [toB_size] at hzt
            have hz3 : (toB (signL false x)).size ≤ 2400 := by rw [toB_size]; have := signL_len false x; omega
            have hzS : S.size ≤ 3400 := by
              rw [HS.out, toB_size, List.length_cons, List.length_append]
              have := atsTx_len ats HBD.out
              have := HNL.out
              have := HAL.out
              omega
            have cr := fun (h : (wrTx nm ats x).length ≤ 4000) w => read_any (wrTx nm ats x) h w
            rw [read_wr nm ats x HNM.out HOK.out] at cr
            rw [← hTt] at cr
            simp only [ByteArray.size_append] at hzt
            replace hzt : S.size + (1 + (toB (signL false x)).size + 2 + tn.size + 1) = (wrTx nm ats x).length := hzt
            obtain ⟨ts, hts⟩ : ∃ ts, ts = (⟨1, nm, [], ats⟩ : T) :: ((if x = [] then [] else [⟨3, [], x, []⟩]) ++ [⟨2, nm, [], []⟩]) := ⟨_, rfl⟩
            rw [← hts] at cr
            have htl : ts.length ≤ 3 := by rw [hts]; split <;> simp
            have HTS := Lib.hid hts
            rw [← HTX.out] at cs
            generalize toB (signL false x) = sx at *
            have HZT := Lib.hid hzt
            have hc1 : ∀ w4, Below w.heap.size w w4 → TcR w4 w4.heap.size ⟨1, tn, ⟨#[]⟩, A, k, c⟩ (⟨1, nm, [], ats⟩ : T) := fun w4 hb => ⟨rfl, HTN.out, rfl, HAL.out.symm, (hr.below hb).more hb.size⟩
            have hc2 : ∀ w4 B, TcR w4 B ⟨2, tn, ⟨#[]⟩, none, 0, 0⟩ (⟨2, nm, [], []⟩ : T) := fun w4 B => ⟨rfl, HTN.out, rfl, rfl, Reads.none_⟩
            have hc3 : ∀ w4 B, TcR w4 B ⟨3, ⟨#[]⟩, tx, none, 0, 0⟩ (⟨3, [], x, []⟩ : T) := fun w4 B => ⟨rfl, rfl, HTX.out, rfl, Reads.none_⟩
            have HC1 := Lib.hid hc1
            have HC2 := Lib.hid hc2
            have HC3 := Lib.hid hc3
            have hmt : ∀ t ∈ ts, t.attrs.length ≤ 1000000 := by
              intro t ht
              rw [hts] at ht
              have hk10 := HAL.out
              by_cases hx : x = []
              · simp [hx] at ht
                rcases ht with rfl | rfl
                · show ats.length ≤ _; omega
                · exact Nat.zero_le _
              · simp [hx] at ht
                rcases ht with rfl | rfl | rfl
                · show ats.length ≤ _; omega
                · exact Nat.zero_le _
                · exact Nat.zero_le _
            have HMT := Lib.hid hmt
            clear hzt hTt htk hts hc1 hc2 hc3 hmt
            by_cases hx : x = []
            · subst hx
              obtain rfl : tx = ⟨#[]⟩ := HTX.out
              have hus : ts = [⟨1, nm, [], ats⟩] ++ [⟨2, nm, [], []⟩] := HTS.out
              have HUS := Lib.hid hus
              clear hus
              go_wp2_with (first
                | (go_at_call 24; (with_reducible refine (cs _).mono ?_); rintro e w3 ⟨rfl, hb3⟩)
                | (go_at_call 16
                   have hzt := HZT.out
                   have hle : (wrTx nm ats []).length ≤ 4000 := by omega
                   clear hzt
                   (with_reducible refine (cr hle _).mono ?_); rintro e w4 ⟨v4, rfl, hT, hb4⟩
                   obtain ⟨A4, c4, rfl, hT4⟩ := hT.tr
                   have hB4 := below_next hBr (below_next hb3 hb4)
                   have hL1 := TR2.lit (Nat.le_refl _) (HC1.out w4 hB4)
                   have hT1 := hT4.below (below_al (Below.refl w4.heap.size w4) (.cells #[.int .i64 1, .string tn, .string ⟨#[]⟩, .slice A k c] 42)) (Nat.le_refl _)
                   have hB5 := below_al hB4 (.cells #[.int .i64 1, .string tn, .string ⟨#[]⟩, .slice A k c] 42)
                   have hz5 : (w4.alloc (.cells #[.int .i64 1, .string tn, .string ⟨#[]⟩, .slice A k c] 42)).heap.size = w4.heap.size + 1 := size_al _ _
                   clear hT4 hT)
                | (go_at_call 19; (with_reducible refine (ownT2_any A4 ts.length c4 ts (by omega) _ w4.heap.size (by omega) hT1).mono ?_); rintro e w5 ⟨v5, cs5, rfl, h5, hb5⟩
                   have hs5 := hb5.size
                   obtain ⟨A5, c5, rfl, -⟩ := h5.tr (by omega)
                   have hB6 := below_next hB5 hb5
                   have hL5 := (hL1.next hb5 (by omega)).next (below_al (Below.refl w5.heap.size w5) (.cells #[.int .i64 2, .string tn, .string ⟨#[]⟩, .slice none 0 0] 42)) (by omega)
                   have hB7 := below_al hB6 (.cells #[.int .i64 2, .string tn, .string ⟨#[]⟩, .slice none 0 0] 42)
                   have h5' := h5.next (below_al (Below.refl w5.heap.size w5) (.cells #[.int .i64 2, .string tn, .string ⟨#[]⟩, .slice none 0 0] 42)) (by omega)
                   have hnc := RowG.new_cells w5 42 (tcC ⟨2, tn, ⟨#[]⟩, none, 0, 0⟩)
                   have hz7 : (w5.alloc (.cells #[.int .i64 2, .string tn, .string ⟨#[]⟩, .slice none 0 0] 42)).heap.size = w5.heap.size + 1 := size_al _ _
                   clear h5)
                | (at_builtin; (refine wpList_moreG _ (by rfl) _ _ 27 (by rfl) 42 tcC 4 64 _ info_rt Tryz.underlying27 rfl (by decide) tcC_len tcC_one w4.heap.size _ _ _ (by rfl) w5.heap.size _ (by rfl) hL5.1 hnc (by show 1 + 1 ≤ maxLen; decide) (by show (1 + 1) * 64 ≤ 140737488355328; decide) (by omega) ?_)
                   intro v8 w8 hrow8 hg8 _
                   have hL8 := hL5.snoc hrow8 hg8 (Nat.le_refl _) (by omega) (HC2.out _ _)
                   have hs8 := hg8.size
                   have h8 := h5'.aside hg8 (fun j hj => by have := World.ownsRow.lt hL1.1 j hj; omega) (by omega)
                   have hB8 := hB7.grown hg8 hB7.size (fun j hj => by have := (World.ownsRow.lt hL1.1 j hj).1; have := hB4.size; omega)
                   obtain ⟨A8, c8, rfl, hT8⟩ := hL8.tr (by omega)
                   obtain ⟨A9, c9, e9, hT9⟩ := h8.tr (by omega)
                   injection e9 with e9 e9a e9b
                   subst e9
                   have hsame := sameT_any A5 ts.length c9 ts A8 2 c8 _ (by omega) HMT.out w8 _ hT9 hT8
                   rw [decide_eq_true HUS.out] at hsame)
                | (go_at_call 18; (with_reducible refine hsame.mono ?_); rintro e w9 ⟨rfl, q9, rfl⟩))
              · go_ret
                exact ⟨rfl, below_next hBr hb3⟩
              · go_ret
                exact ⟨rfl, below_dr hB8 _⟩
            · have hus : ts = ([⟨1, nm, [], ats⟩] ++ [⟨3, [], x, []⟩]) ++ [⟨2, nm, [], []⟩] := by rw [HTS.out, if_neg hx]; rfl
              have HUS := Lib.hid hus
              have hne : tx.toList.isEmpty = false := by rw [HTX.out, toB_toList]; cases h : x with
                | nil => exact absurd h hx
                | cons _ _ => rfl
              have hne2 : (tx.toList == []) = false := by rw [HTX.out, toB_toList]; cases h : x with
                | nil => exact absurd h hx
                | cons _ _ => rfl
              have hne3 : tx.toList ≠ [] := by rw [HTX.out, toB_toList]; exact hx
              clear hus hx
              go_wp2_with (first
                | (go_at_call 24; (with_reducible refine (cs _).mono ?_); rintro e w3 ⟨rfl, hb3⟩)
                | (go_at_call 16
                   go_loud (
                     have hzt := HZT.out
                     have hle : (wrTx nm ats x).length ≤ 4000 := by omega
                     clear hzt
                     (with_reducible refine (cr hle _).mono ?_); rintro e w4 ⟨v4, rfl, hT, hb4⟩
                     obtain ⟨A4, c4, rfl, hT4⟩ := hT.tr
                     have hB4 := below_next hBr (below_next hb3 hb4)
                     have hL0 : TR2 (w4.alloc (.cells #[.int .i64 1, .string tn, .string ⟨#[]⟩, .slice A k c] 42)) w4.heap.size w4.heap.size (.slice (some ⟨w4.heap.size, 0, none⟩) 1 1) [⟨1, tn, ⟨#[]⟩, A, k, c⟩] [⟨1, nm, [], ats⟩] := TR2.lit (Nat.le_refl _) (HC1.out w4 hB4)
                     have hz0 : (w4.alloc (.cells #[.int .i64 1, .string tn, .string ⟨#[]⟩, .slice A k c] 42)).heap.size = w4.heap.size + 1 := size_al _ _
                     have hL3 := hL0.next (below_al (Below.refl _ _) (.cells #[.int .i64 3, .string ⟨#[]⟩, .string tx, .slice none 0 0] 42)) (by omega)
                     have hB3 := below_al (below_al hB4 (.cells #[.int .i64 1, .string tn, .string ⟨#[]⟩, .slice A k c] 42)) (.cells #[.int .i64 3, .string ⟨#[]⟩, .string tx, .slice none 0 0] 42)
                     have hnc3 := RowG.new_cells (w4.alloc (.cells #[.int .i64 1, .string tn, .string ⟨#[]⟩, .slice A k c] 42)) 42 (tcC ⟨3, ⟨#[]⟩, tx, none, 0, 0⟩)
                     rw [hz0] at hnc3
                     have hz3 : ((w4.alloc (.cells #[.int .i64 1, .string tn, .string ⟨#[]⟩, .slice A k c] 42)).alloc (.cells #[.int .i64 3, .string ⟨#[]⟩, .string tx, .slice none 0 0] 42)).heap.size = w4.heap.size + 2 := by rw [size_al]; omega
                     clear hT))
                | (at_builtin; (refine RowG.wpList_more _ (by rfl) _ _ 27 (by rfl) 42 tcC 4 64 _ info_rt Tryz.underlying27 rfl (by decide) tcC_len tcC_one w4.heap.size _ _ _ (by rfl) (w4.heap.size + 1) _ (by rfl) hL3.1 hnc3 (by show 1 + 1 ≤ maxLen; decide) (by show (1 + 1) * 64 ≤ 140737488355328; decide) (by omega) ?_)
                   intro vA wA hrowA hgA _
                   have hL1 := hL3.snoc hrowA hgA (Nat.le_refl _) (by omega) (HC3.out _ _)
                   have hsA := hgA.size
                   have hbA : Below w4.heap.size w4 wA := (below_al (below_al (Below.refl w4.heap.size w4) (.cells #[.int .i64 1, .string tn, .string ⟨#[]⟩, .slice A k c] 42)) (.cells #[.int .i64 3, .string ⟨#[]⟩, .string tx, .slice none 0 0] 42)).grown hgA (by omega) (fun j hj => (World.ownsRow.lt hL0.1 j hj).1)
                   have hT1 := hT4.below hbA (Nat.le_refl _)
                   have hB5 := below_next hB4 hbA
                   obtain ⟨AA, cA, rfl, -⟩ := hL1.tr (by omega)
                   clear hT4 hL0 hnc3)
                | (go_at_call 19; (with_reducible refine (ownT2_any A4 ts.length c4 ts (by omega) _ w4.heap.size (by omega) hT1).mono ?_); rintro e w5 ⟨v5, cs5, rfl, h5, hb5⟩
                   have hs5 := hb5.size
                   obtain ⟨A5, c5, rfl, -⟩ := h5.tr (by omega)
                   have hB6 := below_next hB5 hb5
                   have hL5 := (hL1.next hb5 (by omega)).next (below_al (Below.refl w5.heap.size w5) (.cells #[.int .i64 2, .string tn, .string ⟨#[]⟩, .slice none 0 0] 42)) (by omega)
                   have hB7 := below_al hB6 (.cells #[.int .i64 2, .string tn, .string ⟨#[]⟩, .slice none 0 0] 42)
                   have h5' := h5.next (below_al (Below.refl w5.heap.size w5) (.cells #[.int .i64 2, .string tn, .string ⟨#[]⟩, .slice none 0 0] 42)) (by omega)
                   have hnc := RowG.new_cells w5 42 (tcC ⟨2, tn, ⟨#[]⟩, none, 0, 0⟩)
                   have hz7 : (w5.alloc (.cells #[.int .i64 2, .string tn, .string ⟨#[]⟩, .slice none 0 0] 42)).heap.size = w5.heap.size + 1 := size_al _ _
                   clear h5)
                | (at_builtin; (refine wpList_moreG _ (by rfl) _ _ 27 (by rfl) 42 tcC 4 64 _ info_rt Tryz.underlying27 rfl (by decide) tcC_len tcC_one w4.heap.size _ _ _ (by rfl) w5.heap.size _ (by rfl) hL5.1 hnc (by show 2 + 1 ≤ maxLen; decide) (by show (2 + 1) * 64 ≤ 140737488355328; decide) (by omega) ?_)
                   intro v8 w8 hrow8 hg8 _
                   have hL8 := hL5.snoc hrow8 hg8 (Nat.le_refl _) (by omega) (HC2.out _ _)
                   have hs8 := hg8.size
                   have h8 := h5'.aside hg8 (fun j hj => by have := World.ownsRow.lt hL1.1 j hj; omega) (by omega)
                   have hB8 := hB7.grown hg8 hB7.size (fun j hj => by have := (World.ownsRow.lt hL1.1 j hj).1; have := hB4.size; omega)
                   obtain ⟨A8, c8, rfl, hT8⟩ := hL8.tr (by omega)
                   obtain ⟨A9, c9, e9, hT9⟩ := h8.tr (by omega)
                   injection e9 with e9 e9a e9b
                   subst e9
                   have hsame := sameT_any A5 ts.length c9 ts A8 3 c8 _ (by omega) HMT.out w8 _ hT9 hT8
                   rw [decide_eq_true HUS.out] at hsame)
                | (go_at_call 18; (with_reducible refine hsame.mono ?_); rintro e w9 ⟨rfl, q9, rfl⟩))
              · go_ret
                exact ⟨rfl, below_next hBr hb3⟩
              · go_ret
                exact ⟨rfl, below_dr hB8 _⟩
end tokenWritten
end Go.Proofs.YteopighhhcikcaaGreatDoor
