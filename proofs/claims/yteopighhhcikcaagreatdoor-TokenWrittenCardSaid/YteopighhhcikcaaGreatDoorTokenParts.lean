/- TokenParts' walk: no two texts stand one behind the other, names are names. Conditions: none beyond the row's own. -/
import Derived.Test.YteopighhhcikcaaGreatDoorTokK
import Derived.Test.YteopighhhcikcaaGreatDoorSetB
import Derived.Test.YteopighhhcikcaaGreatDoorTokMath4
namespace Go.Proofs.YteopighhhcikcaaGreatDoor
open Go.ChangeShapes Go.WideShapes Go.ChangeAt Go.RowKit
namespace tokenParts
open Tok SetB
theorem readV (s : ByteArray) (w : World) : Calls Tryz.prog 16 #[.string s] w fun e w' => ∃ (A : Option Addr) (c : Nat) (r : Int) (ts : List T), e = .returned (.tuple #[.slice A ts.length c, .int .i64 r]) ∧ TR w' w'.heap.size A ts.length ts ∧ Wf ts ∧ ts.length ≤ 8001 ∧ (∀ t ∈ ts, t.attrs.length ≤ 4000 ∧ t.name.length ≤ 4000 ∧ ∀ a ∈ t.attrs, a.1.length ≤ 20) ∧ Below w.heap.size w w' := by
  by_cases h : 4000 < s.size
  · refine (read_long s w h).mono fun e w' hh => ?_
    obtain ⟨rfl, rfl⟩ := hh
    exact ⟨none, 0, 3, [], rfl, ⟨[], Reads.none_, rfl, fun i c t hc _ => by simp at hc⟩, .nil, Nat.zero_le _, fun t ht => (by cases ht), Below.refl _ _⟩
  · obtain ⟨l, rfl⟩ : ∃ l, s = toB l := ⟨s.data.toList, bytes_inj rfl⟩
    rw [toB_size] at h
    refine (read_any l (by omega) w).mono fun e w' hh => ?_
    obtain ⟨v, rfl, hT, hB⟩ := hh
    obtain ⟨A, c, rfl, hT2⟩ := hT.tr
    have hc := readP_cnt l
    have hw := readP_wf l
    refine ⟨A, c, 0, readP l, rfl, hT2, hw, by omega, fun t ht => ⟨by have := hc.2 t ht; omega, ?_, ?_⟩, hB⟩
    · rcases hw.each t ht with h | h
      · rw [h.2.2.1]; exact Nat.zero_le _
      · have := (nameB_len h.2.1).2; omega
    · intro a ha
      rcases hw.each t ht with h | h
      · rw [h.2.2.2] at ha; cases ha
      · exact (nameB_len (h.2.2.2.2 a ha)).2
theorem tok_at {w : World} {B n k : Nat} {A : Option Addr} {ts : List T} (h : TR w B A n ts) {t : T} (hk : ts[k]? = some t) : ∃ (ad : Addr) (A' : Option Addr) (c' : Nat), A = some ad ∧ w.cell? (ad.add (k * 4)) = some (.int .i64 t.kind) ∧ w.cell? ⟨(ad.add (k * 4)).block, (ad.add (k * 4)).off + 1, none⟩ = some (.string (toB t.name)) ∧
      w.cell? ⟨(ad.add (k * 4)).block, (ad.add (k * 4)).off + 2, none⟩ = some (.string (toB t.text)) ∧ w.cell? ⟨(ad.add (k * 4)).block, (ad.add (k * 4)).off + 3, none⟩ = some (.slice A' t.attrs.length c') ∧ Reads w B 2 A' t.attrs.length (t.attrs.flatMap atC) ∧ ad.block < B := by
  obtain ⟨cs, h1, h2, h3⟩ := h
  have hlt := (List.getElem?_eq_some_iff.1 hk).1
  obtain ⟨c, hc⟩ : ∃ c, cs[k]? = some c := ⟨_, List.getElem?_eq_getElem (by omega)⟩
  obtain ⟨ad, e, hb, e0, e1, e2, e3⟩ := tok_of h1 hc
  obtain ⟨q1, q2, q3, q4, q5⟩ := h3 k c t hc hk
  rw [q1] at e0; rw [q2] at e1; rw [q3] at e2; rw [q4] at e3 q5
  exact ⟨ad, c.A, c.c, e, e0, e1, e2, e3, q5, hb⟩
set_option maxRecDepth 100000 in
set_option maxHeartbeats 16000000 in
theorem walk (s : ByteArray) (_hs : s.size ≤ maxLen) (w : World) : Calls Tryz.prog 5 #[.string s] w fun e w' => e = .returned (.bool true) ∧ Below w.heap.size w w' := by
  have ca := awakeT_any w
  by_cases hl : 5000 < s.size
  · have hl' : (5000 : Int) < (s.size : Int) := by omega
    go_enter Tryz.func5, Tryz.ntmps5
    go_wp2_with (go_at_call 15; (with_reducible refine ca.mono ?_); rintro e w1 ⟨rfl, hB1⟩)
    go_ret
    exact ⟨rfl, hB1⟩
  · have hd : decide ((5000 : Int) < (s.size : Int)) = false := decide_eq_false (by omega)
    have cr := fun w => readV s w
    clear hl
    go_enter Tryz.func5, Tryz.ntmps5
    go_wp2_with (first
      | (go_at_call 15; (with_reducible refine ca.mono ?_); rintro e w1 ⟨rfl, hB1⟩)
      | (go_at_call 16; (with_reducible refine (cr _).mono ?_); rintro e w2 ⟨A, c, r, ts, rfl, hT, hWf, hn, hat, hb2⟩
         have hB2 := below_next hB1 hb2
         have HWF := Lib.hid hWf
         have HAT := Lib.hid hat
         clear hWf hat))
    obtain ⟨n, hne⟩ : ∃ n, n = ts.length := ⟨_, rfl⟩
    rw [← hne] at hT hn ⊢
    have HNE := Lib.hid hne
    clear hne
    go_loopw [22] (fun i wr => ∃ k : Nat, k ≤ n ∧ i = .int .i64 k ∧ Below w2.heap.size w2 wr) (fun i _ => n - (intOf i).toNat)
    case atStart => exact ⟨0, Nat.zero_le _, rfl, Below.refl _ _⟩
    case round =>
      obtain ⟨k, hk, rfl, hBr⟩ := hrel
      by_cases hlt : k < n
      · obtain ⟨t, ht⟩ : ∃ t, ts[k]? = some t := ⟨_, List.getElem?_eq_getElem (by rw [← HNE.out]; exact hlt)⟩
        have hTr := hT.next hBr
        obtain ⟨ad, A', c', rfl, e0, e1, e2, e3, hra, hadb⟩ := tok_at hTr ht
        rcases HWF.out.each t (List.mem_of_getElem? ht) with hx | hg
        · obtain ⟨x1, x2, x3, x4⟩ := hx
          replace e0 : wr.cell? (ad.add (k * 4)) = some (.int .i64 3) := by rw [e0, x1]; rfl
          replace e1 : wr.cell? ⟨(ad.add (k * 4)).block, (ad.add (k * 4)).off + 1, none⟩ = some (.string ⟨#[]⟩) := by rw [e1, x3]; rfl
          replace e3 : wr.cell? ⟨(ad.add (k * 4)).block, (ad.add (k * 4)).off + 3, none⟩ = some (.slice A' 0 c') := by rw [e3, x4]; rfl
          have hne : (toB t.text).toList.isEmpty = false := by rw [toB_toList]; cases h : t.text with
            | nil => exact absurd h x2
            | cons _ _ => rfl
          have hne2 : ((toB t.text).toList == []) = false := by rw [toB_toList]; cases h : t.text with
            | nil => exact absurd h x2
            | cons _ _ => rfl
          generalize toB t.text = tx at *
          have k0 : (0 : Int) ≤ (k : Int) := Int.natCast_nonneg _
          by_cases hk0 : k = 0
          · have d0 : decide ((0 : Int) < (k : Int)) = false := decide_eq_false (by omega)
            have d1 : decide (0 < k) = false := decide_eq_false (by omega)
            clear ht hra hk0 x1 x2 x3 x4
            go_wp2
            go_roundw
            case rel => exact ⟨k + 1, by omega, by go_num, below_al hBr _⟩
            case measure => simp [intOf]; omega
          · obtain ⟨k', hk'⟩ : ∃ k', k = k' + 1 := ⟨k - 1, by omega⟩
            obtain ⟨p, hp⟩ : ∃ p, ts[k']? = some p := ⟨_, List.getElem?_eq_getElem (by have := HNE.out; omega)⟩
            obtain ⟨ad2, A2, c2, hA2, g0, -⟩ := tok_at hTr hp
            injection hA2 with hA2
            subst hA2
            have g1 : (wr.alloc (.cells #[.int .i64 3, .string ⟨#[]⟩, .string tx, .slice A' 0 c'] 38)).cell? (ad.add (k' * 4)) = some (.int .i64 p.kind) := (World.cell?_alloc_lt wr _ (ad.add (k' * 4)) (by rw [block_of_add]; exact hadb)).trans g0
            have hp3 : p.kind ≠ 3 := fun e => HWF.out.apart k' p t hp (by rw [← hk']; exact ht) ⟨e, x1⟩
            have d0 : (0 : Int) < (k : Int) := by omega
            have d1 : 0 < k := by omega
            have hkm : (k : Int) - 1 = (k' : Int) := by omega
            have kp0 : (0 : Int) ≤ (k' : Int) := Int.natCast_nonneg _
            have kp1 : k' < n := by omega
            have h3 : ((p.kind : Int) == 3) = false := by rw [beq_eq_false_iff_ne]; omega
            clear ht hra hk0 x1 x2 x3 x4 hp hk' hp3
            go_wp2
            go_roundw
            case rel => exact ⟨k + 1, by omega, by go_num, below_al hBr _⟩
            case measure => simp [intOf]; omega
        · obtain ⟨y1, y2, y3, y4⟩ := hg
          obtain ⟨z1, z2, z3⟩ := HAT.out t (List.mem_of_getElem? ht)
          replace e2 : wr.cell? ⟨(ad.add (k * 4)).block, (ad.add (k * 4)).off + 2, none⟩ = some (.string ⟨#[]⟩) := by rw [e2, y3]; rfl
          have cn := fun w => name_any t.name (by unfold maxLen; omega) w
          rw [y2] at cn
          obtain ⟨ats, hats⟩ : ∃ ats, ats = t.attrs := ⟨_, rfl⟩
          rw [← hats] at e3 hra y4 z1 z3 y1
          obtain ⟨m, hm⟩ : ∃ m, m = ats.length := ⟨_, rfl⟩
          rw [← hm] at e3 hra z1
          have HM := Lib.hid hm
          have HY := Lib.hid y4
          have HZ := Lib.hid z3
          generalize toB t.name = tn at *
          have k0 : (0 : Int) ≤ (k : Int) := Int.natCast_nonneg _
          have hmm := @run_makeMap Tryz.prog
          have hkind : (wr.cell? (ad.add (k * 4)) = some (.int .i64 1)) ∨ (wr.cell? (ad.add (k * 4)) = some (.int .i64 2) ∧ m = 0) := by
            rcases y1 with h | ⟨h, h2⟩
            · left; rw [e0, h]; rfl
            · right; exact ⟨by rw [e0, h]; rfl, by rw [hm, h2]; rfl⟩
          clear ht y1 y2 y3 y4 z2 z3 hats hm e0
          rcases hkind with e0 | ⟨e0, hm0⟩
          · go_wp2_with (go_at_call 20; (with_reducible refine (cn _).mono ?_); rintro e w3 ⟨rfl, hb3⟩
                         have K3 := (Blk.new wr 38 #[.int .i64 1, .string tn, .string ⟨#[]⟩, .slice A' m c']).next hb3
                         have z3 := K3.lt
                         obtain ⟨b0, b1, b2, b3⟩ := blk4 K3)
            have hbm := below_next (below_al (Below.refl wr.heap.size wr) (.cells #[.int .i64 1, .string tn, .string ⟨#[]⟩, .slice A' m c'] 38)) hb3
            have hBm := below_al hbm (.map #[] 0)
            have hS0 := Seen.made w3
            clear K3 b0 b1 b2 b3 e0 e1 e2 e3 cn hmm HWF HAT hTr hT hb3 hbm
            obtain ⟨wq, hwq⟩ : ∃ wq, wq = wr := ⟨wr, rfl⟩
            subst hwq
            obtain ⟨b, hbe⟩ : ∃ b, b = w3.heap.size := ⟨_, rfl⟩
            rw [← hbe] at hS0 z3 ⊢
            clear hbe
            generalize w3.alloc (.map #[] 0) = W0 at *
            go_loopw [91] (fun i wi => ∃ j : Nat, j ≤ m ∧ i = .int .i64 j ∧ Below wq.heap.size wq wi ∧ Seen wi b ((ats.map (·.1)).take j)) (fun i _ => m - (intOf i).toNat)
            case atStart => exact ⟨0, Nat.zero_le _, rfl, hBm, hS0⟩
            case round =>
              obtain ⟨j, hj, rfl, hBi, hS⟩ := hrel
              clear hBm hS0
              by_cases hjm : j < m
              · obtain ⟨a, ha⟩ : ∃ a, ats[j]? = some a := ⟨_, List.getElem?_eq_getElem (by rw [← HM.out]; exact hjm)⟩
                obtain ⟨ad2, rfl, -, f0, f1⟩ := attr_of (hra.below hBi) ha
                have ham := List.mem_of_getElem? ha
                have hal := HZ.out a ham
                have cn := fun w => name_any a.1 (by unfold maxLen; omega) w
                rw [HY.out.2 a ham] at cn
                have htk : (ats.map (·.1)).take (j + 1) = (ats.map (·.1)).take j ++ [a.1] := by rw [List.take_add_one, List.getElem?_map, ha]; rfl
                have hno : a.1 ∉ (ats.map (·.1)).take j := by
                  intro hm
                  have h := HY.out.1
                  rw [← List.take_append_drop (j + 1) (ats.map (·.1)), htk, List.append_assoc, List.nodup_append] at h
                  exact h.2.2 _ hm _ (by simp) rfl
                have hlen : ((ats.map (·.1)).take j).length ≤ 4000 := by rw [List.length_take]; omega
                have hS1 := hS.next (below_al (Below.refl wr.heap.size wr) (.cells #[.string (toB a.1), .string (toB a.2)] 41))
                have hlk := hS1.look a.1 (by unfold maxLen; omega)
                rw [decide_eq_false hno] at hlk
                have HTK := Lib.hid htk
                have hK1 := Blk.new wr 41 #[.string (toB a.1), .string (toB a.2)]
                have hbr := hS.lt
                generalize (ats.map (·.1)).take j = ks at *
                clear htk hno ham ha
                go_wp2_with (first
                  | (go_at_call 20; (with_reducible refine (cn _).mono ?_); rintro e w5 ⟨rfl, hb5⟩
                     have K5 := hK1.next hb5
                     have x0 := K5.cell 0
                     have hS5 := hS1.next hb5
                     have hB5 := below_next (below_al hBi (.cells #[.string (toB a.1), .string (toB a.2)] 41)) hb5)
                  | (refine wpList_put (by rfl) _ _ _ (by rfl) b ks a.1 (by rfl) hS5 (by unfold maxLen; omega) (by unfold maxLen; omega) (by rfl) (by rfl) ?_
                     intro w6 hS6 hg6))
                go_roundw
                case rel => exact ⟨j + 1, by omega, by go_num, hB5.grown hg6 hB5.size (fun k hk => by cases hk; exact Nat.le_of_lt z3), by rw [HTK.out]; exact hS6⟩
                case measure => simp [intOf]; omega
              · obtain rfl : j = m := by omega
                go_wp2
                go_roundw
                case rel => exact ⟨k + 1, by omega, by go_num, below_next hBr hBi⟩
                case measure => simp [intOf]; omega
          · have hd0 : decide ((0 : Int) < (m : Int)) = false := decide_eq_false (by omega)
            have hd1 : decide (0 < m) = false := decide_eq_false (by omega)
            clear hm0
            go_wp2_with (go_at_call 20; (with_reducible refine (cn _).mono ?_); rintro e w3 ⟨rfl, hb3⟩
                         have K3 := (Blk.new wr 38 #[.int .i64 2, .string tn, .string ⟨#[]⟩, .slice A' m c']).next hb3
                         have z3 := K3.lt
                         obtain ⟨b0, b1, b2, b3⟩ := blk4 K3)
            have hbm := below_next (below_al (Below.refl wr.heap.size wr) (.cells #[.int .i64 2, .string tn, .string ⟨#[]⟩, .slice A' m c'] 38)) hb3
            have hBm := below_al hbm (.map #[] 0)
            have hS0 := Seen.made w3
            clear K3 b0 b1 b2 b3 e0 e1 e2 e3 cn hmm HWF HAT hTr hT hb3 hbm
            obtain ⟨wq, hwq⟩ : ∃ wq, wq = wr := ⟨wr, rfl⟩
            subst hwq
            obtain ⟨b, hbe⟩ : ∃ b, b = w3.heap.size := ⟨_, rfl⟩
            rw [← hbe] at hS0 z3 ⊢
            clear hbe
            generalize w3.alloc (.map #[] 0) = W0 at *
            go_loopw [91] (fun i wi => ∃ j : Nat, j ≤ m ∧ i = .int .i64 j ∧ Below wq.heap.size wq wi ∧ Seen wi b ((ats.map (·.1)).take j)) (fun i _ => m - (intOf i).toNat)
            case atStart => exact ⟨0, Nat.zero_le _, rfl, hBm, hS0⟩
            case round =>
              obtain ⟨j, hj, rfl, hBi, hS⟩ := hrel
              clear hBm hS0
              by_cases hjm : j < m
              · obtain ⟨a, ha⟩ : ∃ a, ats[j]? = some a := ⟨_, List.getElem?_eq_getElem (by rw [← HM.out]; exact hjm)⟩
                obtain ⟨ad2, rfl, -, f0, f1⟩ := attr_of (hra.below hBi) ha
                have ham := List.mem_of_getElem? ha
                have hal := HZ.out a ham
                have cn := fun w => name_any a.1 (by unfold maxLen; omega) w
                rw [HY.out.2 a ham] at cn
                have htk : (ats.map (·.1)).take (j + 1) = (ats.map (·.1)).take j ++ [a.1] := by rw [List.take_add_one, List.getElem?_map, ha]; rfl
                have hno : a.1 ∉ (ats.map (·.1)).take j := by
                  intro hm
                  have h := HY.out.1
                  rw [← List.take_append_drop (j + 1) (ats.map (·.1)), htk, List.append_assoc, List.nodup_append] at h
                  exact h.2.2 _ hm _ (by simp) rfl
                have hlen : ((ats.map (·.1)).take j).length ≤ 4000 := by rw [List.length_take]; omega
                have hS1 := hS.next (below_al (Below.refl wr.heap.size wr) (.cells #[.string (toB a.1), .string (toB a.2)] 41))
                have hlk := hS1.look a.1 (by unfold maxLen; omega)
                rw [decide_eq_false hno] at hlk
                have HTK := Lib.hid htk
                have hK1 := Blk.new wr 41 #[.string (toB a.1), .string (toB a.2)]
                have hbr := hS.lt
                generalize (ats.map (·.1)).take j = ks at *
                clear htk hno ham ha
                go_wp2_with (first
                  | (go_at_call 20; (with_reducible refine (cn _).mono ?_); rintro e w5 ⟨rfl, hb5⟩
                     have K5 := hK1.next hb5
                     have x0 := K5.cell 0
                     have hS5 := hS1.next hb5
                     have hB5 := below_next (below_al hBi (.cells #[.string (toB a.1), .string (toB a.2)] 41)) hb5)
                  | (refine wpList_put (by rfl) _ _ _ (by rfl) b ks a.1 (by rfl) hS5 (by unfold maxLen; omega) (by unfold maxLen; omega) (by rfl) (by rfl) ?_
                     intro w6 hS6 hg6))
                go_roundw
                case rel => exact ⟨j + 1, by omega, by go_num, hB5.grown hg6 hB5.size (fun k hk => by cases hk; exact Nat.le_of_lt z3), by rw [HTK.out]; exact hS6⟩
                case measure => simp [intOf]; omega
              · obtain rfl : j = m := by omega
                go_wp2
                go_roundw
                case rel => exact ⟨k + 1, by omega, by go_num, below_next hBr hBi⟩
                case measure => simp [intOf]; omega
      · obtain rfl : k = n := by omega
        go_wp2
        go_ret
        exact ⟨rfl, below_next hB2 hBr⟩
end tokenParts
end Go.Proofs.YteopighhhcikcaaGreatDoor
