/- The document's own answers of layer 8: number. Conditions: the text is not too long. -/
import Derived.Test.YtcacabpcobmgoaaGreatDoorRx8E
import Derived.Test.YtcacabpcobmgoaaGreatDoorValMayW
/- The document's own answers of layer 8: color. Conditions: none. -/
namespace Go.Proofs.YtcacabpcobmgoaaGreatDoor
open Go.ChangeShapes Go.WideShapes Go.ChangeAt Go.RowKit
namespace Val
/-- hexV, from a place of the text. -/
theorem colors_none {l : List UInt8} (h1 : l ≠ [98, 108, 97, 99, 107]) (h2 : l ≠ [119, 104, 105, 116, 101]) (h3 : l ≠ [114, 101, 100]) (h4 : l ≠ [103, 114, 101, 101, 110]) (h5 : l ≠ [98, 108, 117, 101]) : colorsT.lookup l = none := by
  unfold colorsT
  have q : ∀ m : List UInt8, l ≠ m → (l == m) = false := fun m h => beq_eq_false_iff_ne.2 h
  simp only [List.lookup, q _ h1, q _ h2, q _ h3, q _ h4, q _ h5]
theorem hexI_some {c : UInt8} {d : Nat} (h : hexD c = some d) : hexI c = (d : Int) := by unfold hexI; rw [h]
theorem hexI_none {c : UInt8} (h : hexD c = none) : hexI c = -1 := by unfold hexI; rw [h]
theorem hexD_lt {c : UInt8} {d : Nat} (h : hexD c = some d) : d < 16 := (hexD_back c.toFin d h).2
def cV (r : Option Nat) : Value := match r with
  | some n => .tuple #[.int .i64 n, .bool true]
  | none => .tuple #[.int .i64 0, .bool false]
set_option maxRecDepth 100000 in
set_option maxHeartbeats 8000000 in
theorem rcolor_named (s : ByteArray) (n : Nat) (h : colorsT.lookup s.data.toList = some n) (w : World) : Calls Tryz.prog 44 #[.string s] w fun e w' => e = .returned (cV (some n)) ∧ Below w.heap.size w w' := by
  by_cases h0 : s.data.toList = [98, 108, 97, 99, 107]
  · obtain rfl : s = ⟨#[98, 108, 97, 99, 107]⟩ := bytes_inj h0
    obtain rfl : n = 0 := by rw [h0] at h; exact (Option.some.inj h).symm
    go_enter Tryz.func44, Tryz.ntmps44
    go_wp2
    refine wp_loop_rounds 1 ?_
    rw [rounds_succ]
    go_wp2
    go_ret2
    exact ⟨rfl, below_al (below_al (Below.refl _ _) _) _⟩
  by_cases h1 : s.data.toList = [119, 104, 105, 116, 101]
  · obtain rfl : s = ⟨#[119, 104, 105, 116, 101]⟩ := bytes_inj h1
    obtain rfl : n = 16777215 := by rw [h1] at h; exact (Option.some.inj h).symm
    go_enter Tryz.func44, Tryz.ntmps44
    go_wp2
    refine wp_loop_rounds 2 ?_
    rw [rounds_succ]
    go_wp2
    rw [rounds_succ]
    go_wp2
    go_ret2
    exact ⟨rfl, below_al (below_al (Below.refl _ _) _) _⟩
  by_cases h2 : s.data.toList = [114, 101, 100]
  · obtain rfl : s = ⟨#[114, 101, 100]⟩ := bytes_inj h2
    obtain rfl : n = 16711680 := by rw [h2] at h; exact (Option.some.inj h).symm
    go_enter Tryz.func44, Tryz.ntmps44
    go_wp2
    refine wp_loop_rounds 3 ?_
    rw [rounds_succ]
    go_wp2
    rw [rounds_succ]
    go_wp2
    rw [rounds_succ]
    go_wp2
    go_ret2
    exact ⟨rfl, below_al (below_al (Below.refl _ _) _) _⟩
  by_cases h3 : s.data.toList = [103, 114, 101, 101, 110]
  · obtain rfl : s = ⟨#[103, 114, 101, 101, 110]⟩ := bytes_inj h3
    obtain rfl : n = 32768 := by rw [h3] at h; exact (Option.some.inj h).symm
    go_enter Tryz.func44, Tryz.ntmps44
    go_wp2
    refine wp_loop_rounds 4 ?_
    rw [rounds_succ]
    go_wp2
    rw [rounds_succ]
    go_wp2
    rw [rounds_succ]
    go_wp2
    rw [rounds_succ]
    go_wp2
    go_ret2
    exact ⟨rfl, below_al (below_al (Below.refl _ _) _) _⟩
  by_cases h4 : s.data.toList = [98, 108, 117, 101]
  · obtain rfl : s = ⟨#[98, 108, 117, 101]⟩ := bytes_inj h4
    obtain rfl : n = 255 := by rw [h4] at h; exact (Option.some.inj h).symm
    go_enter Tryz.func44, Tryz.ntmps44
    go_wp2
    refine wp_loop_rounds 5 ?_
    rw [rounds_succ]
    go_wp2
    rw [rounds_succ]
    go_wp2
    rw [rounds_succ]
    go_wp2
    rw [rounds_succ]
    go_wp2
    rw [rounds_succ]
    go_wp2
    go_ret2
    exact ⟨rfl, below_al (below_al (Below.refl _ _) _) _⟩
  exact absurd h (by rw [colors_none h0 h1 h2 h3 h4]; simp)
theorem hexV_at {c : UInt8} {d : Nat} (h : hexD c = some d) (t : List UInt8) (n : Nat) : hexV (c :: t) n = hexV t (16 * n + d) := by rw [hexV, h]
theorem hexV_no {c : UInt8} (h : hexD c = none) (t : List UInt8) (n : Nat) : hexV (c :: t) n = none := by rw [hexV, h]
set_option maxRecDepth 100000 in
set_option maxHeartbeats 8000000 in
theorem rcolor_any (s : ByteArray) (_hs : s.size ≤ mostB) (w : World) : Calls Tryz.prog 44 #[.string s] w fun e w' => e = .returned (cV (colorL s.data.toList)) ∧ Below w.heap.size w w' := by
  unfold mostB at _hs
  cases hn : colorsT.lookup s.data.toList with
  | some n =>
    have : colorL s.data.toList = some n := by unfold colorL; rw [hn]
    rw [this]
    exact rcolor_named s n hn w
  | none =>
    obtain ⟨R, hR⟩ : ∃ R, R = cV (colorL s.data.toList) := ⟨_, rfl⟩
    rw [← hR]
    have hc : R = cV (match s.data.toList with | c :: t => if c = 35 ∧ t.length = 6 then hexV t 0 else none | [] => none) := by
      rw [hR]
      unfold colorL
      rw [hn]
      rfl
    have HR := Lib.hid hc
    clear hc hR
    have r0 : ¬ [98, 108, 97, 99, 107] = s.toList := by rw [ByteArray.toList_eq]; intro e; rw [← e] at hn; cases hn
    have q0 : ([98, 108, 97, 99, 107] == s.toList) = false := beq_eq_false_iff_ne.2 r0
    have r1 : ¬ [119, 104, 105, 116, 101] = s.toList := by rw [ByteArray.toList_eq]; intro e; rw [← e] at hn; cases hn
    have q1 : ([119, 104, 105, 116, 101] == s.toList) = false := beq_eq_false_iff_ne.2 r1
    have r2 : ¬ [114, 101, 100] = s.toList := by rw [ByteArray.toList_eq]; intro e; rw [← e] at hn; cases hn
    have q2 : ([114, 101, 100] == s.toList) = false := beq_eq_false_iff_ne.2 r2
    have r3 : ¬ [103, 114, 101, 101, 110] = s.toList := by rw [ByteArray.toList_eq]; intro e; rw [← e] at hn; cases hn
    have q3 : ([103, 114, 101, 101, 110] == s.toList) = false := beq_eq_false_iff_ne.2 r3
    have r4 : ¬ [98, 108, 117, 101] = s.toList := by rw [ByteArray.toList_eq]; intro e; rw [← e] at hn; cases hn
    have q4 : ([98, 108, 117, 101] == s.toList) = false := beq_eq_false_iff_ne.2 r4
    have hsz := size_list s
    by_cases h7 : s.size = 7
    · have h7b : ((s.size : Int) != 7) = false := by rw [h7]; rfl
      have z7 : 0 < s.size := by omega
      obtain ⟨c, t, hct⟩ : ∃ c t, s.data.toList = c :: t := by
        cases hl : s.data.toList with
        | nil => rw [hl] at hsz; simp at hsz; omega
        | cons c t => exact ⟨c, t, rfl⟩
      have hc0 : s[0]'z7 = c := by
        have := List.getElem_of_eq hct (i := 0) (by omega)
        exact this
      have ht : t.length = 6 := by rw [hct, List.length_cons] at hsz; omega
      by_cases h35 : c = 35
      · subst h35
        have h35b : ((s[0].toNat : Int) != 35) = false := by rw [hc0]; rfl
        have HI : Hid (R = cV (hexV (s.data.toList.drop 1) 0)) := by
          show R = _
          rw [HR.out, hct]
          simp only [ht, and_self, if_true, List.drop_one, List.tail_cons]
        clear HR hn hct ht hc0
        go_enter Tryz.func44, Tryz.ntmps44
        go_wp2
        refine wp_loop_rounds 6 ?_
        rw [rounds_succ]
        go_wp2
        rw [rounds_succ]
        go_wp2
        rw [rounds_succ]
        go_wp2
        rw [rounds_succ]
        go_wp2
        rw [rounds_succ]
        go_wp2
        rw [rounds_succ]
        go_wp2
        go_loop [6, 7] (fun n i => ∃ (k m : Nat), 1 ≤ k ∧ k ≤ 7 ∧ i = .int .i64 k ∧ n = .int .i64 m ∧ m < 16 ^ (k - 1) ∧ Hid (R = cV (hexV (s.data.toList.drop k) m))) (fun _ i => 7 - (intOf i).toNat)
        case atStart => exact ⟨1, 0, by omega, by omega, rfl, rfl, by decide, HI⟩
        case round =>
          obtain ⟨k, m, hk1, hk, rfl, rfl, hm, HJ⟩ := hrel
          by_cases hlt : k < 7
          · have hks : k < s.size := by omega
            have hx := List.drop_eq_getElem_cons (l := s.data.toList) (i := k) (by omega)
            rw [show s.data.toList[k]'(by omega) = s[k] from rfl] at hx
            have c1 := fun w => rhex_any s[k] w
            have hp : 16 ^ (k - 1) ≤ 16 ^ 5 := Nat.pow_le_pow_right (by decide) (by omega)
            cases hh : hexD s[k] with
            | none =>
              rw [hexI_none hh] at c1
              have hR : R = cV none := by rw [HJ.out, hx, hexV_no hh]
              subst hR
              clear HJ HI hx hh hm hp
              go_wp2_with (go_at_call 72; (with_reducible refine (c1 _).mono ?_); rintro e w1 ⟨rfl, rfl⟩)
              go_ret2
              exact ⟨rfl, below_al (Below.refl _ _) _⟩
            | some d =>
              rw [hexI_some hh] at c1
              have hd := hexD_lt hh
              have HJ2 : Hid (R = cV (hexV (s.data.toList.drop (k + 1)) (16 * m + d))) := by show R = _; rw [HJ.out, hx, hexV_at hh]
              have hm2 : 16 * m + d < 16 ^ (k + 1 - 1) := by
                rw [show k + 1 - 1 = (k - 1) + 1 by omega, Nat.pow_succ]
                omega
              have HM := Lib.hid hm2
              have m16 : m < 1048576 := by omega
              obtain ⟨M, hM⟩ : ∃ M : Int, M = (m : Int) := ⟨_, rfl⟩
              obtain ⟨D, hD⟩ : ∃ D : Int, D = (d : Int) := ⟨_, rfl⟩
              have M0 : 0 ≤ M := by omega
              have M1 : M < 1048576 := by omega
              have D0 : 0 ≤ D := by omega
              have D1 : D < 16 := by omega
              rw [← hM]
              rw [← hD] at c1
              have HM1 := Lib.hid hM
              have HD1 := Lib.hid hD
              clear HJ HI hx hh hm hp hm2 hM hD hd m16
              go_wp2_with (go_at_call 72; (with_reducible refine (c1 _).mono ?_); rintro e w1 ⟨rfl, rfl⟩)
              go_round
              case rel => exact ⟨k + 1, 16 * m + d, by omega, by omega, by go_num, by rw [HM1.out, HD1.out]; go_num, HM.out, HJ2⟩
              case measure => simp [intOf]; omega
          · obtain rfl : k = 7 := by omega
            have hR : R = cV (some m) := by rw [HJ.out, List.drop_of_length_le (by omega)]; rfl
            subst hR
            clear HJ HI hm
            go_wp2
            go_ret2
            exact ⟨rfl, below_al (Below.refl _ _) _⟩
      · have h35b : ((s[0].toNat : Int) != 35) = true := by
          rw [hc0, bne_iff_ne]
          intro e
          exact h35 (UInt8.toNat_inj.1 (by have q : (35 : UInt8).toNat = 35 := rfl; omega))
        obtain rfl : R = cV none := by
          rw [HR.out, hct]
          simp only [h35, false_and, if_false]
        clear HR hn hct ht hc0
        go_enter Tryz.func44, Tryz.ntmps44
        go_wp2
        refine wp_loop_rounds 6 ?_
        rw [rounds_succ]
        go_wp2
        rw [rounds_succ]
        go_wp2
        rw [rounds_succ]
        go_wp2
        rw [rounds_succ]
        go_wp2
        rw [rounds_succ]
        go_wp2
        rw [rounds_succ]
        go_wp2
        go_ret2
        exact ⟨rfl, below_al (Below.refl _ _) _⟩
    · have h7b : ((s.size : Int) != 7) = true := by rw [bne_iff_ne]; omega
      obtain rfl : R = cV none := by
        rw [HR.out]
        cases hl : s.data.toList with
        | nil => rfl
        | cons c t =>
          have : ¬ (c = 35 ∧ t.length = 6) := by rintro ⟨_, q⟩; rw [hl, List.length_cons] at hsz; omega
          simp only [this, if_false]
      clear HR hn hsz
      go_enter Tryz.func44, Tryz.ntmps44
      go_wp2
      refine wp_loop_rounds 6 ?_
      rw [rounds_succ]
      go_wp2
      rw [rounds_succ]
      go_wp2
      rw [rounds_succ]
      go_wp2
      rw [rounds_succ]
      go_wp2
      rw [rounds_succ]
      go_wp2
      rw [rounds_succ]
      go_wp2
      go_ret2
      exact ⟨rfl, below_al (Below.refl _ _) _⟩
end Val
end Go.Proofs.YtcacabpcobmgoaaGreatDoor
/- The document's own answers of layer 8: May. Conditions: none. -/
namespace Go.Proofs.YtcacabpcobmgoaaGreatDoor
open Go.ChangeShapes Go.WideShapes Go.ChangeAt Go.RowKit
namespace Val
set_option maxHeartbeats 8000000 in
set_option maxRecDepth 100000 in
theorem rmay_any (p k n : Int) (w : World) : Calls Tryz.prog 15 #[.int .i64 p, vV k n] w fun e w' => e = .returned (.bool (mayP p k n)) ∧ Below w.heap.size w w' := by
  obtain ⟨R, hR⟩ : ∃ R, R = mayP p k n := ⟨_, rfl⟩
  rw [← hR]
  have HR := Lib.hid hR
  clear hR
  have hB := below_al (Below.refl w.heap.size w) (.cells #[.int .i64 k, .int .i64 n] 23)
  have Kv := Blk.new w 23 #[.int .i64 k, .int .i64 n]
  have v0 := Kv.cell 0
  have v1 := Kv.cell 1
  have zv := Kv.lt
  have c1 := fun w => rhas_any p k w
  have c2 := fun w => rwords_any p w
  have c3 := fun w => rbelow_any p w
  unfold vV
  cases hh : hasP p k with
  | false =>
    obtain rfl : R = false := by rw [HR.out]; unfold mayP; rw [hh, Bool.false_and]
    rw [hh] at c1
    clear HR
    go_enter Tryz.func15, Tryz.ntmps15
    go_wp2_with (go_at_call 32; (with_reducible refine (c1 _).mono ?_); rintro e w1 ⟨rfl, rfl⟩)
    go_ret
    exact ⟨by first | rfl | (congr 2; simp; omega), hB⟩
  | true =>
    have hm : mayP p k n = (if k = 1 then decide (n = 0) else if k = 4 then decide (0 ≤ n ∧ n < 16777216) else if k = 5 then decide (0 ≤ n ∧ n < (wordsP p).length) else decide (n ≤ 63999999999 ∧ (0 ≤ n ∨ (belowP p = true ∧ -63999999999 ≤ n)))) := by unfold mayP; rw [hh, Bool.true_and]
    replace hm := HR.out.trans hm
    have hk := kind_has hh
    rw [hh] at c1
    clear HR hh
    by_cases h1 : k = 1
    · subst h1
      rw [if_pos rfl] at hm
      clear hk c2 c3
      by_cases h2 : n = 0
      · obtain rfl : R = true := hm.trans (decide_eq_true h2)
        subst h2
        clear hm
        go_enter Tryz.func15, Tryz.ntmps15
        go_wp2_with (go_at_call 32; (with_reducible refine (c1 _).mono ?_); rintro e w1 ⟨rfl, rfl⟩)
        go_ret
        exact ⟨by first | rfl | (congr 2; simp; omega), hB⟩
      · obtain rfl : R = false := hm.trans (decide_eq_false h2)
        have h2b : (n == 0) = false := beq_eq_false_iff_ne.2 h2
        clear hm h2
        go_enter Tryz.func15, Tryz.ntmps15
        go_wp2_with (go_at_call 32; (with_reducible refine (c1 _).mono ?_); rintro e w1 ⟨rfl, rfl⟩)
        go_ret
        exact ⟨by first | rfl | (congr 2; simp; omega), hB⟩
    · rw [if_neg h1] at hm
      have k1 : (k == 1) = false := beq_eq_false_iff_ne.2 h1
      by_cases h4 : k = 4
      · subst h4
        rw [if_pos rfl] at hm
        clear hk c2 c3 h1 k1
        by_cases h2 : 0 ≤ n
        · by_cases h3 : n < 16777216
          · obtain rfl : R = true := hm.trans (decide_eq_true ⟨h2, h3⟩)
            clear hm
            go_enter Tryz.func15, Tryz.ntmps15
            go_wp2_with (go_at_call 32; (with_reducible refine (c1 _).mono ?_); rintro e w1 ⟨rfl, rfl⟩)
            go_ret
            exact ⟨by first | rfl | (congr 2; simp; omega), hB⟩
          · obtain rfl : R = false := hm.trans (decide_eq_false (fun h => h3 h.2))
            clear hm
            go_enter Tryz.func15, Tryz.ntmps15
            go_wp2_with (go_at_call 32; (with_reducible refine (c1 _).mono ?_); rintro e w1 ⟨rfl, rfl⟩)
            go_ret
            exact ⟨by first | rfl | (congr 2; simp; omega), hB⟩
        · obtain rfl : R = false := hm.trans (decide_eq_false (fun h => h2 h.1))
          clear hm
          go_enter Tryz.func15, Tryz.ntmps15
          go_wp2_with (go_at_call 32; (with_reducible refine (c1 _).mono ?_); rintro e w1 ⟨rfl, rfl⟩)
          go_ret
          exact ⟨by first | rfl | (congr 2; simp; omega), hB⟩
      · rw [if_neg h4] at hm
        have k4 : (k == 4) = false := beq_eq_false_iff_ne.2 h4
        by_cases h5 : k = 5
        · subst h5
          rw [if_pos rfl] at hm
          clear hk c3 h1 k1 h4 k4
          generalize wordsP p = ws at *
          have cw : ∀ w, Calls Tryz.prog 33 #[.int .i64 p] w fun e w' => ∃ A c, e = .returned (.slice A ws.length c) ∧ Below w.heap.size w w' := by
            intro w
            refine (c2 w).mono ?_
            rintro e w1 ⟨A, m, c, rfl, hr, hb⟩
            obtain rfl : ws.length = m := by have h := hr.1; rw [show (strs ws).length = ws.length from by unfold strs; simp] at h; omega
            exact ⟨A, c, rfl, hb⟩
          clear c2
          by_cases h2 : 0 ≤ n
          · by_cases h3 : n < (ws.length : Int)
            · obtain rfl : R = true := hm.trans (decide_eq_true ⟨h2, h3⟩)
              clear hm
              go_enter Tryz.func15, Tryz.ntmps15
              go_wp2_with (go_at_call 32; (with_reducible refine (c1 _).mono ?_); rintro e w1 ⟨rfl, rfl⟩)
              generalize w.alloc (.cells #[.int .i64 5, .int .i64 n] 23) = E at *
              go_region_held3 (fun W' => (∀ b o, b < E.heap.size → W'.cell? ⟨b, o, none⟩ = E.cell? ⟨b, o, none⟩) ∧ Below E.heap.size E W')
                  (first | assumption | exact ⟨fun _ _ _ => rfl, (Below.refl _ _).drew⟩ | exact sallv (by assumption) (by assumption))
                  (first
                    | (go_at_call 33; (with_reducible refine (cw _).mono ?_); rintro e w3 ⟨A, cp, rfl, hb3⟩))
              rename_i hS
              go_wp2
              go_ret
              exact ⟨by first | rfl | (congr 2; simp; omega), below_next hB hS.2⟩
            · obtain rfl : R = false := hm.trans (decide_eq_false (fun h => h3 h.2))
              clear hm
              go_enter Tryz.func15, Tryz.ntmps15
              go_wp2_with (go_at_call 32; (with_reducible refine (c1 _).mono ?_); rintro e w1 ⟨rfl, rfl⟩)
              generalize w.alloc (.cells #[.int .i64 5, .int .i64 n] 23) = E at *
              go_region_held3 (fun W' => (∀ b o, b < E.heap.size → W'.cell? ⟨b, o, none⟩ = E.cell? ⟨b, o, none⟩) ∧ Below E.heap.size E W')
                  (first | assumption | exact ⟨fun _ _ _ => rfl, (Below.refl _ _).drew⟩ | exact sallv (by assumption) (by assumption))
                  (first
                    | (go_at_call 33; (with_reducible refine (cw _).mono ?_); rintro e w3 ⟨A, cp, rfl, hb3⟩))
              rename_i hS
              go_wp2
              go_ret
              exact ⟨by first | rfl | (congr 2; simp; omega), below_next hB hS.2⟩
          · obtain rfl : R = false := hm.trans (decide_eq_false (fun h => h2 h.1))
            clear hm cw
            have h2b : decide (0 ≤ n) = false := decide_eq_false h2
            have h2c : n < 0 := by omega
            go_enter Tryz.func15, Tryz.ntmps15
            go_wp2_with (go_at_call 32; (with_reducible refine (c1 _).mono ?_); rintro e w1 ⟨rfl, rfl⟩)
            first | (go_region_with (fail)) | (fail)
            all_goals
              go_wp2
              go_ret
              exact ⟨by first | rfl | (congr 2; simp; omega), below_dr hB 1⟩
        · rw [if_neg h5] at hm
          have k5 : (k == 5) = false := beq_eq_false_iff_ne.2 h5
          clear c2 hk h1 h4 h5
          by_cases h2 : n ≤ 63999999999
          · by_cases h3 : 0 ≤ n
            · obtain rfl : R = true := hm.trans (decide_eq_true ⟨h2, .inl h3⟩)
              clear hm
              go_enter Tryz.func15, Tryz.ntmps15
              go_wp2_with (first
                | (go_at_call 32; (with_reducible refine (c1 _).mono ?_); rintro e w1 ⟨rfl, rfl⟩)
                | (go_at_call 34; (with_reducible refine (c3 _).mono ?_); rintro e w1 ⟨rfl, rfl⟩))
              go_ret
              exact ⟨by first | rfl | (congr 2; simp; omega), hB⟩
            · cases hb : belowP p with
              | false =>
                obtain rfl : R = false := hm.trans (decide_eq_false (by rintro ⟨_, h | ⟨h, _⟩⟩; exact h3 h; rw [hb] at h; cases h))
                rw [hb] at c3
                clear hm hb
                go_enter Tryz.func15, Tryz.ntmps15
                go_wp2_with (first
                  | (go_at_call 32; (with_reducible refine (c1 _).mono ?_); rintro e w1 ⟨rfl, rfl⟩)
                  | (go_at_call 34; (with_reducible refine (c3 _).mono ?_); rintro e w1 ⟨rfl, rfl⟩))
                go_ret
                exact ⟨by first | rfl | (congr 2; simp; omega), hB⟩
              | true =>
                obtain rfl : R = decide (-63999999999 ≤ n) := by
                  rw [hm, hb]
                  by_cases h : -63999999999 ≤ n
                  · rw [decide_eq_true h, decide_eq_true ⟨h2, .inr ⟨rfl, h⟩⟩]
                  · rw [decide_eq_false h, decide_eq_false (by rintro ⟨_, q | ⟨_, q⟩⟩; exact h3 q; exact h q)]
                rw [hb] at c3
                clear hm hb
                go_enter Tryz.func15, Tryz.ntmps15
                go_wp2_with (first
                  | (go_at_call 32; (with_reducible refine (c1 _).mono ?_); rintro e w1 ⟨rfl, rfl⟩)
                  | (go_at_call 34; (with_reducible refine (c3 _).mono ?_); rintro e w1 ⟨rfl, rfl⟩))
                go_ret
                exact ⟨by first | rfl | (congr 2; simp; omega), hB⟩
          · obtain rfl : R = false := hm.trans (decide_eq_false (fun h => h2 h.1))
            clear hm
            go_enter Tryz.func15, Tryz.ntmps15
            go_wp2_with (first
              | (go_at_call 32; (with_reducible refine (c1 _).mono ?_); rintro e w1 ⟨rfl, rfl⟩)
              | (go_at_call 34; (with_reducible refine (c3 _).mono ?_); rintro e w1 ⟨rfl, rfl⟩))
            go_ret
            exact ⟨by first | rfl | (congr 2; simp; omega), hB⟩
end Val
end Go.Proofs.YtcacabpcobmgoaaGreatDoor
namespace Go.Proofs.YtcacabpcobmgoaaGreatDoor
open Go.ChangeShapes Go.WideShapes Go.ChangeAt Go.RowKit
namespace Val
theorem dgI_all {l : List UInt8} (h : l.all isDg = true) : dgI l 0 = (valD l : Int) := by unfold dgI valD; rw [if_pos h]
theorem dgI_bad {l : List UInt8} (h : l.all isDg = false) : dgI l 0 = -1 := by unfold dgI; rw [h, if_neg (by decide)]
theorem valD_lt : ∀ (l : List UInt8) (n k : Nat), l.all isDg = true → n < 10 ^ k → l.foldl (fun n c => 10 * n + (c.toNat - 48)) n < 10 ^ (k + l.length) := by
  intro l
  induction l with
  | nil => intro n k _ h; exact h
  | cons c l ih =>
    intro n k h hn
    rw [List.all_cons, Bool.and_eq_true] at h
    have hc := h.1
    rw [isDg_iff] at hc
    have hc := of_decide_eq_true hc
    rw [List.foldl_cons, List.length_cons, show k + (l.length + 1) = (k + 1) + l.length by omega]
    refine ih _ _ h.2 ?_
    rw [Nat.pow_succ]
    omega
/-- Where the dot stands, as the loop from the end finds it. -/
def dotAt (l : List UInt8) : Nat := (l.takeWhile (· != 46)).length
theorem dotAt_yes (l : List UInt8) : dotAt (46 :: l) = 0 := rfl
theorem dotAt_no {c : UInt8} (h : ¬ c = 46) (l : List UInt8) : dotAt (c :: l) = dotAt l + 1 := by
  unfold dotAt
  rw [List.takeWhile_cons, if_pos (bne_iff_ne.2 h), List.length_cons]
theorem dotAt_le (l : List UInt8) : dotAt l ≤ l.length := by
  have := List.takeWhile_append_dropWhile (p := (· != (46 : UInt8))) (l := l)
  have := congrArg List.length this
  rw [List.length_append] at this
  unfold dotAt
  omega
theorem take_dotAt (l : List UInt8) : l.take (dotAt l) = l.takeWhile (· != 46) := by
  have := List.takeWhile_append_dropWhile (p := (· != (46 : UInt8))) (l := l)
  unfold dotAt
  generalize l.takeWhile (· != 46) = a at *
  generalize l.dropWhile (· != 46) = b at *
  subst this
  exact List.take_left
theorem drop_dotAt (l : List UInt8) : l.drop (dotAt l) = l.dropWhile (· != 46) := by
  have := List.takeWhile_append_dropWhile (p := (· != (46 : UInt8))) (l := l)
  unfold dotAt
  generalize l.takeWhile (· != 46) = a at *
  generalize l.dropWhile (· != 46) = b at *
  subst this
  exact List.drop_left
theorem behind_end {l : List UInt8} (h : dotAt l = l.length) : behindDot l = [48] := by
  have := drop_dotAt l
  rw [h, List.drop_length] at this
  unfold behindDot
  rw [← this]
theorem behind_at {l : List UInt8} (h : dotAt l < l.length) : behindDot l = l.drop (dotAt l + 1) := by
  have := drop_dotAt l
  unfold behindDot
  rw [← List.drop_drop, this]
  cases hd : l.dropWhile (· != 46) with
  | nil => rw [hd] at this; have := congrArg List.length this; rw [List.length_drop, List.length_nil] at this; omega
  | cons x t => rfl
/-- What a text of a number answers, of its two parts. -/
def numO (a b : List UInt8) : Option Nat := if okD 9 a && okD 6 b then some (64 * valD a + 64 * valD b / 10 ^ b.length) else none
def nV (r : Option Nat) : Value := match r with
  | some n => .tuple #[.int .i64 n, .bool true]
  | none => .tuple #[.int .i64 0, .bool false]
theorem digits_at (s : ByteArray) (h9 : s.size ≤ 9) : ∀ w, Calls Tryz.prog 73 #[.string s] w fun e w' => e = .returned (.int .i64 (dgI s.data.toList 0)) ∧ w = w' := fun w => rdigits_any s h9 w
theorem okD_no {most : Nat} {l : List UInt8} (h : l = [] ∨ most < l.length ∨ l.all isDg = false) : okD most l = false := by
  unfold okD
  rcases h with rfl | h | h
  · rfl
  · rw [decide_eq_false (by omega : ¬ l.length ≤ most), Bool.and_false, Bool.false_and]
  · rw [h, Bool.and_false]
theorem numO_a {a b : List UInt8} (h : a = [] ∨ 9 < a.length ∨ a.all isDg = false) : numO a b = none := by unfold numO; rw [okD_no h, Bool.false_and, if_neg (by decide)]
theorem numO_b {a b : List UInt8} (h : b = [] ∨ 6 < b.length ∨ b.all isDg = false) : numO a b = none := by unfold numO; rw [okD_no h, Bool.and_false, if_neg (by decide)]
theorem numO_yes {a b : List UInt8} (a0 : a ≠ []) (a9 : a.length ≤ 9) (ha : a.all isDg = true) (b0 : b ≠ []) (b6 : b.length ≤ 6) (hb : b.all isDg = true) : numO a b = some (64 * valD a + 64 * valD b / 10 ^ b.length) := by
  unfold numO okD
  have e : ∀ l : List UInt8, l ≠ [] → l.isEmpty = false := fun l h => by cases l with | nil => exact absurd rfl h | cons _ _ => rfl
  rw [e a a0, e b b0, decide_eq_true a9, decide_eq_true b6, ha, hb]
  rfl
theorem empty_of {a : ByteArray} (h : a.size = 0) : a = ⟨#[]⟩ := bytes_inj (List.eq_nil_of_length_eq_zero (by rw [size_list]; exact h))
theorem empty_not {a : ByteArray} (h : ¬ a.size = 0) : (a.toList == (⟨#[]⟩ : ByteArray).toList) = false ∧ ¬ a.toList = [] ∧ a.toList.isEmpty = false := by
  have s0 : (a.toList == (⟨#[]⟩ : ByteArray).toList) = false := (Lib.bytes_beq_false_iff a ⟨#[]⟩).2 (by rintro rfl; exact h rfl)
  have s1 : ¬ a.toList = [] := fun e => beq_eq_false_iff_ne.1 s0 (e.trans (ByteArray.toList_eq ⟨#[]⟩).symm)
  exact ⟨s0, s1, List.isEmpty_eq_false_iff.2 s1⟩
set_option maxRecDepth 100000 in
set_option maxHeartbeats 8000000 in
theorem rnumU_any (s : ByteArray) (hs : s.size ≤ mostB) (h0 : s.data.toList.head? ≠ some 45) (w : World) : Calls Tryz.prog 45 #[.string s] w fun e w' => e = .returned (nV (numU s.data.toList)) ∧ w = w' := by
  unfold mostB at hs
  by_cases hz : s.size = 0
  · obtain rfl : s = ⟨#[]⟩ := bytes_inj (List.eq_nil_of_length_eq_zero (by rw [size_list]; exact hz))
    go_enter Tryz.func45, Tryz.ntmps45
    go_wp2
    refine wp_loop_rounds 1 ?_
    rw [rounds_succ]
    go_wp2
    go_ret2
    exact ⟨rfl, rfl⟩
  have hU : numU s.data.toList = numO (s.data.toList.takeWhile (· != 46)) (behindDot s.data.toList) := rfl
  obtain ⟨R, hR⟩ : ∃ R, R = nV (numU s.data.toList) := ⟨_, rfl⟩
  rw [← hR]
  rw [hU] at hR
  have HR := Lib.hid hR
  clear hR hU
  have hz0 : 0 < s.size := by omega
  have s0 : (s.toList == (⟨#[]⟩ : ByteArray).toList) = false := (Lib.bytes_beq_false_iff s ⟨#[]⟩).2 (by rintro rfl; exact hz rfl)
  have g0 : ((s[0].toNat : Int) == 45) = false := by
    rw [beq_eq_false_iff_ne]
    intro e
    apply h0
    have e2 : s[0] = 45 := UInt8.toNat_inj.1 (by have q : (45 : UInt8).toNat = 45 := rfl; omega)
    rw [← e2]
    have := List.getElem?_eq_getElem (l := s.data.toList) (i := 0) (by rw [size_list]; exact hz0)
    rw [List.head?_eq_getElem?, this]
    rfl
  have hne : ¬ s.toList = [] := fun e => beq_eq_false_iff_ne.1 s0 (e.trans (ByteArray.toList_eq ⟨#[]⟩).symm)
  clear h0 hz
  go_enter Tryz.func45, Tryz.ntmps45
  have h9 : s.data.toList.length = s.size := size_list s
  go_wp2
  go_loop [6, 7] (fun d i => ∃ (k m : Nat), k ≤ s.size ∧ i = .int .i64 ((k : Int) - 1) ∧ d = .int .i64 m ∧ m ≤ s.size ∧ Hid (m = k + dotAt (s.data.toList.drop k))) (fun _ i => (intOf i + 1).toNat)
  case atStart =>
    refine ⟨s.size, s.size, Nat.le_refl _, by go_num, rfl, Nat.le_refl _, ?_⟩
    show s.size = s.size + dotAt (List.drop s.size s.data.toList)
    rw [List.drop_of_length_le (by omega)]
    rfl
  case round =>
    obtain ⟨k, m, hk, rfl, rfl, hm, HM⟩ := hrel
    cases k with
    | zero =>
      rw [show ((0 : Nat) : Int) - 1 = -1 from rfl]
      have hM : m = dotAt s.data.toList := by have := HM.out; rw [List.drop_zero, Nat.zero_add] at this; exact this
      have ha := ext_to s m
      rw [hM, take_dotAt] at ha
      rw [← hM] at ha
      by_cases hd : m < s.size
      · have hb := ext_from s (m + 1) (by omega)
        rw [hM, ← behind_at (by rw [← hM, h9]; exact hd), ← hM] at hb
        rw [← ha, ← hb] at HR
        have za : (s.extract 0 m).size ≤ 1000000 := by rw [ByteArray.size_extract]; omega
        have zb : (s.extract (m + 1) s.size).size ≤ 1000000 := by rw [ByteArray.size_extract]; omega
        clear ha hb HM hM
        go_upto_region 14 with (fail)
        generalize s.extract 0 m = a at *
        generalize s.extract (m + 1) s.size = b at *
        by_cases a0 : a.size = 0
        · obtain rfl := empty_of a0
          obtain rfl : R = nV none := by rw [HR.out, numO_a (.inl rfl)]
          clear HR
          go_wp2_with (fail)
          go_ret2
          exact ⟨rfl, rfl⟩
        have a0c : ¬ a.data.toList = [] := fun e => a0 (by rw [← size_list, e]; rfl)
        obtain ⟨a01, a02, a03⟩ := empty_not a0
        by_cases b0 : b.size = 0
        · obtain rfl := empty_of b0
          obtain rfl : R = nV none := by rw [HR.out, numO_b (.inl rfl)]
          clear HR
          go_wp2_with (fail)
          go_ret2
          exact ⟨rfl, rfl⟩
        have b0c : ¬ b.data.toList = [] := fun e => b0 (by rw [← size_list, e]; rfl)
        obtain ⟨b01, b02, b03⟩ := empty_not b0
        by_cases a9 : 9 < a.size
        · obtain rfl : R = nV none := by rw [HR.out, numO_a (.inr (.inl (by rw [size_list]; exact a9)))]
          clear HR
          go_wp2_with (fail)
          go_ret2
          exact ⟨rfl, rfl⟩
        by_cases b6 : 6 < b.size
        · obtain rfl : R = nV none := by rw [HR.out, numO_b (.inr (.inl (by rw [size_list]; exact b6)))]
          clear HR
          go_wp2_with (fail)
          go_ret2
          exact ⟨rfl, rfl⟩
        have cA := fun w => rdigits_any a (by omega) w
        have cB := fun w => rdigits_any b (by omega) w
        cases dA : a.data.toList.all isDg with
        | false =>
          obtain rfl : R = nV none := by rw [HR.out, numO_a (.inr (.inr dA))]
          rw [dgI_bad dA] at cA
          clear HR dA
          go_wp2_with (go_at_call 73; (with_reducible refine (cA _).mono ?_); rintro e w1 ⟨rfl, rfl⟩)
          go_ret2
          exact ⟨rfl, rfl⟩
        | true =>
          rw [dgI_all dA] at cA
          have vA := valD_lt a.data.toList 0 0 dA (by decide)
          rw [show List.foldl (fun n c => 10 * n + (UInt8.toNat c - 48)) 0 a.data.toList = valD a.data.toList from rfl, Nat.zero_add, size_list] at vA
          have pA : 10 ^ a.size ≤ 10 ^ 9 := Nat.pow_le_pow_right (by decide) (by omega)
          have mA : valD a.data.toList < 1000000000 := by omega
          cases dB : b.data.toList.all isDg with
          | false =>
            obtain rfl : R = nV none := by rw [HR.out, numO_b (.inr (.inr dB))]
            rw [dgI_bad dB] at cB
            clear HR dA dB vA pA
            generalize valD a.data.toList = A at *
            have A0 : (0 : Int) ≤ (A : Int) := Int.natCast_nonneg _
            go_wp2_with (first
              | (go_at_call 73; (with_reducible refine (cA _).mono ?_); rintro e w1 ⟨rfl, rfl⟩)
              | (go_at_call 73; (with_reducible refine (cB _).mono ?_); rintro e w1 ⟨rfl, rfl⟩))
            go_ret2
            exact ⟨rfl, rfl⟩
          | true =>
            rw [dgI_all dB] at cB
            have vB := valD_lt b.data.toList 0 0 dB (by decide)
            rw [show List.foldl (fun n c => 10 * n + (UInt8.toNat c - 48)) 0 b.data.toList = valD b.data.toList from rfl, Nat.zero_add, size_list] at vB
            have pB : 10 ^ b.size ≤ 10 ^ 6 := Nat.pow_le_pow_right (by decide) (by omega)
            have mB : valD b.data.toList < 1000000 := by omega
            have HE := Lib.hid (HR.out.trans (congrArg nV (numO_yes a0c (by rw [size_list]; omega) dA b0c (by rw [size_list]; omega) dB)))
            rw [size_list] at HE
            clear HR dA dB vA pA vB pB
            generalize valD a.data.toList = A at *
            generalize valD b.data.toList = B at *
            have A0 : (0 : Int) ≤ (A : Int) := Int.natCast_nonneg _
            have B0 : (0 : Int) ≤ (B : Int) := Int.natCast_nonneg _
            have A1 : (A : Int) < 1000000000 := by omega
            have B1 : (B : Int) < 1000000 := by omega
            obtain ⟨AI, hAI⟩ : ∃ AI : Int, AI = (A : Int) := ⟨_, rfl⟩
            obtain ⟨BI, hBI⟩ : ∃ BI : Int, BI = (B : Int) := ⟨_, rfl⟩
            rw [← hAI] at cA A0 A1
            rw [← hBI] at cB B0 B1
            have HA := Lib.hid hAI
            have HB := Lib.hid hBI
            clear hAI hBI mA mB
            go_wp2_with (first
              | (go_at_call 73; (with_reducible refine (cA _).mono ?_); rintro e w1 ⟨rfl, rfl⟩)
              | (go_at_call 73; (with_reducible refine (cB _).mono ?_); rintro e w1 ⟨rfl, rfl⟩))
            go_loop [10, 11] (fun sc i => ∃ k : Nat, k ≤ b.size ∧ i = .int .i64 k ∧ Hid (sc = .int .i64 ((10 ^ k : Nat) : Int))) (fun _ i => b.size - (intOf i).toNat)
            case atStart => exact ⟨0, Nat.zero_le _, rfl, rfl⟩
            case round =>
              obtain ⟨k, hk, rfl, HS⟩ := hrel
              have hp : 10 ^ k ≤ 10 ^ 6 := Nat.pow_le_pow_right (by decide) (by omega)
              have hp0 : 0 < 10 ^ k := Nat.pow_pos (by decide)
              obtain ⟨P, hP⟩ : ∃ P : Int, P = ((10 ^ k : Nat) : Int) := ⟨_, rfl⟩
              have HS' := HS.out
              rw [← hP] at HS'
              subst HS'
              have P0 : (0 : Int) < P := by omega
              have P1 : P ≤ 1000000 := by omega
              have HP := Lib.hid hP
              clear hP hp hp0 HS
              by_cases hkb : k < b.size
              · go_wp2
                go_round
                case rel => exact ⟨k + 1, by omega, by go_num, by show Value.int .i64 _ = _; rw [HP.out, Nat.pow_succ]; congr 1; push_cast; omega⟩
                case measure => simp [intOf]; omega
              · obtain rfl : k = b.size := by omega
                have PN : ¬ P = 0 := by omega
                go_wp2_with (first
                  | (go_at_call 73; (with_reducible refine (cA _).mono ?_); rintro e w1 ⟨rfl, rfl⟩)
                  | (go_at_call 73; (with_reducible refine (cB _).mono ?_); rintro e w1 ⟨rfl, rfl⟩))
                have hq0 : 0 ≤ 64 * BI / P := Int.ediv_nonneg (by omega) (by omega)
                have hq1 : 64 * BI / P ≤ 64 * BI := Int.ediv_le_self _ (by omega)
                have e0 : wrap64 (64 * AI + 64 * BI / P) = 64 * AI + 64 * BI / P := IntWalk.wrap64_in _ (by omega)
                have e1 : 64 * AI + 64 * BI / P = ((64 * A + 64 * B / 10 ^ b.size : Nat) : Int) := by
                  rw [HA.out, HB.out, HP.out]
                  push_cast
                  rfl
                have e2 := e0.trans e1
                go_ret2
                refine ⟨?_, rfl⟩
                rw [HE.out]
                show Ending.returned (Value.tuple #[Value.int .i64 (wrap64 (64 * AI + 64 * BI / P)), Value.bool true]) = Ending.returned (Value.tuple #[Value.int .i64 ((64 * A + 64 * B / 10 ^ b.size : Nat) : Int), Value.bool true])
                rw [e2]
      · have hb : (⟨#[48]⟩ : ByteArray).data.toList = behindDot s.data.toList := (behind_end (by rw [← hM, h9]; omega)).symm
        rw [← ha, ← hb] at HR
        have za : (s.extract 0 m).size ≤ 1000000 := by rw [ByteArray.size_extract]; omega
        have zb : (⟨#[48]⟩ : ByteArray).size ≤ 1000000 := by decide
        clear ha hb HM hM
        go_upto_region 14 with (fail)
        generalize s.extract 0 m = a at *
        generalize (⟨#[48]⟩ : ByteArray) = b at *
        by_cases a0 : a.size = 0
        · obtain rfl := empty_of a0
          obtain rfl : R = nV none := by rw [HR.out, numO_a (.inl rfl)]
          clear HR
          go_wp2_with (fail)
          go_ret2
          exact ⟨rfl, rfl⟩
        have a0c : ¬ a.data.toList = [] := fun e => a0 (by rw [← size_list, e]; rfl)
        obtain ⟨a01, a02, a03⟩ := empty_not a0
        by_cases b0 : b.size = 0
        · obtain rfl := empty_of b0
          obtain rfl : R = nV none := by rw [HR.out, numO_b (.inl rfl)]
          clear HR
          go_wp2_with (fail)
          go_ret2
          exact ⟨rfl, rfl⟩
        have b0c : ¬ b.data.toList = [] := fun e => b0 (by rw [← size_list, e]; rfl)
        obtain ⟨b01, b02, b03⟩ := empty_not b0
        by_cases a9 : 9 < a.size
        · obtain rfl : R = nV none := by rw [HR.out, numO_a (.inr (.inl (by rw [size_list]; exact a9)))]
          clear HR
          go_wp2_with (fail)
          go_ret2
          exact ⟨rfl, rfl⟩
        by_cases b6 : 6 < b.size
        · obtain rfl : R = nV none := by rw [HR.out, numO_b (.inr (.inl (by rw [size_list]; exact b6)))]
          clear HR
          go_wp2_with (fail)
          go_ret2
          exact ⟨rfl, rfl⟩
        have cA := fun w => rdigits_any a (by omega) w
        have cB := fun w => rdigits_any b (by omega) w
        cases dA : a.data.toList.all isDg with
        | false =>
          obtain rfl : R = nV none := by rw [HR.out, numO_a (.inr (.inr dA))]
          rw [dgI_bad dA] at cA
          clear HR dA
          go_wp2_with (go_at_call 73; (with_reducible refine (cA _).mono ?_); rintro e w1 ⟨rfl, rfl⟩)
          go_ret2
          exact ⟨rfl, rfl⟩
        | true =>
          rw [dgI_all dA] at cA
          have vA := valD_lt a.data.toList 0 0 dA (by decide)
          rw [show List.foldl (fun n c => 10 * n + (UInt8.toNat c - 48)) 0 a.data.toList = valD a.data.toList from rfl, Nat.zero_add, size_list] at vA
          have pA : 10 ^ a.size ≤ 10 ^ 9 := Nat.pow_le_pow_right (by decide) (by omega)
          have mA : valD a.data.toList < 1000000000 := by omega
          cases dB : b.data.toList.all isDg with
          | false =>
            obtain rfl : R = nV none := by rw [HR.out, numO_b (.inr (.inr dB))]
            rw [dgI_bad dB] at cB
            clear HR dA dB vA pA
            generalize valD a.data.toList = A at *
            have A0 : (0 : Int) ≤ (A : Int) := Int.natCast_nonneg _
            go_wp2_with (first
              | (go_at_call 73; (with_reducible refine (cA _).mono ?_); rintro e w1 ⟨rfl, rfl⟩)
              | (go_at_call 73; (with_reducible refine (cB _).mono ?_); rintro e w1 ⟨rfl, rfl⟩))
            go_ret2
            exact ⟨rfl, rfl⟩
          | true =>
            rw [dgI_all dB] at cB
            have vB := valD_lt b.data.toList 0 0 dB (by decide)
            rw [show List.foldl (fun n c => 10 * n + (UInt8.toNat c - 48)) 0 b.data.toList = valD b.data.toList from rfl, Nat.zero_add, size_list] at vB
            have pB : 10 ^ b.size ≤ 10 ^ 6 := Nat.pow_le_pow_right (by decide) (by omega)
            have mB : valD b.data.toList < 1000000 := by omega
            have HE := Lib.hid (HR.out.trans (congrArg nV (numO_yes a0c (by rw [size_list]; omega) dA b0c (by rw [size_list]; omega) dB)))
            rw [size_list] at HE
            clear HR dA dB vA pA vB pB
            generalize valD a.data.toList = A at *
            generalize valD b.data.toList = B at *
            have A0 : (0 : Int) ≤ (A : Int) := Int.natCast_nonneg _
            have B0 : (0 : Int) ≤ (B : Int) := Int.natCast_nonneg _
            have A1 : (A : Int) < 1000000000 := by omega
            have B1 : (B : Int) < 1000000 := by omega
            obtain ⟨AI, hAI⟩ : ∃ AI : Int, AI = (A : Int) := ⟨_, rfl⟩
            obtain ⟨BI, hBI⟩ : ∃ BI : Int, BI = (B : Int) := ⟨_, rfl⟩
            rw [← hAI] at cA A0 A1
            rw [← hBI] at cB B0 B1
            have HA := Lib.hid hAI
            have HB := Lib.hid hBI
            clear hAI hBI mA mB
            go_wp2_with (first
              | (go_at_call 73; (with_reducible refine (cA _).mono ?_); rintro e w1 ⟨rfl, rfl⟩)
              | (go_at_call 73; (with_reducible refine (cB _).mono ?_); rintro e w1 ⟨rfl, rfl⟩))
            go_loop [10, 11] (fun sc i => ∃ k : Nat, k ≤ b.size ∧ i = .int .i64 k ∧ Hid (sc = .int .i64 ((10 ^ k : Nat) : Int))) (fun _ i => b.size - (intOf i).toNat)
            case atStart => exact ⟨0, Nat.zero_le _, rfl, rfl⟩
            case round =>
              obtain ⟨k, hk, rfl, HS⟩ := hrel
              have hp : 10 ^ k ≤ 10 ^ 6 := Nat.pow_le_pow_right (by decide) (by omega)
              have hp0 : 0 < 10 ^ k := Nat.pow_pos (by decide)
              obtain ⟨P, hP⟩ : ∃ P : Int, P = ((10 ^ k : Nat) : Int) := ⟨_, rfl⟩
              have HS' := HS.out
              rw [← hP] at HS'
              subst HS'
              have P0 : (0 : Int) < P := by omega
              have P1 : P ≤ 1000000 := by omega
              have HP := Lib.hid hP
              clear hP hp hp0 HS
              by_cases hkb : k < b.size
              · go_wp2
                go_round
                case rel => exact ⟨k + 1, by omega, by go_num, by show Value.int .i64 _ = _; rw [HP.out, Nat.pow_succ]; congr 1; push_cast; omega⟩
                case measure => simp [intOf]; omega
              · obtain rfl : k = b.size := by omega
                have PN : ¬ P = 0 := by omega
                go_wp2_with (first
                  | (go_at_call 73; (with_reducible refine (cA _).mono ?_); rintro e w1 ⟨rfl, rfl⟩)
                  | (go_at_call 73; (with_reducible refine (cB _).mono ?_); rintro e w1 ⟨rfl, rfl⟩))
                have hq0 : 0 ≤ 64 * BI / P := Int.ediv_nonneg (by omega) (by omega)
                have hq1 : 64 * BI / P ≤ 64 * BI := Int.ediv_le_self _ (by omega)
                have e0 : wrap64 (64 * AI + 64 * BI / P) = 64 * AI + 64 * BI / P := IntWalk.wrap64_in _ (by omega)
                have e1 : 64 * AI + 64 * BI / P = ((64 * A + 64 * B / 10 ^ b.size : Nat) : Int) := by
                  rw [HA.out, HB.out, HP.out]
                  push_cast
                  rfl
                have e2 := e0.trans e1
                go_ret2
                refine ⟨?_, rfl⟩
                rw [HE.out]
                show Ending.returned (Value.tuple #[Value.int .i64 (wrap64 (64 * AI + 64 * BI / P)), Value.bool true]) = Ending.returned (Value.tuple #[Value.int .i64 ((64 * A + 64 * B / 10 ^ b.size : Nat) : Int), Value.bool true])
                rw [e2]
    | succ k =>
      have hks : k < s.size := by omega
      have hx := List.drop_eq_getElem_cons (l := s.data.toList) (i := k) (by omega)
      rw [show s.data.toList[k]'(by omega) = s[k] from rfl] at hx
      have kk : ((k + 1 : Nat) : Int) - 1 = (k : Int) := by omega
      rw [kk]
      have k0 : (0 : Int) ≤ (k : Int) := Int.natCast_nonneg _
      by_cases hc : s[k] = 46
      · have hcn : ((s[k].toNat : Int) == 46) = true := by rw [hc]; rfl
        have HM2 : Hid (k = k + dotAt (s.data.toList.drop k)) := by show k = k + _; rw [hx, hc, dotAt_yes]; rfl
        clear hx hc HM kk
        go_wp2
        go_round
        case rel => exact ⟨k, k, by omega, by go_num, rfl, by omega, HM2⟩
        case measure => simp [intOf]
      · have hcn : ((s[k].toNat : Int) == 46) = false := by
          rw [beq_eq_false_iff_ne]
          intro e
          exact hc (UInt8.toNat_inj.1 (by have q : (46 : UInt8).toNat = 46 := rfl; omega))
        have HM2 : Hid (m = k + dotAt (s.data.toList.drop k)) := by
          show m = k + _
          rw [hx, dotAt_no hc, HM.out]
          omega
        clear hx hc HM kk
        go_wp2
        go_round
        case rel => exact ⟨k, m, by omega, by go_num, rfl, hm, HM2⟩
        case measure => simp [intOf]
theorem numU_dash {t : List UInt8} (h : t.head? = some 45) : numU t = none := by
  cases t with
  | nil => cases h
  | cons c t =>
    obtain rfl : c = 45 := by simpa using h
    unfold numU
    have e1 : List.takeWhile (· != (46 : UInt8)) (45 :: t) = 45 :: List.takeWhile (· != 46) t := rfl
    rw [e1]
    have : okD 9 (45 :: List.takeWhile (· != 46) t) = false := by
      unfold okD
      rw [List.all_cons, show isDg 45 = false from by decide, Bool.false_and, Bool.and_false]
    rw [this, Bool.false_and, if_neg (by decide)]
theorem numU_bound {t : List UInt8} {m : Nat} (h : numU t = some m) : m < 128000000000 := by
  unfold numU at h
  split at h
  · rename_i hk
    rw [Bool.and_eq_true] at hk
    obtain rfl := Option.some.inj h
    obtain ⟨ha, hb⟩ := hk
    unfold okD at ha hb
    simp only [Bool.and_eq_true, decide_eq_true_eq] at ha hb
    generalize List.takeWhile (· != 46) t = a at *
    generalize behindDot t = b at *
    have v1 := valD_lt a 0 0 ha.2 (by decide)
    have v2 := valD_lt b 0 0 hb.2 (by decide)
    rw [show List.foldl (fun n c => 10 * n + (UInt8.toNat c - 48)) 0 a = valD a from rfl, Nat.zero_add] at v1
    rw [show List.foldl (fun n c => 10 * n + (UInt8.toNat c - 48)) 0 b = valD b from rfl, Nat.zero_add] at v2
    have p1 : 10 ^ a.length ≤ 10 ^ 9 := Nat.pow_le_pow_right (by decide) ha.1.2
    have q : 64 * valD b / 10 ^ b.length ≤ 64 := by
      refine Nat.div_le_of_le_mul ?_
      rw [Nat.mul_comm]
      exact Nat.mul_le_mul_right 64 (Nat.le_of_lt v2)
    omega
  · cases h
set_option maxHeartbeats 8000000 in
theorem rnumber_any : ∀ (f : Nat) (s : ByteArray), s.size ≤ f → s.size ≤ mostB → ∃ (n : Int) (b : Bool), numL s.data.toList = (if b = true then some n else none) ∧ -128000000000 < n ∧ n < 128000000000 ∧
    ∀ w, Calls Tryz.prog 45 #[.string s] w fun e w' => e = .returned (.tuple #[.int .i64 n, .bool b]) ∧ Below w.heap.size w w' := by
  intro f
  induction f with
  | zero =>
    intro s h hs
    have hl : s.data.toList = [] := List.eq_nil_of_length_eq_zero (by rw [size_list]; omega)
    refine ⟨0, false, by rw [hl]; rfl, by decide, by decide, fun w => ?_⟩
    have c := rnumU_any s hs (by rw [hl]; simp) w
    rw [hl, show numU [] = none from rfl] at c
    exact c.mono (by rintro e w1 ⟨rfl, rfl⟩; exact ⟨rfl, Below.refl _ _⟩)
  | succ f ih =>
    intro s h hs
    cases hl : s.data.toList with
    | nil =>
      refine ⟨0, false, rfl, by decide, by decide, fun w => ?_⟩
      have c := rnumU_any s hs (by rw [hl]; simp) w
      rw [hl, show numU [] = none from rfl] at c
      exact c.mono (by rintro e w1 ⟨rfl, rfl⟩; exact ⟨rfl, Below.refl _ _⟩)
    | cons c t =>
      have hz : s.size = t.length + 1 := by rw [← size_list, hl]; rfl
      have z0 : 0 < s.size := by omega
      have HZ := Lib.hid hz
      by_cases hc : c = 45
      · subst hc
        have hx := ext_from s 1 (by omega)
        rw [hl, List.drop_one, List.tail_cons] at hx
        obtain ⟨n, b, hn, n1, n2, cc⟩ := ih (s.extract 1 s.size) (by rw [ByteArray.size_extract]; omega) (by rw [ByteArray.size_extract]; omega)
        rw [hx] at hn
        have g0 : s[0]'z0 = 45 := by
          have := List.getElem_of_eq hl (i := 0) (by rw [size_list]; omega)
          exact this
        obtain ⟨s0, hne, he⟩ := empty_not (a := s) (by omega)
        rw [numL_neg]
        cases b with
        | false =>
          rw [if_neg (by decide)] at hn
          have hu : numU t = none := by
            cases t with
            | nil => rfl
            | cons d t =>
              by_cases hd : d = 45
              · subst hd; exact numU_dash rfl
              · rw [numL_pos t hd] at hn
                cases hv : numU (d :: t) with
                | none => rfl
                | some m => rw [hv] at hn; cases hn
          refine ⟨-n, false, by rw [hu]; rfl, by omega, by omega, fun w => ?_⟩
          clear ih hn hu hx hl h
          clear hz
          unfold mostB at hs
          have hwn : IntKind.i64.wrap (-n) = -n := IntWalk.i64_in _ (by omega)
          have g1 : ((s[0].toNat : Int) == 45) = true := by rw [g0]; rfl
          go_enter Tryz.func45, Tryz.ntmps45
          go_wp2_with (go_at_call 45; (with_reducible refine (cc _).mono ?_); rintro e w1 ⟨rfl, hb⟩)
          first | (go_region_with (fail)) | (fail)
          all_goals
            go_wp2
            go_ret2
            exact ⟨rfl, below_dr hb 1⟩
        | true =>
          rw [if_pos rfl] at hn
          cases t with
          | nil => cases hn
          | cons d t =>
            have z1 : 1 < s.size := by rw [hz, List.length_cons]; omega
            have g2 : s[1]'z1 = d := by
              have := List.getElem_of_eq hl (i := 1) (by rw [size_list]; omega)
              exact this
            have hwn : IntKind.i64.wrap (-n) = -n := IntWalk.i64_in _ (by omega)
            have g1 : ((s[0].toNat : Int) == 45) = true := by rw [g0]; rfl
            by_cases hd : d = 45
            · subst hd
              have g3 : ((s[1].toNat : Int) == 45) = true := by rw [g2]; rfl
              rw [numU_dash (t := 45 :: t) rfl]
              refine ⟨-n, false, rfl, by omega, by omega, fun w => ?_⟩
              clear ih hn hx hl h hz
              unfold mostB at hs
              go_enter Tryz.func45, Tryz.ntmps45
              go_wp2_with (go_at_call 45; (with_reducible refine (cc _).mono ?_); rintro e w1 ⟨rfl, hb⟩)
              first | (go_region_with (fail)) | (fail)
              all_goals
                go_wp2
                go_ret2
                exact ⟨rfl, below_dr hb 1⟩
            · have g3 : ((s[1].toNat : Int) == 45) = false := by
                rw [beq_eq_false_iff_ne, g2]
                intro e
                exact hd (UInt8.toNat_inj.1 (by have q : (45 : UInt8).toNat = 45 := rfl; omega))
              have hu : ∃ m : Nat, numU (d :: t) = some m ∧ n = (m : Int) := by
                rw [numL_pos t hd] at hn
                cases hv : numU (d :: t) with
                | none => rw [hv] at hn; cases hn
                | some m => rw [hv] at hn; exact ⟨m, rfl, (Option.some.inj hn).symm⟩
              obtain ⟨m, hu, hnm⟩ := hu
              have g4 : ((d.toNat : Int) == 45) = false := by rw [← g2]; exact g3
              have g5 : ((d.toNat : Int) != 45) = true := by rw [bne, g4]; rfl
              rw [hu]
              refine ⟨-n, true, by rw [hnm]; rfl, by omega, by omega, fun w => ?_⟩
              clear ih hn hx hl h hz hu hnm
              unfold mostB at hs
              go_enter Tryz.func45, Tryz.ntmps45
              go_wp2_with (go_at_call 45; (with_reducible refine (cc _).mono ?_); rintro e w1 ⟨rfl, hb⟩)
              first | (go_region_with (fail)) | (fail)
              all_goals
                go_wp2
                go_ret2
                exact ⟨rfl, below_dr hb 1⟩
      · have c0 := fun w => rnumU_any s hs (by rw [hl]; simp; exact hc) w
        rw [hl] at c0
        rw [numL_pos t hc]
        cases hv : numU (c :: t) with
        | none => 
          rw [hv] at c0
          exact ⟨0, false, rfl, by decide, by decide, fun w => (c0 w).mono (by rintro e w1 ⟨rfl, rfl⟩; exact ⟨rfl, Below.refl _ _⟩)⟩
        | some m =>
          rw [hv] at c0
          have := numU_bound hv
          exact ⟨m, true, rfl, by omega, by omega, fun w => (c0 w).mono (by rintro e w1 ⟨rfl, rfl⟩; exact ⟨rfl, Below.refl _ _⟩)⟩
end Val
end Go.Proofs.YtcacabpcobmgoaaGreatDoor
