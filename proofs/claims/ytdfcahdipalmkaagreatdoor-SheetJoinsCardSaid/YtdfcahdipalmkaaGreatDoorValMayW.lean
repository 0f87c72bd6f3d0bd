/- May's walk, of the landed code of package value, from what scan.Words answers. Conditions: that. -/
import Derived.Test.YtdfcahdipalmkaaGreatDoorValSortOf
import Derived.Test.YtdfcahdipalmkaaGreatDoorValC
import Derived.Deep.RegionHeld3
import Derived.Deep.RegionWith
/- What Prop answers, of the landed code of package value. Conditions: the text is not too long. -/
namespace Go.Proofs.YtdfcahdipalmkaaGreatDoor
open Go.ChangeShapes Go.WideShapes Go.ChangeAt Go.RowKit
namespace Val
theorem toB_eq {l : List UInt8} {s : ByteArray} : (toB l).toList == s.toList ↔ l = s.data.toList := by
  rw [beq_iff_eq, ByteArray.toList_eq, ByteArray.toList_eq]
  unfold toB
  rfl
theorem prop_none {l : List UInt8} (h : ∀ j : Nat, 1 ≤ j → j < 27 → nameP (j : Int) ≠ l) : propP l = 0 := by
  obtain ⟨h1, h2, h3⟩ := name_prop l
  by_cases h0 : propP l = 0
  · exact h0
  · have h4 := h3 h0
    exact absurd (by rw [show ((propP l).toNat : Int) = propP l by omega]; exact h4) (h (propP l).toNat (by omega) (by omega))
set_option maxHeartbeats 4000000 in
set_option maxRecDepth 100000 in
theorem prop_any : PropC := by
  intro s w _
  obtain ⟨R, hR⟩ : ∃ R, R = propP s.data.toList := ⟨_, rfl⟩
  rw [← hR]
  have HR := Lib.hid hR
  clear hR
  go_enter Tryz.func65, Tryz.ntmps65
  go_wp2_with (first
    | (go_at_call 109; (with_reducible refine (sorts_any _).mono ?_); rintro e w1 ⟨rfl, hb⟩))
  go_loopw [6] (fun i wr => ∃ k : Nat, k ≤ 27 ∧ i = .int .i64 k ∧ Hid (∀ j : Nat, 1 ≤ j → j < k → nameP (j : Int) ≠ s.data.toList) ∧ Below w.heap.size w wr) (fun i _ => 27 - (intOf i).toNat)
  case atStart => exact ⟨0, Nat.zero_le _, rfl, fun j _ h => absurd h (by omega), hb⟩
  case round =>
    obtain ⟨k, hk, rfl, HK, hBr⟩ := hrel
    clear hb
    by_cases hlt : k < 27
    · have hx := fun w => row_at (k : Int) (by omega) (by omega) w
      unfold sortCells at hx
      have hm := toB_eq (l := nameP (k : Int)) (s := s)
      by_cases hk0 : k = 0
      · subst hk0
        have HK' : Hid (∀ j : Nat, 1 ≤ j → j < 0 + 1 → nameP (j : Int) ≠ s.data.toList) := fun j h1 h2 => absurd h2 (by omega)
        clear hx
        have hx := fun w => row_at 0 (by omega) (by omega) w
        unfold sortCells at hx
        generalize toB (nameP 0) = a1 at *
        generalize kindsN 0 = a2 at *
        generalize leastN 0 = a3 at *
        generalize toB (wordsB 0) = a4 at *
        generalize (firstP 0).1 = a5 at *
        generalize (firstP 0).2 = a6 at *
        clear hm
        go_wp2
        go_roundw
        case rel => exact ⟨0 + 1, by omega, by go_num, HK', below_al hBr _⟩
        case measure => simp [intOf]
      · cases hb1 : ((toB (nameP (k : Int))).toList == s.toList) with
        | true =>
          have he := hm.1 hb1
          have hres : propP s.data.toList = (k : Int) := by rw [← he]; exact prop_name (by omega) (by omega)
          obtain rfl : R = (k : Int) := HR.out.trans hres
          clear hm he hres HK HR
          generalize toB (nameP (k : Int)) = a1 at *
          generalize kindsN (k : Int) = a2 at *
          generalize leastN (k : Int) = a3 at *
          generalize toB (wordsB (k : Int)) = a4 at *
          generalize (firstP (k : Int)).1 = a5 at *
          generalize (firstP (k : Int)).2 = a6 at *
          go_wp2
          go_ret
          exact ⟨rfl, below_al hBr _⟩
        | false =>
          have hne : nameP (k : Int) ≠ s.data.toList := fun h => by rw [hm.2 h] at hb1; cases hb1
          have HK' : Hid (∀ j : Nat, 1 ≤ j → j < k + 1 → nameP (j : Int) ≠ s.data.toList) := by
            intro j h1 h2
            by_cases e : j = k
            · subst e; exact hne
            · exact HK.out j h1 (by omega)
          clear hm hne HK
          generalize toB (nameP (k : Int)) = a1 at *
          generalize kindsN (k : Int) = a2 at *
          generalize leastN (k : Int) = a3 at *
          generalize toB (wordsB (k : Int)) = a4 at *
          generalize (firstP (k : Int)).1 = a5 at *
          generalize (firstP (k : Int)).2 = a6 at *
          go_wp2
          go_roundw
          case rel => exact ⟨k + 1, by omega, by go_num, HK', below_al hBr _⟩
          case measure => simp [intOf]; omega
    · obtain rfl : k = 27 := by omega
      obtain rfl : R = 0 := HR.out.trans (prop_none HK.out)
      go_wp2
      go_ret
      exact ⟨rfl, hBr⟩
end Val
end Go.Proofs.YtdfcahdipalmkaaGreatDoor
/- kinds.has, of the landed code of package value. Conditions: the set is one of those that sorts have. -/
namespace Go.Proofs.YtdfcahdipalmkaaGreatDoor
open Go.ChangeShapes Go.WideShapes Go.ChangeAt Go.RowKit
namespace Val
def hasK (k j : Int) : Bool := if j = 1 then decide (k = 14 ∨ k = 6) else if j = 2 then decide (k = 14 ∨ k = 6 ∨ k = 4) else if j = 3 then decide (k = 14) else if j = 4 then decide (k = 16) else if j = 5 then decide (k = 32) else if j = 6 then decide (k = 64) else false
set_option maxHeartbeats 8000000 in
theorem has_any (k j : Int) (hk : k = 0 ∨ k = 4 ∨ k = 6 ∨ k = 14 ∨ k = 16 ∨ k = 32 ∨ k = 64) (w : World) :
    Calls Tryz.prog 118 #[.int .i64 k, .int .i64 j] w fun e w' => e = .returned (.bool (hasK k j)) ∧ w' = w := by
  by_cases h0 : j ≤ 0
  · have e : hasK k j = false := by unfold hasK; repeat rw [if_neg (by omega)]
    rw [e]
    go_enter Tryz.func118, Tryz.ntmps118
    go_wp2
    go_ret
    exact ⟨rfl, rfl⟩
  · by_cases h7 : 6 < j
    · have e : hasK k j = false := by unfold hasK; repeat rw [if_neg (by omega)]
      rw [e]
      go_enter Tryz.func118, Tryz.ntmps118
      go_wp2
      go_ret
      exact ⟨rfl, rfl⟩
    · have hj : j = 1 ∨ j = 2 ∨ j = 3 ∨ j = 4 ∨ j = 5 ∨ j = 6 := by omega
      clear h0 h7
      rcases hj with rfl | rfl | rfl | rfl | rfl | rfl <;> rcases hk with rfl | rfl | rfl | rfl | rfl | rfl | rfl
      all_goals
        go_enter Tryz.func118, Tryz.ntmps118
        go_wp2
        go_ret
        exact ⟨rfl, rfl⟩
end Val
end Go.Proofs.YtdfcahdipalmkaaGreatDoor
namespace Go.Proofs.YtdfcahdipalmkaaGreatDoor
open Go.ChangeShapes Go.WideShapes Go.ChangeAt Go.RowKit
namespace Val
theorem kindsF : ∀ i : Fin 27, kindsT.getD i.val 0 = 0 ∨ kindsT.getD i.val 0 = 4 ∨ kindsT.getD i.val 0 = 6 ∨ kindsT.getD i.val 0 = 14 ∨ kindsT.getD i.val 0 = 16 ∨ kindsT.getD i.val 0 = 32 ∨ kindsT.getD i.val 0 = 64 := by decide
theorem kinds_ok (p : Int) : kindsN p = 0 ∨ kindsN p = 4 ∨ kindsN p = 6 ∨ kindsN p = 14 ∨ kindsN p = 16 ∨ kindsN p = 32 ∨ kindsN p = 64 := by
  unfold kindsN
  split
  · exact kindsF ⟨p.toNat, by omega⟩
  · exact Or.inl rfl
theorem has_1 : ∀ i : Fin 27, hasK (kindsN i.val) 1 = hasP i.val 1 := by decide
theorem has_2 : ∀ i : Fin 27, hasK (kindsN i.val) 2 = hasP i.val 2 := by decide
theorem has_3 : ∀ i : Fin 27, hasK (kindsN i.val) 3 = hasP i.val 3 := by decide
theorem has_4 : ∀ i : Fin 27, hasK (kindsN i.val) 4 = hasP i.val 4 := by decide
theorem has_5 : ∀ i : Fin 27, hasK (kindsN i.val) 5 = hasP i.val 5 := by decide
theorem has_6 : ∀ i : Fin 27, hasK (kindsN i.val) 6 = hasP i.val 6 := by decide
theorem least_F : ∀ i : Fin 27, leastN i.val = if belowP i.val = true then -63999999999 else 0 := by decide
theorem words_F : ∀ i : Fin 27, wordsF (wordsB i.val) = wordsP i.val := by decide
theorem has_ranges {p k : Int} (h : hasP p k = true) : (1 ≤ k ∧ k ≤ 6) ∧ 1 ≤ p ∧ p < 27 := by
  unfold hasP at h
  repeat (split at h; (· have := of_decide_eq_true h; omega))
  cases h
theorem has_eq (p k : Int) : hasK (kindsN p) k = hasP p k := by
  by_cases hp : 0 ≤ p ∧ p < 27
  · have hpi : p = ((⟨p.toNat, by omega⟩ : Fin 27).val : Int) := by simp only; omega
    by_cases hk : 1 ≤ k ∧ k ≤ 6
    · rw [hpi]
      rcases (by omega : k = 1 ∨ k = 2 ∨ k = 3 ∨ k = 4 ∨ k = 5 ∨ k = 6) with rfl | rfl | rfl | rfl | rfl | rfl
      · exact has_1 _
      · exact has_2 _
      · exact has_3 _
      · exact has_4 _
      · exact has_5 _
      · exact has_6 _
    · unfold hasK hasP
      repeat rw [if_neg (by omega)]
  · have h0 : kindsN p = 0 := by unfold kindsN; rw [if_neg hp]
    have h1 : hasP p k = false := by
      rw [← Bool.not_eq_true]
      intro h
      have := has_ranges h
      omega
    rw [h0, h1]
    unfold hasK
    repeat (split; (· rfl))
    rfl
theorem least_eq {p : Int} (h0 : 0 ≤ p) (h1 : p < 27) : leastN p = if belowP p = true then -63999999999 else 0 := by
  have hpi : p = ((⟨p.toNat, by omega⟩ : Fin 27).val : Int) := by simp only; omega
  rw [hpi]
  exact least_F _
theorem words_eq {p : Int} (h0 : 0 ≤ p) (h1 : p < 27) : wordsF (wordsB p) = wordsP p := by
  have hpi : p = ((⟨p.toNat, by omega⟩ : Fin 27).val : Int) := by simp only; omega
  rw [hpi]
  exact words_F _
end Val
end Go.Proofs.YtdfcahdipalmkaaGreatDoor
namespace Go.Proofs.YtdfcahdipalmkaaGreatDoor
open Go.ChangeShapes Go.WideShapes Go.ChangeAt Go.RowKit
namespace Val
theorem sallv {E W W' : World} (h : (∀ b o, b < E.heap.size → W.cell? ⟨b, o, none⟩ = E.cell? ⟨b, o, none⟩) ∧ Below E.heap.size E W) (hb : Below W.heap.size W W') :
    (∀ b o, b < E.heap.size → W'.cell? ⟨b, o, none⟩ = E.cell? ⟨b, o, none⟩) ∧ Below E.heap.size E W' :=
  ⟨fun b o hlt => (hb.cell (p := ⟨b, o, none⟩) (Nat.lt_of_lt_of_le hlt h.2.size)).trans (h.1 b o hlt), below_next h.2 hb⟩
set_option maxHeartbeats 4000000 in
set_option maxRecDepth 100000 in
theorem allWords_any (cWords : WordsC) (a1 : ByteArray) (a2 a3 : Int) (a4 : ByteArray) (a5 a6 : Int) (h4 : a4.size ≤ mostB) (w : World) :
    Calls Tryz.prog 119 #[.agg #[.string a1, .int .i64 a2, .int .i64 a3, .string a4, .int .i64 a5, .int .i64 a6]] w fun e w' =>
      ∃ A n c, e = .returned (.slice A n c) ∧ Reads w' w'.heap.size 1 A n (strs (wordsF a4.data.toList)) ∧ Below w.heap.size w w' := by
  have hB := below_al (Below.refl w.heap.size w) (.cells #[.string a1, .int .i64 a2, .int .i64 a3, .string a4, .int .i64 a5, .int .i64 a6] 166)
  have c := cWords a4 (w.alloc (.cells #[.string a1, .int .i64 a2, .int .i64 a3, .string a4, .int .i64 a5, .int .i64 a6] 166)) h4
  go_enter Tryz.func119, Tryz.ntmps119
  go_wp2_with (first
    | (go_at_call 64; (with_reducible refine c.mono ?_); rintro e w1 ⟨A, n, cp, rfl, hr, hb⟩))
  go_ret
  exact ⟨A, n, cp, rfl, hr, below_next hB hb⟩
theorem words_small : ∀ i : Fin 27, (wordsT.getD i.val []).length ≤ 100 := by decide
theorem wordsB_small (p : Int) : (toB (wordsB p)).size ≤ mostB := by
  rw [toB_size]
  unfold wordsB mostB
  split
  · have := words_small ⟨p.toNat, by omega⟩
    simp only at this
    omega
  · simp
set_option maxHeartbeats 8000000 in
set_option maxRecDepth 100000 in
theorem may_any (cWords : WordsC) : MayC := by
  intro p k n w
  obtain ⟨R, hR⟩ : ∃ R, R = mayP p k n := ⟨_, rfl⟩
  rw [← hR]
  have HR := Lib.hid hR
  clear hR
  have hB := below_al (Below.refl w.heap.size w) (.cells #[.int .i64 k, .int .i64 n] 52)
  have Kv := Blk.new w 52 #[.int .i64 k, .int .i64 n]
  have c1 := fun w => sortOf_any p w
  have c2 := fun w => has_any (kindsN p) k (kinds_ok p) w
  rw [has_eq] at c2
  unfold vV
  unfold sortCells at c1
  cases hh : hasP p k with
  | false =>
    obtain rfl : R = false := by rw [HR.out]; unfold mayP; rw [hh, Bool.false_and]
    rw [hh] at c2
    generalize toB (nameP p) = a1 at *
    generalize kindsN p = a2 at *
    generalize leastN p = a3 at *
    generalize toB (wordsB p) = a4 at *
    generalize (firstP p).1 = a5 at *
    generalize (firstP p).2 = a6 at *
    go_enter Tryz.func79, Tryz.ntmps79
    go_wp2_with (first
      | (go_at_call 117; (with_reducible refine (c1 _).mono ?_); rintro e w1 ⟨rfl, hb⟩
         have hB1 := below_next hB hb
         have K1 := Kv.next hb
         have v0 := K1.cell 0
         have v1 := K1.cell 1
         have z1 := K1.lt
         have n1 := Nat.ne_of_lt z1)
      | (go_at_call 118; (with_reducible refine (c2 _).mono ?_); rintro e w2 ⟨rfl, rfl⟩))
    all_goals
      go_ret
      exact ⟨by first | rfl | (congr 2; simp; omega), below_al hB1 _⟩
  | true =>
    obtain ⟨⟨k1, k6⟩, p1, p27⟩ := has_ranges hh
    have hm : mayP p k n = (if k = 1 then decide (n = 0) else if k = 4 then decide (0 ≤ n ∧ n < 16777216) else if k = 5 then decide (0 ≤ n ∧ n < (wordsP p).length) else decide (n ≤ 63999999999 ∧ (0 ≤ n ∨ (belowP p = true ∧ -63999999999 ≤ n)))) := by unfold mayP; rw [hh, Bool.true_and]
    have hl := least_eq (p := p) (by omega) p27
    have cw := fun w => allWords_any cWords (toB (nameP p)) (kindsN p) (leastN p) (toB (wordsB p)) (firstP p).1 (firstP p).2 (wordsB_small p) w
    rw [show (toB (wordsB p)).data.toList = wordsB p from rfl, words_eq (by omega) p27] at cw
    rw [hh] at c2
    have hb3 : k = 3 → belowP p = false := by
      intro e
      subst e
      unfold hasP at hh
      simp only [show ¬ (3 : Int) = 1 by decide, show ¬ (3 : Int) = 2 by decide, if_false, if_true] at hh
      have := of_decide_eq_true hh
      unfold belowP
      exact decide_eq_false (by omega)
    generalize hbl : belowP p = bl at *
    generalize toB (nameP p) = a1 at *
    generalize kindsN p = a2 at *
    generalize leastN p = a3 at *
    generalize toB (wordsB p) = a4 at *
    generalize (firstP p).1 = a5 at *
    generalize (firstP p).2 = a6 at *
    generalize wordsP p = ws at *
    clear hh hbl
    rcases (by omega : k = 1 ∨ k = 2 ∨ k = 3 ∨ k = 4 ∨ k = 5 ∨ k = 6) with rfl | rfl | rfl | rfl | rfl | rfl
    · replace hm : mayP p 1 n = decide (n = 0) := hm
      by_cases h1 : n = 0
      · obtain rfl : R = true := HR.out.trans (hm.trans (decide_eq_true h1))
        clear hm HR
        subst h1
        go_enter Tryz.func79, Tryz.ntmps79
        go_wp2_with (first
          | (go_at_call 117; (with_reducible refine (c1 _).mono ?_); rintro e w1 ⟨rfl, hb⟩
             have hB1 := below_next hB hb
             have K1 := Kv.next hb
             have v0 := K1.cell 0
             have v1 := K1.cell 1
             have z1 := K1.lt
             have n1 := Nat.ne_of_lt z1)
          | (go_at_call 118; (with_reducible refine (c2 _).mono ?_); rintro e w2 ⟨rfl, rfl⟩))
        all_goals
          go_ret
          exact ⟨by first | rfl | (congr 2; simp; omega), below_al hB1 _⟩
      · obtain rfl : R = false := HR.out.trans (hm.trans (decide_eq_false h1))
        clear hm HR
        have h1b : (n == 0) = false := beq_eq_false_iff_ne.2 h1
        go_enter Tryz.func79, Tryz.ntmps79
        go_wp2_with (first
          | (go_at_call 117; (with_reducible refine (c1 _).mono ?_); rintro e w1 ⟨rfl, hb⟩
             have hB1 := below_next hB hb
             have K1 := Kv.next hb
             have v0 := K1.cell 0
             have v1 := K1.cell 1
             have z1 := K1.lt
             have n1 := Nat.ne_of_lt z1)
          | (go_at_call 118; (with_reducible refine (c2 _).mono ?_); rintro e w2 ⟨rfl, rfl⟩))
        all_goals
          go_ret
          exact ⟨by first | rfl | (congr 2; simp; omega), below_al hB1 _⟩
    · replace hm : mayP p 2 n = decide (n ≤ 63999999999 ∧ (0 ≤ n ∨ (bl = true ∧ -63999999999 ≤ n))) := hm
      have hl2 : a3 ≤ n ↔ (0 ≤ n ∨ (bl = true ∧ -63999999999 ≤ n)) := by
        rw [hl]
        cases bl
        · simp
        · simp; omega
      clear hl
      by_cases h1 : a3 ≤ n
      · by_cases h2 : n ≤ 63999999999
        · obtain rfl : R = true := HR.out.trans (hm.trans (decide_eq_true ⟨h2, hl2.1 h1⟩))
          clear hm HR hl2
          go_enter Tryz.func79, Tryz.ntmps79
          go_wp2_with (first
            | (go_at_call 117; (with_reducible refine (c1 _).mono ?_); rintro e w1 ⟨rfl, hb⟩
               have hB1 := below_next hB hb
               have K1 := Kv.next hb
               have v0 := K1.cell 0
               have v1 := K1.cell 1
               have z1 := K1.lt
               have n1 := Nat.ne_of_lt z1)
            | (go_at_call 118; (with_reducible refine (c2 _).mono ?_); rintro e w2 ⟨rfl, rfl⟩))
          all_goals
            go_ret
            exact ⟨by first | rfl | (congr 2; simp; omega), below_al hB1 _⟩
        · obtain rfl : R = false := HR.out.trans (hm.trans (decide_eq_false (fun h => h2 h.1)))
          clear hm HR hl2
          go_enter Tryz.func79, Tryz.ntmps79
          go_wp2_with (first
            | (go_at_call 117; (with_reducible refine (c1 _).mono ?_); rintro e w1 ⟨rfl, hb⟩
               have hB1 := below_next hB hb
               have K1 := Kv.next hb
               have v0 := K1.cell 0
               have v1 := K1.cell 1
               have z1 := K1.lt
               have n1 := Nat.ne_of_lt z1)
            | (go_at_call 118; (with_reducible refine (c2 _).mono ?_); rintro e w2 ⟨rfl, rfl⟩))
          all_goals
            go_ret
            exact ⟨by first | rfl | (congr 2; simp; omega), below_al hB1 _⟩
      · obtain rfl : R = false := HR.out.trans (hm.trans (decide_eq_false (fun h => h1 (hl2.2 h.2))))
        clear hm HR hl2
        go_enter Tryz.func79, Tryz.ntmps79
        go_wp2_with (first
          | (go_at_call 117; (with_reducible refine (c1 _).mono ?_); rintro e w1 ⟨rfl, hb⟩
             have hB1 := below_next hB hb
             have K1 := Kv.next hb
             have v0 := K1.cell 0
             have v1 := K1.cell 1
             have z1 := K1.lt
             have n1 := Nat.ne_of_lt z1)
          | (go_at_call 118; (with_reducible refine (c2 _).mono ?_); rintro e w2 ⟨rfl, rfl⟩))
        all_goals
          go_ret
          exact ⟨by first | rfl | (congr 2; simp; omega), below_al hB1 _⟩
    · replace hm : mayP p 3 n = decide (n ≤ 63999999999 ∧ (0 ≤ n ∨ (bl = true ∧ -63999999999 ≤ n))) := hm
      obtain rfl : bl = false := hb3 rfl
      by_cases h1 : 0 ≤ n
      · by_cases h2 : n ≤ 63999999999
        · obtain rfl : R = true := HR.out.trans (hm.trans (decide_eq_true (by omega)))
          clear hm HR
          go_enter Tryz.func79, Tryz.ntmps79
          go_wp2_with (first
            | (go_at_call 117; (with_reducible refine (c1 _).mono ?_); rintro e w1 ⟨rfl, hb⟩
               have hB1 := below_next hB hb
               have K1 := Kv.next hb
               have v0 := K1.cell 0
               have v1 := K1.cell 1
               have z1 := K1.lt
               have n1 := Nat.ne_of_lt z1)
            | (go_at_call 118; (with_reducible refine (c2 _).mono ?_); rintro e w2 ⟨rfl, rfl⟩))
          all_goals
            go_ret
            exact ⟨by first | rfl | (congr 2; simp; omega), below_al hB1 _⟩
        · obtain rfl : R = false := HR.out.trans (hm.trans (decide_eq_false (by omega)))
          clear hm HR
          go_enter Tryz.func79, Tryz.ntmps79
          go_wp2_with (first
            | (go_at_call 117; (with_reducible refine (c1 _).mono ?_); rintro e w1 ⟨rfl, hb⟩
               have hB1 := below_next hB hb
               have K1 := Kv.next hb
               have v0 := K1.cell 0
               have v1 := K1.cell 1
               have z1 := K1.lt
               have n1 := Nat.ne_of_lt z1)
            | (go_at_call 118; (with_reducible refine (c2 _).mono ?_); rintro e w2 ⟨rfl, rfl⟩))
          all_goals
            go_ret
            exact ⟨by first | rfl | (congr 2; simp; omega), below_al hB1 _⟩
      · obtain rfl : R = false := HR.out.trans (hm.trans (decide_eq_false (by simp; omega)))
        clear hm HR
        go_enter Tryz.func79, Tryz.ntmps79
        go_wp2_with (first
          | (go_at_call 117; (with_reducible refine (c1 _).mono ?_); rintro e w1 ⟨rfl, hb⟩
             have hB1 := below_next hB hb
             have K1 := Kv.next hb
             have v0 := K1.cell 0
             have v1 := K1.cell 1
             have z1 := K1.lt
             have n1 := Nat.ne_of_lt z1)
          | (go_at_call 118; (with_reducible refine (c2 _).mono ?_); rintro e w2 ⟨rfl, rfl⟩))
        all_goals
          go_ret
          exact ⟨by first | rfl | (congr 2; simp; omega), below_al hB1 _⟩
    · replace hm : mayP p 4 n = decide (0 ≤ n ∧ n < 16777216) := hm
      by_cases h1 : 0 ≤ n
      · by_cases h2 : n ≤ 16777215
        · obtain rfl : R = true := HR.out.trans (hm.trans (decide_eq_true (by omega)))
          clear hm HR
          go_enter Tryz.func79, Tryz.ntmps79
          go_wp2_with (first
            | (go_at_call 117; (with_reducible refine (c1 _).mono ?_); rintro e w1 ⟨rfl, hb⟩
               have hB1 := below_next hB hb
               have K1 := Kv.next hb
               have v0 := K1.cell 0
               have v1 := K1.cell 1
               have z1 := K1.lt
               have n1 := Nat.ne_of_lt z1)
            | (go_at_call 118; (with_reducible refine (c2 _).mono ?_); rintro e w2 ⟨rfl, rfl⟩))
          all_goals
            go_ret
            exact ⟨by first | rfl | (congr 2; simp; omega), below_al hB1 _⟩
        · obtain rfl : R = false := HR.out.trans (hm.trans (decide_eq_false (by omega)))
          clear hm HR
          go_enter Tryz.func79, Tryz.ntmps79
          go_wp2_with (first
            | (go_at_call 117; (with_reducible refine (c1 _).mono ?_); rintro e w1 ⟨rfl, hb⟩
               have hB1 := below_next hB hb
               have K1 := Kv.next hb
               have v0 := K1.cell 0
               have v1 := K1.cell 1
               have z1 := K1.lt
               have n1 := Nat.ne_of_lt z1)
            | (go_at_call 118; (with_reducible refine (c2 _).mono ?_); rintro e w2 ⟨rfl, rfl⟩))
          all_goals
            go_ret
            exact ⟨by first | rfl | (congr 2; simp; omega), below_al hB1 _⟩
      · obtain rfl : R = false := HR.out.trans (hm.trans (decide_eq_false (by omega)))
        clear hm HR
        go_enter Tryz.func79, Tryz.ntmps79
        go_wp2_with (first
          | (go_at_call 117; (with_reducible refine (c1 _).mono ?_); rintro e w1 ⟨rfl, hb⟩
             have hB1 := below_next hB hb
             have K1 := Kv.next hb
             have v0 := K1.cell 0
             have v1 := K1.cell 1
             have z1 := K1.lt
             have n1 := Nat.ne_of_lt z1)
          | (go_at_call 118; (with_reducible refine (c2 _).mono ?_); rintro e w2 ⟨rfl, rfl⟩))
        all_goals
          go_ret
          exact ⟨by first | rfl | (congr 2; simp; omega), below_al hB1 _⟩
    · replace hm : mayP p 5 n = decide (0 ≤ n ∧ n < (ws.length : Int)) := hm
      by_cases h1 : 0 ≤ n
      · by_cases h2 : n < (ws.length : Int)
        · obtain rfl : R = true := HR.out.trans (hm.trans (decide_eq_true ⟨h1, h2⟩))
          clear hm HR hl hb3
          go_enter Tryz.func79, Tryz.ntmps79
          go_wp2_with (first
            | (go_at_call 117; (with_reducible refine (c1 _).mono ?_); rintro e w1 ⟨rfl, hb⟩
               have hB1 := below_next hB hb
               have K1 := Kv.next hb
               have v0 := K1.cell 0
               have v1 := K1.cell 1
               have z1 := K1.lt
               have n1 := Nat.ne_of_lt z1)
            | (go_at_call 118; (with_reducible refine (c2 _).mono ?_); rintro e w2 ⟨rfl, rfl⟩))
          have hE := below_al hB1 (.cells #[.string a1, .int .i64 a2, .int .i64 a3, .string a4, .int .i64 a5, .int .i64 a6] 166)
          have Ke := K1.alloc (.cells #[.string a1, .int .i64 a2, .int .i64 a3, .string a4, .int .i64 a5, .int .i64 a6] 166)
          have Ks := Blk.new w1 166 #[.string a1, .int .i64 a2, .int .i64 a3, .string a4, .int .i64 a5, .int .i64 a6]
          clear v0 v1 z1 n1 K1 hB1
          generalize w1.alloc (.cells #[.string a1, .int .i64 a2, .int .i64 a3, .string a4, .int .i64 a5, .int .i64 a6] 166) = E at *
          have v0 := Ke.cell 0
          have v1 := Ke.cell 1
          have s0 := Ks.cell 0
          have s1 := Ks.cell 1
          have s2 := Ks.cell 2
          have s3 := Ks.cell 3
          have s4 := Ks.cell 4
          have s5 := Ks.cell 5
          have zv := Ke.lt
          have zs := Ks.lt
          first
          | (go_region_held3 (fun W' => (∀ b o, b < E.heap.size → W'.cell? ⟨b, o, none⟩ = E.cell? ⟨b, o, none⟩) ∧ Below E.heap.size E W')
              (first | assumption | exact ⟨fun _ _ _ => rfl, (Below.refl _ _).drew⟩ | exact sallv (by assumption) (by assumption))
              (first
                | (go_at_call 119; (with_reducible refine (cw _).mono ?_); rintro e w3 ⟨A, m, cp, rfl, hr, hb3⟩; obtain rfl : ws.length = m := by have h := hr.1; rw [show (strs ws).length = ws.length from by unfold strs; simp] at h; omega)))
          | (fail)
          rename_i hS
          go_wp2
          go_ret
          exact ⟨by first | rfl | (congr 2; simp; omega), below_next hE hS.2⟩
        · obtain rfl : R = false := HR.out.trans (hm.trans (decide_eq_false (fun h => h2 h.2)))
          clear hm HR hl hb3
          go_enter Tryz.func79, Tryz.ntmps79
          go_wp2_with (first
            | (go_at_call 117; (with_reducible refine (c1 _).mono ?_); rintro e w1 ⟨rfl, hb⟩
               have hB1 := below_next hB hb
               have K1 := Kv.next hb
               have v0 := K1.cell 0
               have v1 := K1.cell 1
               have z1 := K1.lt
               have n1 := Nat.ne_of_lt z1)
            | (go_at_call 118; (with_reducible refine (c2 _).mono ?_); rintro e w2 ⟨rfl, rfl⟩))
          have hE := below_al hB1 (.cells #[.string a1, .int .i64 a2, .int .i64 a3, .string a4, .int .i64 a5, .int .i64 a6] 166)
          have Ke := K1.alloc (.cells #[.string a1, .int .i64 a2, .int .i64 a3, .string a4, .int .i64 a5, .int .i64 a6] 166)
          have Ks := Blk.new w1 166 #[.string a1, .int .i64 a2, .int .i64 a3, .string a4, .int .i64 a5, .int .i64 a6]
          clear v0 v1 z1 n1 K1 hB1
          generalize w1.alloc (.cells #[.string a1, .int .i64 a2, .int .i64 a3, .string a4, .int .i64 a5, .int .i64 a6] 166) = E at *
          have v0 := Ke.cell 0
          have v1 := Ke.cell 1
          have s0 := Ks.cell 0
          have s1 := Ks.cell 1
          have s2 := Ks.cell 2
          have s3 := Ks.cell 3
          have s4 := Ks.cell 4
          have s5 := Ks.cell 5
          have zv := Ke.lt
          have zs := Ks.lt
          first
          | (go_region_held3 (fun W' => (∀ b o, b < E.heap.size → W'.cell? ⟨b, o, none⟩ = E.cell? ⟨b, o, none⟩) ∧ Below E.heap.size E W')
              (first | assumption | exact ⟨fun _ _ _ => rfl, (Below.refl _ _).drew⟩ | exact sallv (by assumption) (by assumption))
              (first
                | (go_at_call 119; (with_reducible refine (cw _).mono ?_); rintro e w3 ⟨A, m, cp, rfl, hr, hb3⟩; obtain rfl : ws.length = m := by have h := hr.1; rw [show (strs ws).length = ws.length from by unfold strs; simp] at h; omega)))
          | (fail)
          rename_i hS
          go_wp2
          go_ret
          exact ⟨by first | rfl | (congr 2; simp; omega), below_next hE hS.2⟩
      · obtain rfl : R = false := HR.out.trans (hm.trans (decide_eq_false (fun h => h1 h.1)))
        clear hm HR hl hb3
        go_enter Tryz.func79, Tryz.ntmps79
        go_wp2_with (first
          | (go_at_call 117; (with_reducible refine (c1 _).mono ?_); rintro e w1 ⟨rfl, hb⟩
             have hB1 := below_next hB hb
             have K1 := Kv.next hb
             have v0 := K1.cell 0
             have v1 := K1.cell 1
             have z1 := K1.lt
             have n1 := Nat.ne_of_lt z1)
          | (go_at_call 118; (with_reducible refine (c2 _).mono ?_); rintro e w2 ⟨rfl, rfl⟩))
        first | (go_region_with (fail)) | (fail)
        all_goals
          go_wp2
          go_ret
          exact ⟨rfl, below_dr (below_al hB1 _) 1⟩
    · replace hm : mayP p 6 n = decide (n ≤ 63999999999 ∧ (0 ≤ n ∨ (bl = true ∧ -63999999999 ≤ n))) := hm
      have hl2 : a3 ≤ n ↔ (0 ≤ n ∨ (bl = true ∧ -63999999999 ≤ n)) := by
        rw [hl]
        cases bl
        · simp
        · simp; omega
      clear hl
      by_cases h1 : a3 ≤ n
      · by_cases h2 : n ≤ 63999999999
        · obtain rfl : R = true := HR.out.trans (hm.trans (decide_eq_true ⟨h2, hl2.1 h1⟩))
          clear hm HR hl2
          go_enter Tryz.func79, Tryz.ntmps79
          go_wp2_with (first
            | (go_at_call 117; (with_reducible refine (c1 _).mono ?_); rintro e w1 ⟨rfl, hb⟩
               have hB1 := below_next hB hb
               have K1 := Kv.next hb
               have v0 := K1.cell 0
               have v1 := K1.cell 1
               have z1 := K1.lt
               have n1 := Nat.ne_of_lt z1)
            | (go_at_call 118; (with_reducible refine (c2 _).mono ?_); rintro e w2 ⟨rfl, rfl⟩))
          all_goals
            go_ret
            exact ⟨by first | rfl | (congr 2; simp; omega), below_al hB1 _⟩
        · obtain rfl : R = false := HR.out.trans (hm.trans (decide_eq_false (fun h => h2 h.1)))
          clear hm HR hl2
          go_enter Tryz.func79, Tryz.ntmps79
          go_wp2_with (first
            | (go_at_call 117; (with_reducible refine (c1 _).mono ?_); rintro e w1 ⟨rfl, hb⟩
               have hB1 := below_next hB hb
               have K1 := Kv.next hb
               have v0 := K1.cell 0
               have v1 := K1.cell 1
               have z1 := K1.lt
               have n1 := Nat.ne_of_lt z1)
            | (go_at_call 118; (with_reducible refine (c2 _).mono ?_); rintro e w2 ⟨rfl, rfl⟩))
          all_goals
            go_ret
            exact ⟨by first | rfl | (congr 2; simp; omega), below_al hB1 _⟩
      · obtain rfl : R = false := HR.out.trans (hm.trans (decide_eq_false (fun h => h1 (hl2.2 h.2))))
        clear hm HR hl2
        go_enter Tryz.func79, Tryz.ntmps79
        go_wp2_with (first
          | (go_at_call 117; (with_reducible refine (c1 _).mono ?_); rintro e w1 ⟨rfl, hb⟩
             have hB1 := below_next hB hb
             have K1 := Kv.next hb
             have v0 := K1.cell 0
             have v1 := K1.cell 1
             have z1 := K1.lt
             have n1 := Nat.ne_of_lt z1)
          | (go_at_call 118; (with_reducible refine (c2 _).mono ?_); rintro e w2 ⟨rfl, rfl⟩))
        all_goals
          go_ret
          exact ⟨by first | rfl | (congr 2; simp; omega), below_al hB1 _⟩
end Val
end Go.Proofs.YtdfcahdipalmkaaGreatDoor
