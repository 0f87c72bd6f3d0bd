/- ValueBack's walk, from what value's functions answer. Conditions: those answers. -/
import Derived.Test.YtcacabpcobmgoaaGreatDoorValAwake
namespace Go.Proofs.YtcacabpcobmgoaaGreatDoor
open Go.ChangeShapes Go.WideShapes Go.ChangeAt Go.RowKit
theorem fracs_len : ∀ r : Fin 64, (fracs r.val).length ≤ 7 := by decide +kernel
theorem decL_len {n : Int} (h1 : -63999999999 ≤ n) (h2 : n ≤ 63999999999) : (decL n).length ≤ 17 := by
  have key : ∀ m : Nat, m ≤ 63999999999 → (decU m).length ≤ 16 := by
    intro m hm
    have h := dec_ok (u := m / 64) (by omega)
    unfold okD at h
    rw [Bool.and_eq_true, Bool.and_eq_true] at h
    have hl := of_decide_eq_true h.1.2
    have hf := fracs_len ⟨m % 64, Nat.mod_lt _ (by omega)⟩
    simp only at hf
    unfold decU
    rw [List.length_append]
    omega
  unfold decL
  split
  · have := key n.natAbs (by omega)
    simp only [List.length_cons]
    omega
  · have := key n.toNat (by omega)
    omega
theorem words_short : ∀ p : Fin 27, ∀ i : Fin 5, ((wordsP p.val).getD i.val []).length ≤ 10 := by decide
theorem print_len (p k n : Int) : (printP p k n).length ≤ 20 := by
  unfold printP
  by_cases h : mayP p k n = true
  · rw [if_pos h]
    have hh : hasP p k = true := by unfold mayP at h; rw [Bool.and_eq_true] at h; exact h.1
    obtain ⟨q, hq⟩ := nat_of hh
    rcases kind_has hh with rfl | rfl | rfl | rfl | rfl | rfl
    · show ([97, 117, 116, 111] : List UInt8).length ≤ 20; decide
    · show (decL n ++ [112, 120]).length ≤ 20
      have := decL_len (range_of h (by omega)).1 (range_of h (by omega)).2
      simp only [List.length_append, List.length_cons, List.length_nil]; omega
    · show (decL n ++ [37]).length ≤ 20
      have := decL_len (range_of h (by omega)).1 (range_of h (by omega)).2
      simp only [List.length_append, List.length_cons, List.length_nil]; omega
    · show (35 :: hex6 n.toNat).length ≤ 20
      unfold hex6
      simp
    · have hn : 0 ≤ n ∧ n < (wordsP p).length := by unfold mayP at h; rw [Bool.and_eq_true] at h; exact of_decide_eq_true h.2
      have hl : (wordsP p).length ≤ 4 := by
        have : ∀ q : Fin 27, (wordsP q.val).length ≤ 4 := by decide
        rw [hq]; exact this q
      have := words_short q ⟨n.toNat, by omega⟩
      rw [← hq] at this
      simp only at this
      show ((wordsP p).getD n.toNat []).length ≤ 20
      omega
    · have := decL_len (range_of h (by omega)).1 (range_of h (by omega)).2
      show (decL n).length ≤ 20
      omega
  · rw [if_neg h]; exact Nat.zero_le _
/-- The printed text of what may be is not empty: nothing wants it, but 'is' tells it. -/
theorem read_print (p k n : Int) : readF p (printP p k n) = if mayP p k n then some (k, n) else none := by
  cases h : mayP p k n with
  | true => rw [print_may h]; rfl
  | false => rw [(print_not h).2]; rfl
namespace valueBack
set_option maxHeartbeats 8000000 in
theorem walk (cAwake : ∀ w, Val.Tabs w → Calls Tryz.prog 7 #[] w fun e w' => e = .returned (.bool true) ∧ Below w.heap.size w w') (cRead : Val.ReadC) (cMay : Val.MayC) (cPrint : Val.PrintC)
    (p k n : Int) (s : ByteArray) (hs : s.size ≤ maxLen) (w : World) (hT : Val.Tabs w) :
    Calls Tryz.prog 4 #[.int .i64 p, .agg #[.int .i64 k, .int .i64 n], .string s] w fun e w' => e = .returned (.bool true) ∧ Below w.heap.size w w' := by
  unfold maxLen at hs
  by_cases h5 : 200 < s.size
  · go_enter Tryz.func4, Tryz.ntmps4
    go_wp2_with (go_at_call 7; refine (cAwake _ (hT.at_ (by first | with_reducible assumption | with_reducible exact below_al (by with_reducible assumption) _ | with_reducible exact below_al (below_al (by with_reducible assumption) _) _ | with_reducible exact below_al (below_al (below_al (by with_reducible assumption) _) _) _ | with_reducible exact Below.refl _ _ | with_reducible exact below_al (Below.refl _ _) _ | with_reducible exact below_al (below_al (Below.refl _ _) _) _))).mono ?_; rintro e w1 ⟨rfl, hb⟩)
    go_ret
    exact ⟨rfl, below_next (below_al (Below.refl _ _) _) hb⟩
  have h5' : s.size ≤ 200 := by omega
  clear h5 hs
  have hB := Below.refl w.heap.size w
  have c1 := fun w => cPrint p k n w
  have c2 := fun w => cRead p (toB (printP p k n)) w (by rw [toB_size]; have := print_len p k n; unfold mostB; omega)
  rw [show (toB (printP p k n)).data.toList = printP p k n from rfl, read_print] at c2
  have c3 := fun w => cMay p k n w
  have c4 := fun w => cRead p s w (by unfold mostB; omega)
  -- the second half's three calls, where something was read
  have key : ∀ k2 n2, readF p s.data.toList = some (k2, n2) → (∀ w, Val.Tabs w → Calls Tryz.prog 16 #[.int .i64 p, .agg #[.int .i64 k2, .int .i64 n2]] w fun e w' => e = .returned (.string (toB (printP p k2 n2))) ∧ Below w.heap.size w w') ∧
      (∀ w, Val.Tabs w → Calls Tryz.prog 8 #[.int .i64 p, .string (toB (printP p k2 n2))] w fun e w' => e = .returned (.tuple #[.agg #[.int .i64 k2, .int .i64 n2], .bool true]) ∧ Below w.heap.size w w') ∧
      (∀ w, Calls Tryz.prog 14 #[.int .i64 p, .agg #[.int .i64 k2, .int .i64 n2]] w fun e w' => e = .returned (.bool true) ∧ Below w.heap.size w w') := by
    intro k2 n2 h
    have hm := read_may (p := p) (l := lowL (trimL s.data.toList)) h
    refine ⟨fun w => cPrint p k2 n2 w, fun w => ?_, fun w => ?_⟩
    · have := cRead p (toB (printP p k2 n2)) w (by rw [toB_size]; have := print_len p k2 n2; unfold mostB; omega)
      rwa [show (toB (printP p k2 n2)).data.toList = printP p k2 n2 from rfl, print_may hm] at this
    · have := cMay p k2 n2 w
      rwa [hm] at this
  clear cPrint cRead cMay
  cases hm : mayP p k n with
  | true =>
    rw [hm] at c2 c3
    simp only [if_true, vO, Option.isSome_some] at c2
    unfold vV at *
    generalize toB (printP p k n) = t1 at *
    cases hr : readF p s.data.toList with
    | none =>
      rw [hr] at c4
      simp only [vO, Option.isSome_none] at c4
      unfold vV at *
      clear key hr hm
      have d1 := c1
      have d2 := c2
      have d3 := c3
      go_enter Tryz.func4, Tryz.ntmps4
      go_wp2_with (first
        | (go_at_call 7; (with_reducible refine (cAwake _ (hT.at_ (by first | with_reducible assumption | with_reducible exact below_al (by with_reducible assumption) _ | with_reducible exact below_al (below_al (by with_reducible assumption) _) _ | with_reducible exact below_al (below_al (below_al (by with_reducible assumption) _) _) _ | with_reducible exact Below.refl _ _ | with_reducible exact below_al (Below.refl _ _) _ | with_reducible exact below_al (below_al (Below.refl _ _) _) _))).mono ?_); rintro e w1 ⟨rfl, hb⟩
           have hB1 := below_next (below_al hB _) hb
           have Kv1 := (Blk.new w 23 #[.int .i64 k, .int .i64 n]).next hb
           obtain ⟨kv0, kv1⟩ := blk2 Kv1
           have zv := Kv1.lt
           have nv := Nat.ne_of_lt zv
           clear hb)
        | (go_at_call 16; (with_reducible refine (c1 _ (hT.at_ (by first | with_reducible assumption | with_reducible exact below_al (by with_reducible assumption) _ | with_reducible exact below_al (below_al (by with_reducible assumption) _) _ | with_reducible exact below_al (below_al (below_al (by with_reducible assumption) _) _) _ | with_reducible exact Below.refl _ _ | with_reducible exact below_al (Below.refl _ _) _ | with_reducible exact below_al (below_al (Below.refl _ _) _) _))).mono ?_); rintro e w2 ⟨rfl, hb⟩
           have hB2 := below_next hB1 hb
           have Kv2 := Kv1.next hb
           clear kv0 kv1 zv nv
           obtain ⟨kv0, kv1⟩ := blk2 Kv2
           have zv := Kv2.lt
           have nv := Nat.ne_of_lt zv
           clear hb)
        | (go_at_call 8; (with_reducible refine (c2 _ (hT.at_ (by first | with_reducible assumption | with_reducible exact below_al (by with_reducible assumption) _ | with_reducible exact below_al (below_al (by with_reducible assumption) _) _ | with_reducible exact below_al (below_al (below_al (by with_reducible assumption) _) _) _ | with_reducible exact Below.refl _ _ | with_reducible exact below_al (Below.refl _ _) _ | with_reducible exact below_al (below_al (Below.refl _ _) _) _))).mono ?_); rintro e w3 ⟨rfl, hb⟩
           have hB3 := below_next hB2 hb
           have Kv3 := Kv2.next hb
           clear kv0 kv1 zv nv
           obtain ⟨kv0, kv1⟩ := blk2 Kv3
           have zv := Kv3.lt
           have nv := Nat.ne_of_lt zv
           clear hb)
        | (go_at_call 14; (with_reducible refine (c3 _).mono ?_); rintro e w4 ⟨rfl, hb⟩
           have hB4 := below_next (below_al hB3 _) hb
           have Kv4 := (Kv3.alloc _).next hb
           clear kv0 kv1 zv nv
           have Kw4 := (Blk.new w3 23 #[.int .i64 k, .int .i64 n]).next hb
           obtain ⟨kv0, kv1⟩ := blk2 Kv4
           have zv := Kv4.lt
           have nv := Nat.ne_of_lt zv
           obtain ⟨kw0, kw1⟩ := blk2 Kw4
           have zw := Kw4.lt
           have nw := Nat.ne_of_lt zw
           clear hb)
        | (go_at_call 8; (with_reducible refine (c4 _ (hT.at_ (by first | with_reducible assumption | with_reducible exact below_al (by with_reducible assumption) _ | with_reducible exact below_al (below_al (by with_reducible assumption) _) _ | with_reducible exact below_al (below_al (below_al (by with_reducible assumption) _) _) _ | with_reducible exact Below.refl _ _ | with_reducible exact below_al (Below.refl _ _) _ | with_reducible exact below_al (below_al (Below.refl _ _) _) _))).mono ?_); rintro e w5 ⟨rfl, hb⟩
           have hB5 := below_next hB4 hb
           have Kv5 := Kv4.next hb
           clear kv0 kv1 zv nv
           have Kw5 := Kw4.next hb
           clear kw0 kw1 zw nw
           obtain ⟨kv0, kv1⟩ := blk2 Kv5
           have zv := Kv5.lt
           have nv := Nat.ne_of_lt zv
           obtain ⟨kw0, kw1⟩ := blk2 Kw5
           have zw := Kw5.lt
           have nw := Nat.ne_of_lt zw
           clear hb))
      go_ret
      exact ⟨rfl, below_al hB5 _⟩
    | some r =>
      obtain ⟨k2, n2⟩ := r
      obtain ⟨d1, d2, d3⟩ := key k2 n2 hr
      rw [hr] at c4
      simp only [vO, Option.isSome_some] at c4
      unfold vV at *
      clear key hr hm
      generalize toB (printP p k2 n2) = t2 at *
      go_enter Tryz.func4, Tryz.ntmps4
      go_wp2_with (first
        | (go_at_call 7; (with_reducible refine (cAwake _ (hT.at_ (by first | with_reducible assumption | with_reducible exact below_al (by with_reducible assumption) _ | with_reducible exact below_al (below_al (by with_reducible assumption) _) _ | with_reducible exact below_al (below_al (below_al (by with_reducible assumption) _) _) _ | with_reducible exact Below.refl _ _ | with_reducible exact below_al (Below.refl _ _) _ | with_reducible exact below_al (below_al (Below.refl _ _) _) _))).mono ?_); rintro e w1 ⟨rfl, hb⟩
           have hB1 := below_next (below_al hB _) hb
           have Kv1 := (Blk.new w 23 #[.int .i64 k, .int .i64 n]).next hb
           obtain ⟨kv0, kv1⟩ := blk2 Kv1
           have zv := Kv1.lt
           have nv := Nat.ne_of_lt zv
           clear hb)
        | (go_at_call 16; (with_reducible refine (c1 _ (hT.at_ (by first | with_reducible assumption | with_reducible exact below_al (by with_reducible assumption) _ | with_reducible exact below_al (below_al (by with_reducible assumption) _) _ | with_reducible exact below_al (below_al (below_al (by with_reducible assumption) _) _) _ | with_reducible exact Below.refl _ _ | with_reducible exact below_al (Below.refl _ _) _ | with_reducible exact below_al (below_al (Below.refl _ _) _) _))).mono ?_); rintro e w2 ⟨rfl, hb⟩
           have hB2 := below_next hB1 hb
           have Kv2 := Kv1.next hb
           clear kv0 kv1 zv nv
           obtain ⟨kv0, kv1⟩ := blk2 Kv2
           have zv := Kv2.lt
           have nv := Nat.ne_of_lt zv
           clear hb)
        | (go_at_call 8; (with_reducible refine (c2 _ (hT.at_ (by first | with_reducible assumption | with_reducible exact below_al (by with_reducible assumption) _ | with_reducible exact below_al (below_al (by with_reducible assumption) _) _ | with_reducible exact below_al (below_al (below_al (by with_reducible assumption) _) _) _ | with_reducible exact Below.refl _ _ | with_reducible exact below_al (Below.refl _ _) _ | with_reducible exact below_al (below_al (Below.refl _ _) _) _))).mono ?_); rintro e w3 ⟨rfl, hb⟩
           have hB3 := below_next hB2 hb
           have Kv3 := Kv2.next hb
           clear kv0 kv1 zv nv
           obtain ⟨kv0, kv1⟩ := blk2 Kv3
           have zv := Kv3.lt
           have nv := Nat.ne_of_lt zv
           clear hb)
        | (go_at_call 14; (with_reducible refine (c3 _).mono ?_); rintro e w4 ⟨rfl, hb⟩
           have hB4 := below_next (below_al hB3 _) hb
           have Kv4 := (Kv3.alloc _).next hb
           clear kv0 kv1 zv nv
           have Kw4 := (Blk.new w3 23 #[.int .i64 k, .int .i64 n]).next hb
           obtain ⟨kv0, kv1⟩ := blk2 Kv4
           have zv := Kv4.lt
           have nv := Nat.ne_of_lt zv
           obtain ⟨kw0, kw1⟩ := blk2 Kw4
           have zw := Kw4.lt
           have nw := Nat.ne_of_lt zw
           clear hb)
        | (go_at_call 8; (with_reducible refine (c4 _ (hT.at_ (by first | with_reducible assumption | with_reducible exact below_al (by with_reducible assumption) _ | with_reducible exact below_al (below_al (by with_reducible assumption) _) _ | with_reducible exact below_al (below_al (below_al (by with_reducible assumption) _) _) _ | with_reducible exact Below.refl _ _ | with_reducible exact below_al (Below.refl _ _) _ | with_reducible exact below_al (below_al (Below.refl _ _) _) _))).mono ?_); rintro e w5 ⟨rfl, hb⟩
           have hB5 := below_next hB4 hb
           have Kv5 := Kv4.next hb
           clear kv0 kv1 zv nv
           have Kw5 := Kw4.next hb
           clear kw0 kw1 zw nw
           obtain ⟨kv0, kv1⟩ := blk2 Kv5
           have zv := Kv5.lt
           have nv := Nat.ne_of_lt zv
           obtain ⟨kw0, kw1⟩ := blk2 Kw5
           have zw := Kw5.lt
           have nw := Nat.ne_of_lt zw
           clear hb)
        | (go_at_call 16; (with_reducible refine (d1 _ (hT.at_ (by first | with_reducible assumption | with_reducible exact below_al (by with_reducible assumption) _ | with_reducible exact below_al (below_al (by with_reducible assumption) _) _ | with_reducible exact below_al (below_al (below_al (by with_reducible assumption) _) _) _ | with_reducible exact Below.refl _ _ | with_reducible exact below_al (Below.refl _ _) _ | with_reducible exact below_al (below_al (Below.refl _ _) _) _))).mono ?_); rintro e w6 ⟨rfl, hb⟩
           have hB6 := below_next (below_al hB5 _) hb
           have Kv6 := (Kv5.alloc _).next hb
           clear kv0 kv1 zv nv
           have Kw6 := (Kw5.alloc _).next hb
           clear kw0 kw1 zw nw
           have Kx6 := (Blk.new w5 23 #[.int .i64 k2, .int .i64 n2]).next hb
           obtain ⟨kv0, kv1⟩ := blk2 Kv6
           have zv := Kv6.lt
           have nv := Nat.ne_of_lt zv
           obtain ⟨kw0, kw1⟩ := blk2 Kw6
           have zw := Kw6.lt
           have nw := Nat.ne_of_lt zw
           obtain ⟨kx0, kx1⟩ := blk2 Kx6
           have zx := Kx6.lt
           have nx := Nat.ne_of_lt zx
           clear hb)
        | (go_at_call 8; (with_reducible refine (d2 _ (hT.at_ (by first | with_reducible assumption | with_reducible exact below_al (by with_reducible assumption) _ | with_reducible exact below_al (below_al (by with_reducible assumption) _) _ | with_reducible exact below_al (below_al (below_al (by with_reducible assumption) _) _) _ | with_reducible exact Below.refl _ _ | with_reducible exact below_al (Below.refl _ _) _ | with_reducible exact below_al (below_al (Below.refl _ _) _) _))).mono ?_); rintro e w7 ⟨rfl, hb⟩
           have hB7 := below_next hB6 hb
           have Kv7 := Kv6.next hb
           clear kv0 kv1 zv nv
           have Kw7 := Kw6.next hb
           clear kw0 kw1 zw nw
           have Kx7 := Kx6.next hb
           clear kx0 kx1 zx nx
           obtain ⟨kv0, kv1⟩ := blk2 Kv7
           have zv := Kv7.lt
           have nv := Nat.ne_of_lt zv
           obtain ⟨kw0, kw1⟩ := blk2 Kw7
           have zw := Kw7.lt
           have nw := Nat.ne_of_lt zw
           obtain ⟨kx0, kx1⟩ := blk2 Kx7
           have zx := Kx7.lt
           have nx := Nat.ne_of_lt zx
           clear hb)
        | (go_at_call 14; (with_reducible refine (d3 _).mono ?_); rintro e w8 ⟨rfl, hb⟩
           have hB8 := below_next (below_al hB7 _) hb
           have Kv8 := (Kv7.alloc _).next hb
           clear kv0 kv1 zv nv
           have Kw8 := (Kw7.alloc _).next hb
           clear kw0 kw1 zw nw
           have Kx8 := (Kx7.alloc _).next hb
           clear kx0 kx1 zx nx
           have Ky8 := (Blk.new w7 23 #[.int .i64 k2, .int .i64 n2]).next hb
           obtain ⟨kv0, kv1⟩ := blk2 Kv8
           have zv := Kv8.lt
           have nv := Nat.ne_of_lt zv
           obtain ⟨kw0, kw1⟩ := blk2 Kw8
           have zw := Kw8.lt
           have nw := Nat.ne_of_lt zw
           obtain ⟨kx0, kx1⟩ := blk2 Kx8
           have zx := Kx8.lt
           have nx := Nat.ne_of_lt zx
           obtain ⟨ky0, ky1⟩ := blk2 Ky8
           have zy := Ky8.lt
           have ny := Nat.ne_of_lt zy
           clear hb))
      go_ret
      exact ⟨rfl, hB8⟩
  | false =>
    rw [hm] at c2 c3
    rw [(print_not hm).1, show toB [] = ⟨#[]⟩ from rfl] at c1 c2
    simp only [Bool.false_eq_true, if_false, vO, Option.isSome_none] at c2
    unfold vV at *
    cases hr : readF p s.data.toList with
    | none =>
      rw [hr] at c4
      simp only [vO, Option.isSome_none] at c4
      unfold vV at *
      clear key hr hm
      have d1 := c1
      have d2 := c2
      have d3 := c3
      go_enter Tryz.func4, Tryz.ntmps4
      go_wp2_with (first
        | (go_at_call 7; (with_reducible refine (cAwake _ (hT.at_ (by first | with_reducible assumption | with_reducible exact below_al (by with_reducible assumption) _ | with_reducible exact below_al (below_al (by with_reducible assumption) _) _ | with_reducible exact below_al (below_al (below_al (by with_reducible assumption) _) _) _ | with_reducible exact Below.refl _ _ | with_reducible exact below_al (Below.refl _ _) _ | with_reducible exact below_al (below_al (Below.refl _ _) _) _))).mono ?_); rintro e w1 ⟨rfl, hb⟩
           have hB1 := below_next (below_al hB _) hb
           have Kv1 := (Blk.new w 23 #[.int .i64 k, .int .i64 n]).next hb
           obtain ⟨kv0, kv1⟩ := blk2 Kv1
           have zv := Kv1.lt
           have nv := Nat.ne_of_lt zv
           clear hb)
        | (go_at_call 16; (with_reducible refine (c1 _ (hT.at_ (by first | with_reducible assumption | with_reducible exact below_al (by with_reducible assumption) _ | with_reducible exact below_al (below_al (by with_reducible assumption) _) _ | with_reducible exact below_al (below_al (below_al (by with_reducible assumption) _) _) _ | with_reducible exact Below.refl _ _ | with_reducible exact below_al (Below.refl _ _) _ | with_reducible exact below_al (below_al (Below.refl _ _) _) _))).mono ?_); rintro e w2 ⟨rfl, hb⟩
           have hB2 := below_next hB1 hb
           have Kv2 := Kv1.next hb
           clear kv0 kv1 zv nv
           obtain ⟨kv0, kv1⟩ := blk2 Kv2
           have zv := Kv2.lt
           have nv := Nat.ne_of_lt zv
           clear hb)
        | (go_at_call 8; (with_reducible refine (c2 _ (hT.at_ (by first | with_reducible assumption | with_reducible exact below_al (by with_reducible assumption) _ | with_reducible exact below_al (below_al (by with_reducible assumption) _) _ | with_reducible exact below_al (below_al (below_al (by with_reducible assumption) _) _) _ | with_reducible exact Below.refl _ _ | with_reducible exact below_al (Below.refl _ _) _ | with_reducible exact below_al (below_al (Below.refl _ _) _) _))).mono ?_); rintro e w3 ⟨rfl, hb⟩
           have hB3 := below_next hB2 hb
           have Kv3 := Kv2.next hb
           clear kv0 kv1 zv nv
           obtain ⟨kv0, kv1⟩ := blk2 Kv3
           have zv := Kv3.lt
           have nv := Nat.ne_of_lt zv
           clear hb)
        | (go_at_call 14; (with_reducible refine (c3 _).mono ?_); rintro e w4 ⟨rfl, hb⟩
           have hB4 := below_next (below_al hB3 _) hb
           have Kv4 := (Kv3.alloc _).next hb
           clear kv0 kv1 zv nv
           have Kw4 := (Blk.new w3 23 #[.int .i64 0, .int .i64 0]).next hb
           obtain ⟨kv0, kv1⟩ := blk2 Kv4
           have zv := Kv4.lt
           have nv := Nat.ne_of_lt zv
           obtain ⟨kw0, kw1⟩ := blk2 Kw4
           have zw := Kw4.lt
           have nw := Nat.ne_of_lt zw
           clear hb)
        | (go_at_call 8; (with_reducible refine (c4 _ (hT.at_ (by first | with_reducible assumption | with_reducible exact below_al (by with_reducible assumption) _ | with_reducible exact below_al (below_al (by with_reducible assumption) _) _ | with_reducible exact below_al (below_al (below_al (by with_reducible assumption) _) _) _ | with_reducible exact Below.refl _ _ | with_reducible exact below_al (Below.refl _ _) _ | with_reducible exact below_al (below_al (Below.refl _ _) _) _))).mono ?_); rintro e w5 ⟨rfl, hb⟩
           have hB5 := below_next hB4 hb
           have Kv5 := Kv4.next hb
           clear kv0 kv1 zv nv
           have Kw5 := Kw4.next hb
           clear kw0 kw1 zw nw
           obtain ⟨kv0, kv1⟩ := blk2 Kv5
           have zv := Kv5.lt
           have nv := Nat.ne_of_lt zv
           obtain ⟨kw0, kw1⟩ := blk2 Kw5
           have zw := Kw5.lt
           have nw := Nat.ne_of_lt zw
           clear hb))
      go_ret
      exact ⟨rfl, below_al hB5 _⟩
    | some r =>
      obtain ⟨k2, n2⟩ := r
      obtain ⟨d1, d2, d3⟩ := key k2 n2 hr
      rw [hr] at c4
      simp only [vO, Option.isSome_some] at c4
      unfold vV at *
      clear key hr hm
      generalize toB (printP p k2 n2) = t2 at *
      go_enter Tryz.func4, Tryz.ntmps4
      go_wp2_with (first
        | (go_at_call 7; (with_reducible refine (cAwake _ (hT.at_ (by first | with_reducible assumption | with_reducible exact below_al (by with_reducible assumption) _ | with_reducible exact below_al (below_al (by with_reducible assumption) _) _ | with_reducible exact below_al (below_al (below_al (by with_reducible assumption) _) _) _ | with_reducible exact Below.refl _ _ | with_reducible exact below_al (Below.refl _ _) _ | with_reducible exact below_al (below_al (Below.refl _ _) _) _))).mono ?_); rintro e w1 ⟨rfl, hb⟩
           have hB1 := below_next (below_al hB _) hb
           have Kv1 := (Blk.new w 23 #[.int .i64 k, .int .i64 n]).next hb
           obtain ⟨kv0, kv1⟩ := blk2 Kv1
           have zv := Kv1.lt
           have nv := Nat.ne_of_lt zv
           clear hb)
        | (go_at_call 16; (with_reducible refine (c1 _ (hT.at_ (by first | with_reducible assumption | with_reducible exact below_al (by with_reducible assumption) _ | with_reducible exact below_al (below_al (by with_reducible assumption) _) _ | with_reducible exact below_al (below_al (below_al (by with_reducible assumption) _) _) _ | with_reducible exact Below.refl _ _ | with_reducible exact below_al (Below.refl _ _) _ | with_reducible exact below_al (below_al (Below.refl _ _) _) _))).mono ?_); rintro e w2 ⟨rfl, hb⟩
           have hB2 := below_next hB1 hb
           have Kv2 := Kv1.next hb
           clear kv0 kv1 zv nv
           obtain ⟨kv0, kv1⟩ := blk2 Kv2
           have zv := Kv2.lt
           have nv := Nat.ne_of_lt zv
           clear hb)
        | (go_at_call 8; (with_reducible refine (c2 _ (hT.at_ (by first | with_reducible assumption | with_reducible exact below_al (by with_reducible assumption) _ | with_reducible exact below_al (below_al (by with_reducible assumption) _) _ | with_reducible exact below_al (below_al (below_al (by with_reducible assumption) _) _) _ | with_reducible exact Below.refl _ _ | with_reducible exact below_al (Below.refl _ _) _ | with_reducible exact below_al (below_al (Below.refl _ _) _) _))).mono ?_); rintro e w3 ⟨rfl, hb⟩
           have hB3 := below_next hB2 hb
           have Kv3 := Kv2.next hb
           clear kv0 kv1 zv nv
           obtain ⟨kv0, kv1⟩ := blk2 Kv3
           have zv := Kv3.lt
           have nv := Nat.ne_of_lt zv
           clear hb)
        | (go_at_call 14; (with_reducible refine (c3 _).mono ?_); rintro e w4 ⟨rfl, hb⟩
           have hB4 := below_next (below_al hB3 _) hb
           have Kv4 := (Kv3.alloc _).next hb
           clear kv0 kv1 zv nv
           have Kw4 := (Blk.new w3 23 #[.int .i64 0, .int .i64 0]).next hb
           obtain ⟨kv0, kv1⟩ := blk2 Kv4
           have zv := Kv4.lt
           have nv := Nat.ne_of_lt zv
           obtain ⟨kw0, kw1⟩ := blk2 Kw4
           have zw := Kw4.lt
           have nw := Nat.ne_of_lt zw
           clear hb)
        | (go_at_call 8; (with_reducible refine (c4 _ (hT.at_ (by first | with_reducible assumption | with_reducible exact below_al (by with_reducible assumption) _ | with_reducible exact below_al (below_al (by with_reducible assumption) _) _ | with_reducible exact below_al (below_al (below_al (by with_reducible assumption) _) _) _ | with_reducible exact Below.refl _ _ | with_reducible exact below_al (Below.refl _ _) _ | with_reducible exact below_al (below_al (Below.refl _ _) _) _))).mono ?_); rintro e w5 ⟨rfl, hb⟩
           have hB5 := below_next hB4 hb
           have Kv5 := Kv4.next hb
           clear kv0 kv1 zv nv
           have Kw5 := Kw4.next hb
           clear kw0 kw1 zw nw
           obtain ⟨kv0, kv1⟩ := blk2 Kv5
           have zv := Kv5.lt
           have nv := Nat.ne_of_lt zv
           obtain ⟨kw0, kw1⟩ := blk2 Kw5
           have zw := Kw5.lt
           have nw := Nat.ne_of_lt zw
           clear hb)
        | (go_at_call 16; (with_reducible refine (d1 _ (hT.at_ (by first | with_reducible assumption | with_reducible exact below_al (by with_reducible assumption) _ | with_reducible exact below_al (below_al (by with_reducible assumption) _) _ | with_reducible exact below_al (below_al (below_al (by with_reducible assumption) _) _) _ | with_reducible exact Below.refl _ _ | with_reducible exact below_al (Below.refl _ _) _ | with_reducible exact below_al (below_al (Below.refl _ _) _) _))).mono ?_); rintro e w6 ⟨rfl, hb⟩
           have hB6 := below_next (below_al hB5 _) hb
           have Kv6 := (Kv5.alloc _).next hb
           clear kv0 kv1 zv nv
           have Kw6 := (Kw5.alloc _).next hb
           clear kw0 kw1 zw nw
           have Kx6 := (Blk.new w5 23 #[.int .i64 k2, .int .i64 n2]).next hb
           obtain ⟨kv0, kv1⟩ := blk2 Kv6
           have zv := Kv6.lt
           have nv := Nat.ne_of_lt zv
           obtain ⟨kw0, kw1⟩ := blk2 Kw6
           have zw := Kw6.lt
           have nw := Nat.ne_of_lt zw
           obtain ⟨kx0, kx1⟩ := blk2 Kx6
           have zx := Kx6.lt
           have nx := Nat.ne_of_lt zx
           clear hb)
        | (go_at_call 8; (with_reducible refine (d2 _ (hT.at_ (by first | with_reducible assumption | with_reducible exact below_al (by with_reducible assumption) _ | with_reducible exact below_al (below_al (by with_reducible assumption) _) _ | with_reducible exact below_al (below_al (below_al (by with_reducible assumption) _) _) _ | with_reducible exact Below.refl _ _ | with_reducible exact below_al (Below.refl _ _) _ | with_reducible exact below_al (below_al (Below.refl _ _) _) _))).mono ?_); rintro e w7 ⟨rfl, hb⟩
           have hB7 := below_next hB6 hb
           have Kv7 := Kv6.next hb
           clear kv0 kv1 zv nv
           have Kw7 := Kw6.next hb
           clear kw0 kw1 zw nw
           have Kx7 := Kx6.next hb
           clear kx0 kx1 zx nx
           obtain ⟨kv0, kv1⟩ := blk2 Kv7
           have zv := Kv7.lt
           have nv := Nat.ne_of_lt zv
           obtain ⟨kw0, kw1⟩ := blk2 Kw7
           have zw := Kw7.lt
           have nw := Nat.ne_of_lt zw
           obtain ⟨kx0, kx1⟩ := blk2 Kx7
           have zx := Kx7.lt
           have nx := Nat.ne_of_lt zx
           clear hb)
        | (go_at_call 14; (with_reducible refine (d3 _).mono ?_); rintro e w8 ⟨rfl, hb⟩
           have hB8 := below_next (below_al hB7 _) hb
           have Kv8 := (Kv7.alloc _).next hb
           clear kv0 kv1 zv nv
           have Kw8 := (Kw7.alloc _).next hb
           clear kw0 kw1 zw nw
           have Kx8 := (Kx7.alloc _).next hb
           clear kx0 kx1 zx nx
           have Ky8 := (Blk.new w7 23 #[.int .i64 k2, .int .i64 n2]).next hb
           obtain ⟨kv0, kv1⟩ := blk2 Kv8
           have zv := Kv8.lt
           have nv := Nat.ne_of_lt zv
           obtain ⟨kw0, kw1⟩ := blk2 Kw8
           have zw := Kw8.lt
           have nw := Nat.ne_of_lt zw
           obtain ⟨kx0, kx1⟩ := blk2 Kx8
           have zx := Kx8.lt
           have nx := Nat.ne_of_lt zx
           obtain ⟨ky0, ky1⟩ := blk2 Ky8
           have zy := Ky8.lt
           have ny := Nat.ne_of_lt zy
           clear hb))
      go_ret
      exact ⟨rfl, hB8⟩
end valueBack
end Go.Proofs.YtcacabpcobmgoaaGreatDoor
