/- Rows.SelectorTells: what both sides read, uniformly (the walk is still to be written). Conditions: none. -/
import Derived.Test.YthacboofbbfmlaaGreatDoorOpenSels
import Derived.Test.YthacboofbbfmlaaGreatDoorSelO
import Derived.Test.YthacboofbbfmlaaGreatDoorRsI
import Derived.Test.YthacboofbbfmlaaGreatDoorRsJ
namespace Go.Proofs.YthacboofbbfmlaaGreatDoor
open Go.ChangeShapes Go.WideShapes Go.ChangeAt Go.RowKit Go.Shelf
namespace Sel
open Tok
open RowG (Row)
theorem SYm.reads {w : World} {base : Nat} {c : XC} {x : Slr} (h : SYm w base c x) : SlR w w.heap.size c x ∧ c.n = x.parts.length ∧ c.m = x.close.length := by
  obtain ⟨h1, h2⟩ := h
  obtain ⟨h3, h4⟩ := h1.reads
  obtain ⟨h5, h6⟩ := h2.reads
  rw [← h6] at h5
  exact ⟨⟨h3, h5⟩, h4, h6⟩
theorem YsL.reads {w : World} {base n c : Nat} {A : Option Addr} {xs : List Slr} (h : YsL w base (.slice A n c) xs) : XsR w w.heap.size A n xs := by
  obtain ⟨cs, h1, h2, h3⟩ := h
  obtain ⟨h4, h5⟩ := h1.reads
  rw [← h5] at h4
  exact ⟨cs, h4, h2, fun i c p hc hp => (h3 i c p hc hp).reads.1⟩
/-- The reference's Read, with the empty selector where there is none. -/
theorem rreadX_any (l : List UInt8) (hl : l.length ≤ 100000) (w : World) :
    Calls Tryz.prog 8 #[.string (toB l)] w fun e w' => (∃ (A : Option Addr) (n c : Nat) (K : Option Addr) (m d : Nat), e = .returned (.tuple #[.agg #[.slice A n c, .slice K m d], .bool (readP l).isSome]) ∧ SlR w' w'.heap.size ⟨A, n, c, K, m, d⟩ (selOf (readP l)) ∧ n = (selOf (readP l)).parts.length ∧ m = (selOf (readP l)).close.length) ∧ Below w.heap.size w w' := by
  refine (rread_any l hl w).mono ?_
  rintro e w' ⟨hs, hb⟩
  refine ⟨?_, hb⟩
  cases hr : readP l with
  | none =>
    rw [hr] at hs
    obtain rfl := hs
    obtain ⟨h1, h2, h3⟩ := SYm.reads (w := w') (base := w.heap.size) (c := ⟨none, 0, 0, none, 0, 0⟩) (x := ⟨[], []⟩) ⟨PrL.nil _ _, Row.nil _ _ _ _ _⟩
    exact ⟨none, 0, 0, none, 0, 0, rfl, h1, h2, h3⟩
  | some x =>
    rw [hr] at hs
    obtain ⟨vp, vb, rfl, hp, hq⟩ := hs
    obtain ⟨A, c, rfl⟩ := hp.form
    obtain ⟨K, d, rfl⟩ := hq.form
    obtain ⟨h1, h2, h3⟩ := SYm.reads (c := ⟨A, x.parts.length, c, K, x.close.length, d⟩) ⟨hp, hq⟩
    exact ⟨A, _, c, K, _, d, rfl, h1, rfl, rfl⟩
def lstOf : Option (List Slr) → List Slr
  | none => []
  | some l => l
/-- List, with no selectors where there are none. -/
theorem listX_any (l : List UInt8) (hl : l.length ≤ 100000) (w : World) :
    Calls Tryz.prog 9 #[.string (toB l)] w fun e w' => (∃ (A : Option Addr) (n c : Nat), e = .returned (.tuple #[.slice A n c, .bool (listP.go (splitF 44 l)).isSome]) ∧ XsR w' w'.heap.size A n (lstOf (listP.go (splitF 44 l))) ∧ n = (lstOf (listP.go (splitF 44 l))).length) ∧ Below w.heap.size w w' := by
  refine (list_any l hl w).mono ?_
  rintro e w' ⟨hs, hb⟩
  refine ⟨?_, hb⟩
  cases hr : listP.go (splitF 44 l) with
  | none =>
    rw [hr] at hs
    obtain rfl := hs
    have h := XsL.reads (w := w') (base := w.heap.size) (XsL.nil w' w.heap.size)
    exact ⟨none, 0, 0, rfl, h, rfl⟩
  | some xs =>
    rw [hr] at hs
    obtain ⟨v, rfl, hp⟩ := hs
    obtain ⟨A, c, rfl⟩ := hp.form
    exact ⟨A, _, c, rfl, hp.reads, rfl⟩
theorem rlistX_any (l : List UInt8) (hl : l.length ≤ 100000) (w : World) :
    Calls Tryz.prog 10 #[.string (toB l)] w fun e w' => (∃ (A : Option Addr) (n c : Nat), e = .returned (.tuple #[.slice A n c, .bool (listP.go (splitF 44 l)).isSome]) ∧ XsR w' w'.heap.size A n (lstOf (listP.go (splitF 44 l))) ∧ n = (lstOf (listP.go (splitF 44 l))).length) ∧ Below w.heap.size w w' := by
  refine (rlist_any l hl w).mono ?_
  rintro e w' ⟨hs, hb⟩
  refine ⟨?_, hb⟩
  cases hr : listP.go (splitF 44 l) with
  | none =>
    rw [hr] at hs
    obtain rfl := hs
    have h := YsL.reads (w := w') (base := w.heap.size) (c := 0) (A := none) (n := 0) (xs := []) ⟨[], Row.nil _ _ _ _ _, rfl, fun i c p h => by simp at h⟩
    exact ⟨none, 0, 0, rfl, h, rfl⟩
  | some xs =>
    rw [hr] at hs
    obtain ⟨v, rfl, hp⟩ := hs
    obtain ⟨A, c, rfl⟩ := hp.form
    exact ⟨A, _, c, rfl, hp.reads, rfl⟩
theorem lst_len (l : List UInt8) : (lstOf (listP.go (splitF 44 l))).length ≤ l.length + 1 := by
  have key : ∀ (ts : List (List UInt8)) (xs : List Slr), listP.go ts = some xs → xs.length = ts.length := by
    intro ts
    induction ts with
    | nil => intro xs h; obtain rfl := Option.some.inj h; rfl
    | cons t ts ih =>
      intro xs h
      unfold listP.go at h
      cases hr : Sel.readP t with
      | none => rw [hr] at h; cases h
      | some y =>
        rw [hr] at h
        dsimp only at h
        cases hg : listP.go ts with
        | none => rw [hg] at h; cases h
        | some ys =>
          rw [hg] at h
          obtain rfl := Option.some.inj h
          rw [List.length_cons, List.length_cons, ih ys hg]
  have hs := (split_small 44 l).1
  cases h : listP.go (splitF 44 l) with
  | none => exact Nat.zero_le _
  | some xs => exact Nat.le_trans (Nat.le_of_eq (key _ xs h)) hs
theorem add_blk (a : Addr) (i : Nat) : (a.add i).block = a.block := by unfold Addr.add; split <;> rfl
/-- What is read in a list is small. -/
theorem lst_few (l : List UInt8) : ∀ x ∈ lstOf (listP.go (splitF 44 l)), x.parts.length ≤ 8 ∧ x.close.length ≤ 8 ∧ Few x.parts ∧ ShX x.parts := by
  have key : ∀ (ts : List (List UInt8)) (xs : List Slr), listP.go ts = some xs → ∀ x ∈ xs, x.parts.length ≤ 8 ∧ x.close.length ≤ 8 ∧ Few x.parts ∧ ShX x.parts := by
    intro ts
    induction ts with
    | nil => intro xs h x hx; obtain rfl := Option.some.inj h; cases hx
    | cons t ts ih =>
      intro xs h x hx
      unfold listP.go at h
      cases hr : readP t with
      | none => rw [hr] at h; cases h
      | some y =>
        rw [hr] at h
        dsimp only at h
        cases hg : listP.go ts with
        | none => rw [hg] at h; cases h
        | some ys =>
          rw [hg] at h
          obtain rfl := Option.some.inj h
          rcases List.mem_cons.1 hx with rfl | hx
          · have := sel_few t
            rw [hr] at this
            exact this
          · exact ih ys hg x hx
  cases h : listP.go (splitF 44 l) with
  | none => intro x hx; cases hx
  | some xs => exact key _ xs h
end Sel
namespace selectorTells
open Tok Sel
open RowG (Row)
set_option maxRecDepth 100000 in
set_option maxHeartbeats 64000000 in
theorem walk (s : ByteArray) (hs : s.size ≤ 9223372036854775807) (A : Option Addr) (n c : Nat) (K : Option Addr) (m d : Nat) (x : Slr) (B : Option Addr) (nb cb : Nat) (KB : Option Addr) (mb db : Nat) (y : Slr) (W : World)
    (hX : SLR W W.heap.size A n x.parts) (hXc : BLR W W.heap.size K m x.close) (hn : n * 72 ≤ 140737488351232) (hbd : BdS x.parts) (hY : SLR W W.heap.size B nb y.parts) (hYc : BLR W W.heap.size KB mb y.close) (hnb : nb * 72 ≤ 140737488351232) (hbdy : BdS y.parts) :
    Calls Tryz.prog 3 #[.string s, .agg #[.slice A n c, .slice K m d], .agg #[.slice B nb cb, .slice KB mb db]] W fun e w' => e = .returned (.bool true) ∧ Below W.heap.size W w' := by
  have hB0 := below_al (below_al (Below.refl W.heap.size W) (.cells #[.slice A n c, .slice K m d] 25)) (.cells #[.slice B nb cb, .slice KB mb db] 25)
  have KX0 := (Blk.new W 25 #[.slice A n c, .slice K m d]).alloc (.cells #[.slice B nb cb, .slice KB mb db] 25)
  have KY0 := Blk.new (W.alloc (.cells #[.slice A n c, .slice K m d] 25)) 25 #[.slice B nb cb, .slice KB mb db]
  rw [size_al] at KY0
  have ca := awake_any ((W.alloc (.cells #[.slice A n c, .slice K m d] 25)).alloc (.cells #[.slice B nb cb, .slice KB mb db] 25))
  have cox := fun W' (hb : Below W.heap.size W W') => own_any A K n c m d x.parts (by omega) W' (hX.below hb hb.size)
  have coy := fun W' (hb : Below W.heap.size W W') => own_any B KB nb cb mb db y.parts (by omega) W' (hY.below hb hb.size)
  have HBD := Lib.hid hbd
  have HBDY := Lib.hid hbdy
  have HXl := Lib.hid hX.len
  have HYl := Lib.hid hY.len
  clear hbd hbdy
  by_cases hbig : 400 < s.size
  · have hbig' : (400 : Int) < (s.size : Int) := by omega
    go_enter Tryz.func3, Tryz.ntmps3
    go_wp2_with (go_at_call 4; (with_reducible refine ca.mono ?_); rintro e w1 ⟨rfl, hB1⟩)
    go_ret
    exact ⟨rfl, below_next hB0 hB1⟩
  have hsm : decide ((400 : Int) < (s.size : Int)) = false := decide_eq_false (by omega)
  have hs4 : s.size ≤ 400 := by omega
  obtain ⟨l, hl⟩ : ∃ l, l = s.data.toList := ⟨_, rfl⟩
  have hll : l.length = s.size := by rw [hl, size_list]
  have hsl : toB l = s := by rw [hl]; rfl
  have crX := fun w => readX_any l (by omega) w
  have crR := fun w => rreadX_any l (by omega) w
  have clX := fun w => listX_any l (by omega) w
  have clR := fun w => rlistX_any l (by omega) w
  rw [hsl] at crX crR clX clR
  have hzf := sel_few l
  have hlf := lst_few l
  have hle := lst_len l
  have hle4 : (lstOf (listP.go (splitF 44 l))).length ≤ 401 := by omega
  clear hle
  generalize selOf (Sel.readP l) = Z at *
  generalize lstOf (listP.go (splitF 44 l)) = LZ at *
  obtain ⟨e1, he1⟩ : ∃ e1, e1 = (Sel.readP l).isSome := ⟨_, rfl⟩
  obtain ⟨e2, he2⟩ : ∃ e2, e2 = (listP.go (splitF 44 l)).isSome := ⟨_, rfl⟩
  rw [← he1] at crX crR
  rw [← he2] at clX clR
  clear he1 he2
  have HZF := Lib.hid hzf
  have HLF := Lib.hid hlf
  clear hzf hlf hl hll hsl hbig
  go_enter Tryz.func3, Tryz.ntmps3
  go_wp2_with (first
    | (go_at_call 4; (with_reducible refine ca.mono ?_); rintro e w1 ⟨rfl, hb1⟩
       have hB1 := below_next hB0 hb1
       have KX1 := KX0.next hb1
       have KY1 := KY0.next hb1
       obtain ⟨x10, x11⟩ := blk2 KX1
       obtain ⟨y10, y11⟩ := blk2 KY1
       have cox1 := cox w1 hB1)
    | (go_at_call 6; (with_reducible refine cox1.mono ?_); rintro e w2 ⟨⟨A2, c2, rfl, hX2⟩, hb2⟩
       have hB2 := below_next hB1 hb2
       have KX2 := KX1.next hb2
       have KY2 := KY1.next hb2
       obtain ⟨x20, x21⟩ := blk2 KX2
       obtain ⟨y20, y21⟩ := blk2 KY2
       have cg := large_c A2 K n c2 m d x.parts (by omega) HBD.out w2 hX2)
    | (go_at_call 5; (with_reducible refine cg.mono ?_); rintro e w3 ⟨⟨b, rfl, HL⟩, hb3⟩
       have hB3 := below_next hB2 hb3
       have KX3 := KX2.next hb3
       have KY3 := KY2.next hb3
       obtain ⟨x30, x31⟩ := blk2 KX3
       obtain ⟨y30, y31⟩ := blk2 KY3
       have coy3 := coy w3 hB3)
    | (go_at_call 6; (with_reducible refine coy3.mono ?_); rintro e w4 ⟨⟨A4, c4, rfl, hY4⟩, hb4⟩
       have hB4 := below_next hB3 hb4
       have KX4 := KX3.next hb4
       have KY4 := KY3.next hb4
       obtain ⟨x40, x41⟩ := blk2 KX4
       obtain ⟨y40, y41⟩ := blk2 KY4
       have cg2 := large_c A4 KB nb c4 mb db y.parts (by omega) HBDY.out w4 hY4)
    | (go_at_call 5; (with_reducible refine cg2.mono ?_); rintro e w5 ⟨⟨b2, rfl, HL2⟩, hb5⟩
       have hB5 := below_next hB4 hb5
       have KX5 := KX4.next hb5
       have KY5 := KY4.next hb5
       obtain ⟨x50, x51⟩ := blk2 KX5
       obtain ⟨y50, y51⟩ := blk2 KY5)
    | (go_at_call 7; (with_reducible refine (crX _).mono ?_); rintro e w6 ⟨⟨A6, n6, c6, K6, m6, d6, rfl, hZ6, hn6, hm6⟩, hb6⟩
       have HN6 := Lib.hid hn6
       have HM6 := Lib.hid hm6
       clear hn6 hm6
       have hA6 := below_al hb6 (.cells #[.slice A6 n6 c6, .slice K6 m6 d6] 25)
       have K7 := Blk.new w6 25 #[.slice A6 n6 c6, .slice K6 m6 d6]
       have hB7 := below_next hB5 hA6
       have KX7 := KX5.next hA6
       have KY7 := KY5.next hA6
       obtain ⟨x70, x71⟩ := blk2 KX7
       obtain ⟨y70, y71⟩ := blk2 KY7)
    | (go_at_call 8; (with_reducible refine (crR _).mono ?_); rintro e w8 ⟨⟨A8, n8, c8, K8, m8, d8, rfl, hZ8, hn8, hm8⟩, hb8⟩
       have HN8 := Lib.hid hn8
       have HM8 := Lib.hid hm8
       clear hn8 hm8
       have hA8 := below_al hb8 (.cells #[.slice A8 n8 c8, .slice K8 m8 d8] 30)
       have K9 := Blk.new w8 30 #[.slice A8 n8 c8, .slice K8 m8 d8]
       have K79 := K7.next hA8
       have hB9 := below_next hB7 hA8
       have KX9 := KX7.next hA8
       have KY9 := KY7.next hA8
       obtain ⟨x90, x91⟩ := blk2 KX9
       obtain ⟨y90, y91⟩ := blk2 KY9)
    | (go_at_call 9; (with_reducible refine (clX _).mono ?_); rintro e w10 ⟨⟨A10, n10, c10, rfl, hL10, hn10⟩, hb10⟩
       have HN10 := Lib.hid hn10
       clear hn10
       have K710 := K79.next hb10
       have K910 := K9.next hb10
       have hB10 := below_next hB9 hb10
       have KX10 := KX9.next hb10
       have KY10 := KY9.next hb10
       obtain ⟨x100, x101⟩ := blk2 KX10
       obtain ⟨y100, y101⟩ := blk2 KY10)
    | (go_at_call 10; (with_reducible refine (clR _).mono ?_); rintro e w11 ⟨⟨A11, n11, c11, rfl, hL11, hn11⟩, hb11⟩
       have HN11 := Lib.hid hn11
       clear hn11
       have K711 := K710.next hb11
       have K911 := K910.next hb11
       have hB11 := below_next hB10 hb11
       have KX11 := KX10.next hb11
       have KY11 := KY10.next hb11
       obtain ⟨x110, x111⟩ := blk2 KX11
       obtain ⟨y110, y111⟩ := blk2 KY11))
  · go_ret
    exact ⟨rfl, hB3⟩
  · go_ret
    exact ⟨rfl, hB5⟩
  obtain rfl : b = false := by
    have h : ¬ b = true := by assumption
    simpa using h
  obtain rfl : b2 = false := by assumption
  obtain ⟨hco, hm100⟩ := HL.out rfl
  obtain ⟨hco2, hmb100⟩ := HL2.out rfl
  obtain ⟨hn5, hf, hsx⟩ := cost_few hco
  obtain ⟨hnb5, hfy, hsy⟩ := cost_few hco2
  obtain ⟨hz1, hz2, hz3, hz4⟩ := HZF.out
  have hC6 : Below w6.heap.size w6 w11 := below_next (below_next (below_next (below_al (Below.refl _ w6) _) hA8) hb10) hb11
  have hC8 : Below w8.heap.size w8 w11 := below_next (below_next (below_al (Below.refl _ w8) _) hb10) hb11
  have hZ6' := hZ6.below hC6 hC6.size
  have hZ8' := hZ8.below hC8 hC8.size
  have hL10' := hL10.below hb11 hb11.size
  have h68 : n6 ≤ 8 := by rw [HN6.out]; exact hz1
  have hm68 : m6 ≤ 8 := by rw [HM6.out]; exact hz2
  have SK : ∀ W', Below w11.heap.size w11 W' → W'.cell? ⟨w6.heap.size, 0, none⟩ = some (.slice A6 n6 c6) ∧ W'.cell? ⟨w6.heap.size, 1, none⟩ = some (.slice K6 m6 d6) ∧ W'.cell? ⟨w8.heap.size, 0, none⟩ = some (.slice A8 n8 c8) ∧ W'.cell? ⟨w8.heap.size, 1, none⟩ = some (.slice K8 m8 d8) ∧ Below w11.heap.size w11 W' := by
    intro W' hb
    obtain ⟨u0, u1⟩ := blk2 (K711.next hb)
    obtain ⟨v0, v1⟩ := blk2 (K911.next hb)
    exact ⟨u0, u1, v0, v1, hb⟩
  have own9 : ∀ W', (W'.cell? ⟨w6.heap.size, 0, none⟩ = some (.slice A6 n6 c6) ∧ W'.cell? ⟨w6.heap.size, 1, none⟩ = some (.slice K6 m6 d6) ∧ W'.cell? ⟨w8.heap.size, 0, none⟩ = some (.slice A8 n8 c8) ∧ W'.cell? ⟨w8.heap.size, 1, none⟩ = some (.slice K8 m8 d8) ∧ Below w11.heap.size w11 W') → Calls Tryz.prog 6 #[.agg #[.slice A6 n6 c6, .slice K6 m6 d6]] W' fun e w' => (∃ Aq cq, e = .returned (.agg #[.slice Aq n6 cq, .slice K6 m6 d6]) ∧ SLR w' w'.heap.size Aq n6 Z.parts) ∧ (w'.cell? ⟨w6.heap.size, 0, none⟩ = some (.slice A6 n6 c6) ∧ w'.cell? ⟨w6.heap.size, 1, none⟩ = some (.slice K6 m6 d6) ∧ w'.cell? ⟨w8.heap.size, 0, none⟩ = some (.slice A8 n8 c8) ∧ w'.cell? ⟨w8.heap.size, 1, none⟩ = some (.slice K8 m8 d8) ∧ Below w11.heap.size w11 w') := fun W' hS => (own_any A6 K6 n6 c6 m6 d6 Z.parts (by omega) W' (hZ6'.1.below hS.2.2.2.2 hS.2.2.2.2.size)).mono (by
    rintro e w' ⟨⟨Aq, cq, rfl, hq⟩, hb⟩
    exact ⟨⟨Aq, cq, rfl, hq⟩, SK w' (below_next hS.2.2.2.2 hb)⟩)
  have same9 : ∀ Aq cq W', SLR W' W'.heap.size Aq n6 Z.parts → (W'.cell? ⟨w6.heap.size, 0, none⟩ = some (.slice A6 n6 c6) ∧ W'.cell? ⟨w6.heap.size, 1, none⟩ = some (.slice K6 m6 d6) ∧ W'.cell? ⟨w8.heap.size, 0, none⟩ = some (.slice A8 n8 c8) ∧ W'.cell? ⟨w8.heap.size, 1, none⟩ = some (.slice K8 m8 d8) ∧ Below w11.heap.size w11 W') → Calls Tryz.prog 11 #[.agg #[.slice Aq n6 cq, .slice K6 m6 d6], .agg #[.slice A8 n8 c8, .slice K8 m8 d8]] W' fun e w' => e = .returned (.bool true) ∧ (w'.cell? ⟨w6.heap.size, 0, none⟩ = some (.slice A6 n6 c6) ∧ w'.cell? ⟨w6.heap.size, 1, none⟩ = some (.slice K6 m6 d6) ∧ w'.cell? ⟨w8.heap.size, 0, none⟩ = some (.slice A8 n8 c8) ∧ w'.cell? ⟨w8.heap.size, 1, none⟩ = some (.slice K8 m8 d8) ∧ Below w11.heap.size w11 w') := fun Aq cq W' hq hS => (rsel_same Aq K6 A8 K8 n6 cq m6 d6 n8 c8 m8 d8 Z Z (by omega) (by omega) hz3 hz3 W' hq (hZ8'.1.below hS.2.2.2.2 hS.2.2.2.2.size) (hZ6'.2.below hS.2.2.2.2 hS.2.2.2.2.size) (hZ8'.2.below hS.2.2.2.2 hS.2.2.2.2.size)).mono (by
    rintro e w' ⟨rfl, hb⟩
    exact ⟨by rw [decide_eq_true rfl], SK w' (below_next hS.2.2.2.2 hb)⟩)
  have hS0 := SK w11.drew (Below.refl _ _).drew
  have hee : (e1 != e1) = false := by cases e1 <;> rfl
  have hee2 : (e2 != e2) = false := by cases e2 <;> rfl
  have hnn : n10 = n11 := HN10.out.trans HN11.out.symm
  subst hnn
  go_region_held3 (fun W' => W'.cell? ⟨w6.heap.size, 0, none⟩ = some (.slice A6 n6 c6) ∧ W'.cell? ⟨w6.heap.size, 1, none⟩ = some (.slice K6 m6 d6) ∧ W'.cell? ⟨w8.heap.size, 0, none⟩ = some (.slice A8 n8 c8) ∧ W'.cell? ⟨w8.heap.size, 1, none⟩ = some (.slice K8 m8 d8) ∧ Below w11.heap.size w11 W')
    (first | (with_reducible assumption) | exact hS0)
    (first
      | (go_at_call 6; (with_reducible refine (own9 _ (by first | assumption | exact hS0)).mono ?_); rintro e w12 ⟨⟨Aq, cq, rfl, hq⟩, hS12⟩)
      | (go_at_call 11; (with_reducible refine (same9 Aq cq _ hq (by first | assumption | exact hS0)).mono ?_); rintro e w13 ⟨rfl, hS13⟩))
  all_goals
    rename_i hHd
    obtain ⟨-, -, -, -, hB13⟩ := hHd
    clear hS0 own9 same9 SK
    go_wp2
    have hLl := hL10.len
    have hn401 : n10 ≤ 401 := by rw [← hLl]; exact hle4
    have HLl := Lib.hid hLl
    clear hLl
    go_loopw [75] (fun iv wr => ∃ k : Nat, k ≤ n10 ∧ iv = .int .i64 k ∧ Below w13.heap.size w13 wr) (fun iv _ => n10 - (intOf iv).toNat)
    case atStart => exact ⟨0, Nat.zero_le _, rfl, Below.refl _ _⟩
    case round =>
      obtain ⟨k, hk, rfl, hBk⟩ := hrel
      have hBr := below_next hB13 hBk
      have k0 : (0 : Int) ≤ (k : Int) := Int.natCast_nonneg _
      by_cases hlt : k < n10
      · obtain ⟨z, hz⟩ : ∃ z, LZ[k]? = some z := ⟨_, List.getElem?_eq_getElem (by rw [HLl.out]; exact hlt)⟩
        obtain ⟨t1, t2, t3, t4⟩ := HLF.out z (List.mem_of_getElem? hz)
        obtain ⟨ad, cz, rfl, hda, e0, e1', hSl⟩ := (hL10'.below hBr (Nat.le_refl _)).at_ hz
        obtain ⟨ae, fz, rfl, hde, f0, f1', hSf⟩ := (hL11.below hBr (Nat.le_refl _)).at_ hz
        have hzl := hSl.1.len
        have hzc := hSl.2.len
        obtain ⟨cA, cn, cc, cK, cm, cd⟩ := cz
        obtain ⟨fA, fn, fc, fK, fm, fd⟩ := fz
        dsimp only at *
        have hcn : cn ≤ 8 := by omega
        have hcm : cm ≤ 8 := by omega
        clear hzl hzc hz
        have hki : (k : Int) < (n10 : Int) := by omega
        have hwl : w11.heap.size ≤ wr.heap.size := hBr.size
        have SK : ∀ W', Below wr.heap.size wr W' → W'.cell? (ad.add (k * 2)) = some (.slice cA cn cc) ∧ W'.cell? ⟨(ad.add (k * 2)).block, (ad.add (k * 2)).off + 1, none⟩ = some (.slice cK cm cd) ∧ W'.cell? (ae.add (k * 2)) = some (.slice fA fn fc) ∧ W'.cell? ⟨(ae.add (k * 2)).block, (ae.add (k * 2)).off + 1, none⟩ = some (.slice fK fm fd) ∧ Below wr.heap.size wr W' := by
          intro W' hb
          have l1 : (ad.add (k * 2)).block < wr.heap.size := by rw [add_blk]; omega
          have l2 : (ae.add (k * 2)).block < wr.heap.size := by rw [add_blk]; omega
          exact ⟨(hb.cell l1).trans e0, (hb.cell (p := ⟨(ad.add (k * 2)).block, (ad.add (k * 2)).off + 1, none⟩) l1).trans e1', (hb.cell l2).trans f0, (hb.cell (p := ⟨(ae.add (k * 2)).block, (ae.add (k * 2)).off + 1, none⟩) l2).trans f1', hb⟩
        have own14 : ∀ W', (W'.cell? (ad.add (k * 2)) = some (.slice cA cn cc) ∧ W'.cell? ⟨(ad.add (k * 2)).block, (ad.add (k * 2)).off + 1, none⟩ = some (.slice cK cm cd) ∧ W'.cell? (ae.add (k * 2)) = some (.slice fA fn fc) ∧ W'.cell? ⟨(ae.add (k * 2)).block, (ae.add (k * 2)).off + 1, none⟩ = some (.slice fK fm fd) ∧ Below wr.heap.size wr W') → Calls Tryz.prog 6 #[.agg #[.slice cA cn cc, .slice cK cm cd]] W' fun e w' => (∃ Aq cq, e = .returned (.agg #[.slice Aq cn cq, .slice cK cm cd]) ∧ SLR w' w'.heap.size Aq cn z.parts) ∧ (w'.cell? (ad.add (k * 2)) = some (.slice cA cn cc) ∧ w'.cell? ⟨(ad.add (k * 2)).block, (ad.add (k * 2)).off + 1, none⟩ = some (.slice cK cm cd) ∧ w'.cell? (ae.add (k * 2)) = some (.slice fA fn fc) ∧ w'.cell? ⟨(ae.add (k * 2)).block, (ae.add (k * 2)).off + 1, none⟩ = some (.slice fK fm fd) ∧ Below wr.heap.size wr w') := fun W' hS => (own_any cA cK cn cc cm cd z.parts (by omega) W' (hSl.1.below (hS.2.2.2.2.mono hwl) (Nat.le_trans hwl hS.2.2.2.2.size))).mono (by
          rintro e w' ⟨⟨Aq, cq, rfl, hq⟩, hb⟩
          exact ⟨⟨Aq, cq, rfl, hq⟩, SK w' (below_next hS.2.2.2.2 hb)⟩)
        have same14 : ∀ Aq cq W', SLR W' W'.heap.size Aq cn z.parts → (W'.cell? (ad.add (k * 2)) = some (.slice cA cn cc) ∧ W'.cell? ⟨(ad.add (k * 2)).block, (ad.add (k * 2)).off + 1, none⟩ = some (.slice cK cm cd) ∧ W'.cell? (ae.add (k * 2)) = some (.slice fA fn fc) ∧ W'.cell? ⟨(ae.add (k * 2)).block, (ae.add (k * 2)).off + 1, none⟩ = some (.slice fK fm fd) ∧ Below wr.heap.size wr W') → Calls Tryz.prog 11 #[.agg #[.slice Aq cn cq, .slice cK cm cd], .agg #[.slice fA fn fc, .slice fK fm fd]] W' fun e w' => e = .returned (.bool true) ∧ (w'.cell? (ad.add (k * 2)) = some (.slice cA cn cc) ∧ w'.cell? ⟨(ad.add (k * 2)).block, (ad.add (k * 2)).off + 1, none⟩ = some (.slice cK cm cd) ∧ w'.cell? (ae.add (k * 2)) = some (.slice fA fn fc) ∧ w'.cell? ⟨(ae.add (k * 2)).block, (ae.add (k * 2)).off + 1, none⟩ = some (.slice fK fm fd) ∧ Below wr.heap.size wr w') := fun Aq cq W' hq hS => (rsel_same Aq cK fA fK cn cq cm cd fn fc fm fd z z (by omega) (by omega) t3 t3 W' hq (hSf.1.below (hS.2.2.2.2.mono hwl) (Nat.le_trans hwl hS.2.2.2.2.size)) (hSl.2.below (hS.2.2.2.2.mono hwl) (Nat.le_trans hwl hS.2.2.2.2.size)) (hSf.2.below (hS.2.2.2.2.mono hwl) (Nat.le_trans hwl hS.2.2.2.2.size))).mono (by
          rintro e w' ⟨rfl, hb⟩
          exact ⟨by rw [decide_eq_true rfl], SK w' (below_next hS.2.2.2.2 hb)⟩)
        have hS0 := SK wr.drew (Below.refl _ _).drew
        go_wp2
        go_region_held3 (fun W' => W'.cell? (ad.add (k * 2)) = some (.slice cA cn cc) ∧ W'.cell? ⟨(ad.add (k * 2)).block, (ad.add (k * 2)).off + 1, none⟩ = some (.slice cK cm cd) ∧ W'.cell? (ae.add (k * 2)) = some (.slice fA fn fc) ∧ W'.cell? ⟨(ae.add (k * 2)).block, (ae.add (k * 2)).off + 1, none⟩ = some (.slice fK fm fd) ∧ Below wr.heap.size wr W')
          (first | (with_reducible assumption) | exact hS0)
          (first
            | (go_at_call 6; (with_reducible refine (own14 _ (by first | assumption | exact hS0)).mono ?_); rintro e w12 ⟨⟨Aq, cq, rfl, hq⟩, hS12⟩)
            | (go_at_call 11; (with_reducible refine (same14 Aq cq _ hq (by first | assumption | exact hS0)).mono ?_); rintro e w14 ⟨rfl, hS13⟩))
        all_goals
          rename_i hHd
          obtain ⟨-, -, -, -, hB14⟩ := hHd
          clear hS0 own14 same14 SK
          go_wp2
          go_roundw
          case rel => exact ⟨k + 1, by omega, by go_num, below_next hBk hB14⟩
          case measure => simp [intOf]; omega
      · obtain rfl : k = n10 := by omega
        have KXr := KX11.next hBr
        have KYr := KY11.next hBr
        have hBW := below_next hB11 hBr
        have hWx : SlR wr wr.heap.size ⟨A, n, c, K, m, d⟩ x := ⟨hX.below hBW hBW.size, hXc.below hBW hBW.size⟩
        have hWy : SlR wr wr.heap.size ⟨B, nb, cb, KB, mb, db⟩ y := ⟨hY.below hBW hBW.size, hYc.below hBW hBW.size⟩
        have hn6' : n ≤ 500 := by rw [← HXl.out]; exact hn5
        have hnb6' : nb ≤ 500 := by rw [← HYl.out]; exact hnb5
        have SK : ∀ W', Below wr.heap.size wr W' → W'.cell? ⟨W.heap.size, 0, none⟩ = some (.slice A n c) ∧ W'.cell? ⟨W.heap.size, 1, none⟩ = some (.slice K m d) ∧ W'.cell? ⟨W.heap.size + 1, 0, none⟩ = some (.slice B nb cb) ∧ W'.cell? ⟨W.heap.size + 1, 1, none⟩ = some (.slice KB mb db) ∧ Below wr.heap.size wr W' := by
          intro W' hb
          obtain ⟨u0, u1⟩ := blk2 (KXr.next hb)
          obtain ⟨v0, v1⟩ := blk2 (KYr.next hb)
          exact ⟨u0, u1, v0, v1, hb⟩
        have mayX : ∀ W', (W'.cell? ⟨W.heap.size, 0, none⟩ = some (.slice A n c) ∧ W'.cell? ⟨W.heap.size, 1, none⟩ = some (.slice K m d) ∧ W'.cell? ⟨W.heap.size + 1, 0, none⟩ = some (.slice B nb cb) ∧ W'.cell? ⟨W.heap.size + 1, 1, none⟩ = some (.slice KB mb db) ∧ Below wr.heap.size wr W') → Calls Tryz.prog 12 #[.agg #[.slice A n c, .slice K m d]] W' fun e w' => e = .returned (.bool (maySlr x)) ∧ (w'.cell? ⟨W.heap.size, 0, none⟩ = some (.slice A n c) ∧ w'.cell? ⟨W.heap.size, 1, none⟩ = some (.slice K m d) ∧ w'.cell? ⟨W.heap.size + 1, 0, none⟩ = some (.slice B nb cb) ∧ w'.cell? ⟨W.heap.size + 1, 1, none⟩ = some (.slice KB mb db) ∧ Below wr.heap.size wr w') := fun W' hS => (may_any A K n c m d x (by omega) (by omega) hf hsx W' (hWx.1.below hS.2.2.2.2 hS.2.2.2.2.size) (hWx.2.below hS.2.2.2.2 hS.2.2.2.2.size)).mono (by
          rintro e w' ⟨rfl, hb⟩
          exact ⟨by first | rfl | (rw [decide_eq_true rfl]), SK w' (below_next hS.2.2.2.2 hb)⟩)
        have prX : ∀ W', (W'.cell? ⟨W.heap.size, 0, none⟩ = some (.slice A n c) ∧ W'.cell? ⟨W.heap.size, 1, none⟩ = some (.slice K m d) ∧ W'.cell? ⟨W.heap.size + 1, 0, none⟩ = some (.slice B nb cb) ∧ W'.cell? ⟨W.heap.size + 1, 1, none⟩ = some (.slice KB mb db) ∧ Below wr.heap.size wr W') → Calls Tryz.prog 14 #[.agg #[.slice A n c, .slice K m d]] W' fun e w' => e = .returned (.string (toB (printP x))) ∧ (w'.cell? ⟨W.heap.size, 0, none⟩ = some (.slice A n c) ∧ w'.cell? ⟨W.heap.size, 1, none⟩ = some (.slice K m d) ∧ w'.cell? ⟨W.heap.size + 1, 0, none⟩ = some (.slice B nb cb) ∧ w'.cell? ⟨W.heap.size + 1, 1, none⟩ = some (.slice KB mb db) ∧ Below wr.heap.size wr w') := fun W' hS => (print_any A K n c m d x (by omega) (by omega) hf hsx W' (hWx.1.below hS.2.2.2.2 hS.2.2.2.2.size) (hWx.2.below hS.2.2.2.2 hS.2.2.2.2.size)).mono (by
          rintro e w' ⟨rfl, hb⟩
          exact ⟨by first | rfl | (rw [decide_eq_true rfl]), SK w' (below_next hS.2.2.2.2 hb)⟩)
        have weX : ∀ W', (W'.cell? ⟨W.heap.size, 0, none⟩ = some (.slice A n c) ∧ W'.cell? ⟨W.heap.size, 1, none⟩ = some (.slice K m d) ∧ W'.cell? ⟨W.heap.size + 1, 0, none⟩ = some (.slice B nb cb) ∧ W'.cell? ⟨W.heap.size + 1, 1, none⟩ = some (.slice KB mb db) ∧ Below wr.heap.size wr W') → Calls Tryz.prog 16 #[.agg #[.slice A n c, .slice K m d]] W' fun e w' => e = .returned (.int .i64 (((x.parts.map wS).sum : Nat) : Int)) ∧ (w'.cell? ⟨W.heap.size, 0, none⟩ = some (.slice A n c) ∧ w'.cell? ⟨W.heap.size, 1, none⟩ = some (.slice K m d) ∧ w'.cell? ⟨W.heap.size + 1, 0, none⟩ = some (.slice B nb cb) ∧ w'.cell? ⟨W.heap.size + 1, 1, none⟩ = some (.slice KB mb db) ∧ Below wr.heap.size wr w') := fun W' hS => (weigh_any A K n c m d x.parts (by omega) hf W' (hWx.1.below hS.2.2.2.2 hS.2.2.2.2.size)).mono (by
          rintro e w' ⟨rfl, hb⟩
          exact ⟨by first | rfl | (rw [decide_eq_true rfl]), SK w' (below_next hS.2.2.2.2 hb)⟩)
        have saXY : ∀ W', (W'.cell? ⟨W.heap.size, 0, none⟩ = some (.slice A n c) ∧ W'.cell? ⟨W.heap.size, 1, none⟩ = some (.slice K m d) ∧ W'.cell? ⟨W.heap.size + 1, 0, none⟩ = some (.slice B nb cb) ∧ W'.cell? ⟨W.heap.size + 1, 1, none⟩ = some (.slice KB mb db) ∧ Below wr.heap.size wr W') → Calls Tryz.prog 18 #[.agg #[.slice A n c, .slice K m d], .agg #[.slice B nb cb, .slice KB mb db]] W' fun e w' => e = .returned (.bool (decide (x = y))) ∧ (w'.cell? ⟨W.heap.size, 0, none⟩ = some (.slice A n c) ∧ w'.cell? ⟨W.heap.size, 1, none⟩ = some (.slice K m d) ∧ w'.cell? ⟨W.heap.size + 1, 0, none⟩ = some (.slice B nb cb) ∧ w'.cell? ⟨W.heap.size + 1, 1, none⟩ = some (.slice KB mb db) ∧ Below wr.heap.size wr w') := fun W' hS => (same_any A K B KB n c m d nb cb mb db x y (by omega) (by omega) hf W' (hWx.1.below hS.2.2.2.2 hS.2.2.2.2.size) (hWy.1.below hS.2.2.2.2 hS.2.2.2.2.size) (hWx.2.below hS.2.2.2.2 hS.2.2.2.2.size) (hWy.2.below hS.2.2.2.2 hS.2.2.2.2.size)).mono (by
          rintro e w' ⟨rfl, hb⟩
          exact ⟨by first | rfl | (rw [decide_eq_true rfl]), SK w' (below_next hS.2.2.2.2 hb)⟩)
        have saXX : ∀ W', (W'.cell? ⟨W.heap.size, 0, none⟩ = some (.slice A n c) ∧ W'.cell? ⟨W.heap.size, 1, none⟩ = some (.slice K m d) ∧ W'.cell? ⟨W.heap.size + 1, 0, none⟩ = some (.slice B nb cb) ∧ W'.cell? ⟨W.heap.size + 1, 1, none⟩ = some (.slice KB mb db) ∧ Below wr.heap.size wr W') → Calls Tryz.prog 18 #[.agg #[.slice A n c, .slice K m d], .agg #[.slice A n c, .slice K m d]] W' fun e w' => e = .returned (.bool true) ∧ (w'.cell? ⟨W.heap.size, 0, none⟩ = some (.slice A n c) ∧ w'.cell? ⟨W.heap.size, 1, none⟩ = some (.slice K m d) ∧ w'.cell? ⟨W.heap.size + 1, 0, none⟩ = some (.slice B nb cb) ∧ w'.cell? ⟨W.heap.size + 1, 1, none⟩ = some (.slice KB mb db) ∧ Below wr.heap.size wr w') := fun W' hS => (same_any A K A K n c m d n c m d x x (by omega) (by omega) hf W' (hWx.1.below hS.2.2.2.2 hS.2.2.2.2.size) (hWx.1.below hS.2.2.2.2 hS.2.2.2.2.size) (hWx.2.below hS.2.2.2.2 hS.2.2.2.2.size) (hWx.2.below hS.2.2.2.2 hS.2.2.2.2.size)).mono (by
          rintro e w' ⟨rfl, hb⟩
          exact ⟨by first | rfl | (rw [decide_eq_true rfl]), SK w' (below_next hS.2.2.2.2 hb)⟩)
        have rmayX : ∀ (Aq : Option Addr) (cq : Nat) W', SLR W' W'.heap.size Aq n x.parts → (W'.cell? ⟨W.heap.size, 0, none⟩ = some (.slice A n c) ∧ W'.cell? ⟨W.heap.size, 1, none⟩ = some (.slice K m d) ∧ W'.cell? ⟨W.heap.size + 1, 0, none⟩ = some (.slice B nb cb) ∧ W'.cell? ⟨W.heap.size + 1, 1, none⟩ = some (.slice KB mb db) ∧ Below wr.heap.size wr W') → Calls Tryz.prog 13 #[.agg #[.slice Aq n cq, .slice K m d]] W' fun e w' => e = .returned (.bool (maySlr x)) ∧ (w'.cell? ⟨W.heap.size, 0, none⟩ = some (.slice A n c) ∧ w'.cell? ⟨W.heap.size, 1, none⟩ = some (.slice K m d) ∧ w'.cell? ⟨W.heap.size + 1, 0, none⟩ = some (.slice B nb cb) ∧ w'.cell? ⟨W.heap.size + 1, 1, none⟩ = some (.slice KB mb db) ∧ Below wr.heap.size wr w') := fun Aq cq W' hq hS => (rmay_any Aq K n cq m d x (by omega) (by omega) hf hsx W' hq (hWx.2.below hS.2.2.2.2 hS.2.2.2.2.size)).mono (by
          rintro e w' ⟨rfl, hb⟩
          exact ⟨rfl, SK w' (below_next hS.2.2.2.2 hb)⟩)
        have rprX : ∀ (Aq : Option Addr) (cq : Nat) W', SLR W' W'.heap.size Aq n x.parts → (W'.cell? ⟨W.heap.size, 0, none⟩ = some (.slice A n c) ∧ W'.cell? ⟨W.heap.size, 1, none⟩ = some (.slice K m d) ∧ W'.cell? ⟨W.heap.size + 1, 0, none⟩ = some (.slice B nb cb) ∧ W'.cell? ⟨W.heap.size + 1, 1, none⟩ = some (.slice KB mb db) ∧ Below wr.heap.size wr W') → Calls Tryz.prog 15 #[.agg #[.slice Aq n cq, .slice K m d]] W' fun e w' => e = .returned (.string (toB (printP x))) ∧ (w'.cell? ⟨W.heap.size, 0, none⟩ = some (.slice A n c) ∧ w'.cell? ⟨W.heap.size, 1, none⟩ = some (.slice K m d) ∧ w'.cell? ⟨W.heap.size + 1, 0, none⟩ = some (.slice B nb cb) ∧ w'.cell? ⟨W.heap.size + 1, 1, none⟩ = some (.slice KB mb db) ∧ Below wr.heap.size wr w') := fun Aq cq W' hq hS => (rprint_any Aq K n cq m d x (by omega) (by omega) hf hsx W' hq (hWx.2.below hS.2.2.2.2 hS.2.2.2.2.size)).mono (by
          rintro e w' ⟨rfl, hb⟩
          exact ⟨rfl, SK w' (below_next hS.2.2.2.2 hb)⟩)
        have rweX : ∀ (Aq : Option Addr) (cq : Nat) W', SLR W' W'.heap.size Aq n x.parts → (W'.cell? ⟨W.heap.size, 0, none⟩ = some (.slice A n c) ∧ W'.cell? ⟨W.heap.size, 1, none⟩ = some (.slice K m d) ∧ W'.cell? ⟨W.heap.size + 1, 0, none⟩ = some (.slice B nb cb) ∧ W'.cell? ⟨W.heap.size + 1, 1, none⟩ = some (.slice KB mb db) ∧ Below wr.heap.size wr W') → Calls Tryz.prog 17 #[.agg #[.slice Aq n cq, .slice K m d]] W' fun e w' => e = .returned (.int .i64 (((x.parts.map wS).sum : Nat) : Int)) ∧ (w'.cell? ⟨W.heap.size, 0, none⟩ = some (.slice A n c) ∧ w'.cell? ⟨W.heap.size, 1, none⟩ = some (.slice K m d) ∧ w'.cell? ⟨W.heap.size + 1, 0, none⟩ = some (.slice B nb cb) ∧ w'.cell? ⟨W.heap.size + 1, 1, none⟩ = some (.slice KB mb db) ∧ Below wr.heap.size wr w') := fun Aq cq W' hq hS => (rweigh_any Aq K n cq m d x.parts (by omega) hf W' hq).mono (by
          rintro e w' ⟨rfl, hb⟩
          exact ⟨rfl, SK w' (below_next hS.2.2.2.2 hb)⟩)
        have rsaXY : ∀ (Aq : Option Addr) (cq : Nat) (Bq : Option Addr) (dq : Nat) W', SLR W' W'.heap.size Aq n x.parts → SLR W' W'.heap.size Bq nb y.parts → (W'.cell? ⟨W.heap.size, 0, none⟩ = some (.slice A n c) ∧ W'.cell? ⟨W.heap.size, 1, none⟩ = some (.slice K m d) ∧ W'.cell? ⟨W.heap.size + 1, 0, none⟩ = some (.slice B nb cb) ∧ W'.cell? ⟨W.heap.size + 1, 1, none⟩ = some (.slice KB mb db) ∧ Below wr.heap.size wr W') → Calls Tryz.prog 11 #[.agg #[.slice Aq n cq, .slice K m d], .agg #[.slice Bq nb dq, .slice KB mb db]] W' fun e w' => e = .returned (.bool (decide (x = y))) ∧ (w'.cell? ⟨W.heap.size, 0, none⟩ = some (.slice A n c) ∧ w'.cell? ⟨W.heap.size, 1, none⟩ = some (.slice K m d) ∧ w'.cell? ⟨W.heap.size + 1, 0, none⟩ = some (.slice B nb cb) ∧ w'.cell? ⟨W.heap.size + 1, 1, none⟩ = some (.slice KB mb db) ∧ Below wr.heap.size wr w') := fun Aq cq Bq dq W' hq hq2 hS => (rsel_same Aq K Bq KB n cq m d nb dq mb db x y (by omega) (by omega) hf hfy W' hq hq2 (hWx.2.below hS.2.2.2.2 hS.2.2.2.2.size) (hWy.2.below hS.2.2.2.2 hS.2.2.2.2.size)).mono (by
          rintro e w' ⟨rfl, hb⟩
          exact ⟨rfl, SK w' (below_next hS.2.2.2.2 hb)⟩)
        have ownX : ∀ W', (W'.cell? ⟨W.heap.size, 0, none⟩ = some (.slice A n c) ∧ W'.cell? ⟨W.heap.size, 1, none⟩ = some (.slice K m d) ∧ W'.cell? ⟨W.heap.size + 1, 0, none⟩ = some (.slice B nb cb) ∧ W'.cell? ⟨W.heap.size + 1, 1, none⟩ = some (.slice KB mb db) ∧ Below wr.heap.size wr W') → Calls Tryz.prog 6 #[.agg #[.slice A n c, .slice K m d]] W' fun e w' => (∃ Aq cq, e = .returned (.agg #[.slice Aq n cq, .slice K m d]) ∧ SLR w' w'.heap.size Aq n x.parts ∧ Below W'.heap.size W' w') ∧ (w'.cell? ⟨W.heap.size, 0, none⟩ = some (.slice A n c) ∧ w'.cell? ⟨W.heap.size, 1, none⟩ = some (.slice K m d) ∧ w'.cell? ⟨W.heap.size + 1, 0, none⟩ = some (.slice B nb cb) ∧ w'.cell? ⟨W.heap.size + 1, 1, none⟩ = some (.slice KB mb db) ∧ Below wr.heap.size wr w') := fun W' hS => (own_any A K n c m d x.parts (by omega) W' (hWx.1.below hS.2.2.2.2 hS.2.2.2.2.size)).mono (by
          rintro e w' ⟨⟨Aq, cq, rfl, hq⟩, hb⟩
          exact ⟨⟨Aq, cq, rfl, hq, hb⟩, SK w' (below_next hS.2.2.2.2 hb)⟩)
        have ownY : ∀ W', (W'.cell? ⟨W.heap.size, 0, none⟩ = some (.slice A n c) ∧ W'.cell? ⟨W.heap.size, 1, none⟩ = some (.slice K m d) ∧ W'.cell? ⟨W.heap.size + 1, 0, none⟩ = some (.slice B nb cb) ∧ W'.cell? ⟨W.heap.size + 1, 1, none⟩ = some (.slice KB mb db) ∧ Below wr.heap.size wr W') → Calls Tryz.prog 6 #[.agg #[.slice B nb cb, .slice KB mb db]] W' fun e w' => (∃ Aq cq, e = .returned (.agg #[.slice Aq nb cq, .slice KB mb db]) ∧ SLR w' w'.heap.size Aq nb y.parts ∧ Below W'.heap.size W' w') ∧ (w'.cell? ⟨W.heap.size, 0, none⟩ = some (.slice A n c) ∧ w'.cell? ⟨W.heap.size, 1, none⟩ = some (.slice K m d) ∧ w'.cell? ⟨W.heap.size + 1, 0, none⟩ = some (.slice B nb cb) ∧ w'.cell? ⟨W.heap.size + 1, 1, none⟩ = some (.slice KB mb db) ∧ Below wr.heap.size wr w') := fun W' hS => (own_any B KB nb cb mb db y.parts (by omega) W' (hWy.1.below hS.2.2.2.2 hS.2.2.2.2.size)).mono (by
          rintro e w' ⟨⟨Aq, cq, rfl, hq⟩, hb⟩
          exact ⟨⟨Aq, cq, rfl, hq, hb⟩, SK w' (below_next hS.2.2.2.2 hb)⟩)
        have hS0 := SK wr.drew (Below.refl _ _).drew
        generalize maySlr x = bm at *
        generalize toB (printP x) = tx at *
        generalize (x.parts.map wS).sum = wx at *
        generalize decide (x = y) = bs at *
        go_wp2
        go_region_held3 (fun W' => W'.cell? ⟨W.heap.size, 0, none⟩ = some (.slice A n c) ∧ W'.cell? ⟨W.heap.size, 1, none⟩ = some (.slice K m d) ∧ W'.cell? ⟨W.heap.size + 1, 0, none⟩ = some (.slice B nb cb) ∧ W'.cell? ⟨W.heap.size + 1, 1, none⟩ = some (.slice KB mb db) ∧ Below wr.heap.size wr W')
          (first | (with_reducible assumption) | exact hS0)
          (first
            | (go_at_call 12; (with_reducible refine (mayX _ (by first | assumption | exact hS0)).mono ?_); rintro e w21 ⟨rfl, hS21⟩)
            | (go_at_call 14; (with_reducible refine (prX _ (by first | assumption | exact hS0)).mono ?_); rintro e w22 ⟨rfl, hS22⟩)
            | (go_at_call 16; (with_reducible refine (weX _ (by first | assumption | exact hS0)).mono ?_); rintro e w23 ⟨rfl, hS23⟩)
            | (go_at_call 18; (first | (with_reducible refine (saXY _ (by first | assumption | exact hS0)).mono ?_) | (with_reducible refine (saXX _ (by first | assumption | exact hS0)).mono ?_)); rintro e w24 ⟨rfl, hS24⟩)
            | (go_at_call 6; (with_reducible refine (ownX _ (by first | assumption | exact hS0)).mono ?_); rintro e w25 ⟨⟨Aq, cq, rfl, hq, hbq⟩, hS25⟩)
            | (go_at_call 6; (with_reducible refine (ownY _ (by first | assumption | exact hS0)).mono ?_); rintro e w26 ⟨⟨Bq, dq, rfl, hq2, hbq2⟩, hS26⟩; have hq3 := hq.below hbq2 hbq2.size)
            | (go_at_call 13; (with_reducible refine (rmayX _ _ _ (by assumption) (by first | assumption | exact hS0)).mono ?_); rintro e w27 ⟨rfl, hS27⟩)
            | (go_at_call 15; (with_reducible refine (rprX _ _ _ (by assumption) (by first | assumption | exact hS0)).mono ?_); rintro e w28 ⟨rfl, hS28⟩)
            | (go_at_call 17; (with_reducible refine (rweX _ _ _ (by assumption) (by first | assumption | exact hS0)).mono ?_); rintro e w29 ⟨rfl, hS29⟩)
            | (go_at_call 11; (with_reducible refine (rsaXY _ _ _ _ _ (by assumption) (by assumption) (by first | assumption | exact hS0)).mono ?_); rintro e w30 ⟨rfl, hS30⟩))
        all_goals
          rename_i hHd
          obtain ⟨-, -, -, -, hB30⟩ := hHd
          clear hS0 SK mayX prX weX saXY saXX rmayX rprX rweX rsaXY ownX ownY
          go_wp2
          go_ret
          exact ⟨rfl, below_next hBW hB30⟩
end selectorTells
end Go.Proofs.YthacboofbbfmlaaGreatDoor
