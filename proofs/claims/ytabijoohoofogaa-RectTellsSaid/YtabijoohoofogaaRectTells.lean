/- RectTells' walk, from what rect's functions answer. Conditions: those answers; the list lies in memory as it is read. -/
import Derived.Test.YtabijoohoofogaaRectSpec
import Derived.Test.YtabijoohoofogaaRx2C
import Derived.Test.YtabijoohoofogaaRx2D
import Derived.Deep.RegionHeld3
namespace Go.Proofs.Ytabijoohoofogaa
open Go.ChangeShapes Go.WideShapes Go.ChangeAt Go.RowKit
theorem sall {E W W' : World} (h : (∀ b o, b < E.heap.size → W.cell? ⟨b, o, none⟩ = E.cell? ⟨b, o, none⟩) ∧ Below E.heap.size E W) (hb : Below W.heap.size W W') :
    (∀ b o, b < E.heap.size → W'.cell? ⟨b, o, none⟩ = E.cell? ⟨b, o, none⟩) ∧ Below E.heap.size E W' :=
  ⟨fun b o hlt => (hb.cell (p := ⟨b, o, none⟩) (Nat.lt_of_lt_of_le hlt h.2.size)).trans (h.1 b o hlt), below_next h.2 hb⟩
namespace rectTells
set_option maxHeartbeats 16000000 in
set_option maxRecDepth 100000 in
theorem walk (cAwake : ∀ w, Calls Try.prog 11 #[] w fun e w' => e = .returned (.bool true) ∧ Below w.heap.size w w') (cMay : MayC) (cHas : HasC) (cMove : MoveC) (cInset : InsetC) (cUnion : UnionC) (cMeet : MeetC)
    (a b : Plc) (n0 n1 n2 n3 : Int) (A : Option Addr) (n c : Nat) (l : List Plc) (w : World) (hn : n ≤ 17592186043904) (hr : Reads w w.heap.size 4 A n (flat l)) :
    Calls Try.prog 3 #[a.v, b.v, .agg #[.int .i64 n0, .int .i64 n1, .int .i64 n2, .int .i64 n3], .slice A n c] w fun e w' => e = .returned (.bool true) ∧ Below w.heap.size w w' := by
  by_cases h5 : 100 < n
  · go_enter Try.func3, Try.ntmps3
    go_wp2_with (go_at_call 11; refine (cAwake _).mono ?_; rintro e w1 ⟨rfl, hb⟩)
    go_ret
    exact ⟨rfl, below_next (below_al (below_al (below_al (Below.refl _ _) _) _) _) hb⟩
  have h5' : n ≤ 100 := by omega
  clear h5
  have c1 := fun w => cMove a n0 n1 w
  have d1 := fun w => rmove_any a n0 n1 w
  have c2 := fun w => cInset a n0 n1 n2 n3 w
  have d2 := fun w => rinset_any a n0 n1 n2 n3 w
  have c3 := fun w1 (hb : Below w.heap.size w w1) => cUnion A n c w.heap.size l w1 (hr.below hb) hn
  have d3 := fun w1 (hb : Below w.heap.size w w1) => runion_any A n c w.heap.size l w1 (hr.below hb) hb.size hn
  have c4 := fun w => cMeet a b w
  have d4 := fun w => rmeet_any a b w
  have c5 := fun w => cMay a w
  have d5 := fun w => rmay_any a w
  have c6 := fun w => cHas a n0 n1 w
  have d6 := fun w => rhas_any a n0 n1 w
  generalize moveR a n0 n1 = m at *
  generalize moveOk a n0 n1 = o1 at *
  generalize insetR a n0 n1 n2 n3 = i at *
  generalize insetOk a n0 n1 n2 n3 = o2 at *
  generalize (unionF l).1 = u at *
  generalize (unionF l).2 = o3 at *
  generalize meetR a b = t at *
  generalize meetB a b = o4 at *
  generalize mayB a = o5 at *
  generalize hasB a n0 n1 = o6 at *
  clear hr
  obtain ⟨ax, ay, aw, ah⟩ := a
  obtain ⟨bx, by_, bw, bh⟩ := b
  obtain ⟨mx, my, mw, mh⟩ := m
  obtain ⟨ix, iy, iw, ih⟩ := i
  obtain ⟨ux, uy, uw, uh⟩ := u
  obtain ⟨tx, ty, tw, th⟩ := t
  go_enter Try.func3, Try.ntmps3
  go_wp2_with (first
    | (go_at_call 11; (with_reducible refine (cAwake _).mono ?_); rintro e w1 ⟨rfl, hb⟩
       have hB1 := below_next (below_al (below_al (below_al (Below.refl _ _) _) _) _) hb
       have Ka1 := (((Blk.new w _ _).alloc _).alloc _).next hb
       have Kb1 := ((Blk.new (w.alloc _) _ _).alloc _).next hb
       simp only [size_al] at Kb1
       have Kn1 := (Blk.new ((w.alloc _).alloc _) _ _).next hb
       simp only [size_al] at Kn1
       clear hb
       obtain ⟨ca0, ca1, ca2, ca3⟩ := blk4 Ka1
       have za := Ka1.lt
       have na : w.heap.size ≠ w1.heap.size := Nat.ne_of_lt za
       obtain ⟨cb0, cb1, cb2, cb3⟩ := blk4 Kb1
       have zb := Kb1.lt
       have nb : w.heap.size + 1 ≠ w1.heap.size := Nat.ne_of_lt zb
       obtain ⟨cn0, cn1, cn2, cn3⟩ := blk4 Kn1
       have zn := Kn1.lt
       have nn : w.heap.size + 2 ≠ w1.heap.size := Nat.ne_of_lt zn)
    | (go_at_call 12; (with_reducible refine (c1 _).mono ?_); rintro e w2 ⟨rfl, hb⟩
       have hB2 := below_next hB1 hb
       have Ka2 := Ka1.next hb
       have Kb2 := Kb1.next hb
       have Kn2 := Kn1.next hb
       clear ca0 ca1 ca2 ca3 cb0 cb1 cb2 cb3 cn0 cn1 cn2 cn3 za zb zn na nb nn Ka1 Kb1 Kn1
       clear hb
       obtain ⟨ca0, ca1, ca2, ca3⟩ := blk4 Ka2
       have za := Ka2.lt
       have na : w.heap.size ≠ w2.heap.size := Nat.ne_of_lt za
       obtain ⟨cb0, cb1, cb2, cb3⟩ := blk4 Kb2
       have zb := Kb2.lt
       have nb : w.heap.size + 1 ≠ w2.heap.size := Nat.ne_of_lt zb
       obtain ⟨cn0, cn1, cn2, cn3⟩ := blk4 Kn2
       have zn := Kn2.lt
       have nn : w.heap.size + 2 ≠ w2.heap.size := Nat.ne_of_lt zn)
    | (go_at_call 13; (with_reducible refine (d1 _).mono ?_); rintro e w3 ⟨rfl, hb⟩
       have hB3 := below_next (below_al hB2 _) hb
       have Ka3 := (Ka2.alloc _).next hb
       have Kb3 := (Kb2.alloc _).next hb
       have Kn3 := (Kn2.alloc _).next hb
       have Km3 := (Blk.new w2 _ _).next hb
       clear ca0 ca1 ca2 ca3 cb0 cb1 cb2 cb3 cn0 cn1 cn2 cn3 za zb zn na nb nn Ka2 Kb2 Kn2
       clear hb
       obtain ⟨ca0, ca1, ca2, ca3⟩ := blk4 Ka3
       have za := Ka3.lt
       have na : w.heap.size ≠ w3.heap.size := Nat.ne_of_lt za
       obtain ⟨cb0, cb1, cb2, cb3⟩ := blk4 Kb3
       have zb := Kb3.lt
       have nb : w.heap.size + 1 ≠ w3.heap.size := Nat.ne_of_lt zb
       obtain ⟨cn0, cn1, cn2, cn3⟩ := blk4 Kn3
       have zn := Kn3.lt
       have nn : w.heap.size + 2 ≠ w3.heap.size := Nat.ne_of_lt zn
       have zm := Km3.lt
       have nm : w2.heap.size ≠ w3.heap.size := Nat.ne_of_lt zm)
    | (go_at_call 14; (with_reducible refine (c2 _).mono ?_); rintro e w4 ⟨rfl, hb⟩
       have hB4 := below_next (below_al hB3 _) hb
       have Ka4 := (Ka3.alloc _).next hb
       have Kb4 := (Kb3.alloc _).next hb
       have Kn4 := (Kn3.alloc _).next hb
       have Km4 := (Km3.alloc _).next hb
       have Ko4 := (Blk.new w3 _ _).next hb
       clear ca0 ca1 ca2 ca3 cb0 cb1 cb2 cb3 cn0 cn1 cn2 cn3 za zb zn zm na nb nn nm Ka3 Kb3 Kn3 Km3
       clear hb
       obtain ⟨ca0, ca1, ca2, ca3⟩ := blk4 Ka4
       have za := Ka4.lt
       have na : w.heap.size ≠ w4.heap.size := Nat.ne_of_lt za
       obtain ⟨cb0, cb1, cb2, cb3⟩ := blk4 Kb4
       have zb := Kb4.lt
       have nb : w.heap.size + 1 ≠ w4.heap.size := Nat.ne_of_lt zb
       obtain ⟨cn0, cn1, cn2, cn3⟩ := blk4 Kn4
       have zn := Kn4.lt
       have nn : w.heap.size + 2 ≠ w4.heap.size := Nat.ne_of_lt zn
       have zm := Km4.lt
       have nm : w2.heap.size ≠ w4.heap.size := Nat.ne_of_lt zm
       have zo := Ko4.lt
       have no : w3.heap.size ≠ w4.heap.size := Nat.ne_of_lt zo)
    | (go_at_call 15; (with_reducible refine (d2 _).mono ?_); rintro e w5 ⟨rfl, hb⟩
       have hB5 := below_next (below_al hB4 _) hb
       have Ka5 := (Ka4.alloc _).next hb
       have Kb5 := (Kb4.alloc _).next hb
       have Kn5 := (Kn4.alloc _).next hb
       have Km5 := (Km4.alloc _).next hb
       have Ko5 := (Ko4.alloc _).next hb
       have Ki5 := (Blk.new w4 _ _).next hb
       clear ca0 ca1 ca2 ca3 cb0 cb1 cb2 cb3 cn0 cn1 cn2 cn3 za zb zn zm zo na nb nn nm no Ka4 Kb4 Kn4 Km4 Ko4
       clear hb
       obtain ⟨ca0, ca1, ca2, ca3⟩ := blk4 Ka5
       have za := Ka5.lt
       have na : w.heap.size ≠ w5.heap.size := Nat.ne_of_lt za
       obtain ⟨cb0, cb1, cb2, cb3⟩ := blk4 Kb5
       have zb := Kb5.lt
       have nb : w.heap.size + 1 ≠ w5.heap.size := Nat.ne_of_lt zb
       obtain ⟨cn0, cn1, cn2, cn3⟩ := blk4 Kn5
       have zn := Kn5.lt
       have nn : w.heap.size + 2 ≠ w5.heap.size := Nat.ne_of_lt zn
       have zm := Km5.lt
       have nm : w2.heap.size ≠ w5.heap.size := Nat.ne_of_lt zm
       have zo := Ko5.lt
       have no : w3.heap.size ≠ w5.heap.size := Nat.ne_of_lt zo
       have zi := Ki5.lt
       have ni : w4.heap.size ≠ w5.heap.size := Nat.ne_of_lt zi)
    | (go_at_call 16; (with_reducible refine (c3 _ (below_al hB5 _)).mono ?_); rintro e w6 ⟨rfl, hb⟩
       have hB6 := below_next (below_al hB5 _) hb
       have Ka6 := (Ka5.alloc _).next hb
       have Kb6 := (Kb5.alloc _).next hb
       have Kn6 := (Kn5.alloc _).next hb
       have Km6 := (Km5.alloc _).next hb
       have Ko6 := (Ko5.alloc _).next hb
       have Ki6 := (Ki5.alloc _).next hb
       have Kj6 := (Blk.new w5 _ _).next hb
       clear ca0 ca1 ca2 ca3 cb0 cb1 cb2 cb3 cn0 cn1 cn2 cn3 za zb zn zm zo zi na nb nn nm no ni Ka5 Kb5 Kn5 Km5 Ko5 Ki5
       clear hb
       obtain ⟨ca0, ca1, ca2, ca3⟩ := blk4 Ka6
       have za := Ka6.lt
       have na : w.heap.size ≠ w6.heap.size := Nat.ne_of_lt za
       obtain ⟨cb0, cb1, cb2, cb3⟩ := blk4 Kb6
       have zb := Kb6.lt
       have nb : w.heap.size + 1 ≠ w6.heap.size := Nat.ne_of_lt zb
       obtain ⟨cn0, cn1, cn2, cn3⟩ := blk4 Kn6
       have zn := Kn6.lt
       have nn : w.heap.size + 2 ≠ w6.heap.size := Nat.ne_of_lt zn
       have zm := Km6.lt
       have nm : w2.heap.size ≠ w6.heap.size := Nat.ne_of_lt zm
       have zo := Ko6.lt
       have no : w3.heap.size ≠ w6.heap.size := Nat.ne_of_lt zo
       have zi := Ki6.lt
       have ni : w4.heap.size ≠ w6.heap.size := Nat.ne_of_lt zi
       have zj := Kj6.lt
       have nj : w5.heap.size ≠ w6.heap.size := Nat.ne_of_lt zj)
    | (go_at_call 17; (with_reducible refine (d3 _ (below_al hB6 _)).mono ?_); rintro e w7 ⟨rfl, hb⟩
       have hB7 := below_next (below_al hB6 _) hb
       have Ka7 := (Ka6.alloc _).next hb
       have Kb7 := (Kb6.alloc _).next hb
       have Kn7 := (Kn6.alloc _).next hb
       have Km7 := (Km6.alloc _).next hb
       have Ko7 := (Ko6.alloc _).next hb
       have Ki7 := (Ki6.alloc _).next hb
       have Kj7 := (Kj6.alloc _).next hb
       have Ku7 := (Blk.new w6 _ _).next hb
       clear ca0 ca1 ca2 ca3 cb0 cb1 cb2 cb3 cn0 cn1 cn2 cn3 za zb zn zm zo zi zj na nb nn nm no ni nj Ka6 Kb6 Kn6 Km6 Ko6 Ki6 Kj6
       clear hb
       obtain ⟨ca0, ca1, ca2, ca3⟩ := blk4 Ka7
       have za := Ka7.lt
       have na : w.heap.size ≠ w7.heap.size := Nat.ne_of_lt za
       obtain ⟨cb0, cb1, cb2, cb3⟩ := blk4 Kb7
       have zb := Kb7.lt
       have nb : w.heap.size + 1 ≠ w7.heap.size := Nat.ne_of_lt zb
       obtain ⟨cn0, cn1, cn2, cn3⟩ := blk4 Kn7
       have zn := Kn7.lt
       have nn : w.heap.size + 2 ≠ w7.heap.size := Nat.ne_of_lt zn
       have zm := Km7.lt
       have nm : w2.heap.size ≠ w7.heap.size := Nat.ne_of_lt zm
       have zo := Ko7.lt
       have no : w3.heap.size ≠ w7.heap.size := Nat.ne_of_lt zo
       have zi := Ki7.lt
       have ni : w4.heap.size ≠ w7.heap.size := Nat.ne_of_lt zi
       have zj := Kj7.lt
       have nj : w5.heap.size ≠ w7.heap.size := Nat.ne_of_lt zj
       have zu := Ku7.lt
       have nu : w6.heap.size ≠ w7.heap.size := Nat.ne_of_lt zu)
    | (go_at_call 18; (with_reducible refine (c4 _).mono ?_); rintro e w8 ⟨rfl, hb⟩
       have hB8 := below_next (below_al hB7 _) hb
       have Ka8 := (Ka7.alloc _).next hb
       have Kb8 := (Kb7.alloc _).next hb
       have Kn8 := (Kn7.alloc _).next hb
       have Km8 := (Km7.alloc _).next hb
       have Ko8 := (Ko7.alloc _).next hb
       have Ki8 := (Ki7.alloc _).next hb
       have Kj8 := (Kj7.alloc _).next hb
       have Ku8 := (Ku7.alloc _).next hb
       have Kv8 := (Blk.new w7 _ _).next hb
       clear ca0 ca1 ca2 ca3 cb0 cb1 cb2 cb3 cn0 cn1 cn2 cn3 za zb zn zm zo zi zj zu na nb nn nm no ni nj nu Ka7 Kb7 Kn7 Km7 Ko7 Ki7 Kj7 Ku7
       clear hb
       obtain ⟨ca0, ca1, ca2, ca3⟩ := blk4 Ka8
       have za := Ka8.lt
       have na : w.heap.size ≠ w8.heap.size := Nat.ne_of_lt za
       obtain ⟨cb0, cb1, cb2, cb3⟩ := blk4 Kb8
       have zb := Kb8.lt
       have nb : w.heap.size + 1 ≠ w8.heap.size := Nat.ne_of_lt zb
       obtain ⟨cn0, cn1, cn2, cn3⟩ := blk4 Kn8
       have zn := Kn8.lt
       have nn : w.heap.size + 2 ≠ w8.heap.size := Nat.ne_of_lt zn
       have zm := Km8.lt
       have nm : w2.heap.size ≠ w8.heap.size := Nat.ne_of_lt zm
       have zo := Ko8.lt
       have no : w3.heap.size ≠ w8.heap.size := Nat.ne_of_lt zo
       have zi := Ki8.lt
       have ni : w4.heap.size ≠ w8.heap.size := Nat.ne_of_lt zi
       have zj := Kj8.lt
       have nj : w5.heap.size ≠ w8.heap.size := Nat.ne_of_lt zj
       have zu := Ku8.lt
       have nu : w6.heap.size ≠ w8.heap.size := Nat.ne_of_lt zu
       have zv := Kv8.lt
       have nv : w7.heap.size ≠ w8.heap.size := Nat.ne_of_lt zv)
    | (go_at_call 19; (with_reducible refine (d4 _).mono ?_); rintro e w9 ⟨rfl, hb⟩
       have hB9 := below_next (below_al hB8 _) hb
       have Ka9 := (Ka8.alloc _).next hb
       have Kb9 := (Kb8.alloc _).next hb
       have Kn9 := (Kn8.alloc _).next hb
       have Km9 := (Km8.alloc _).next hb
       have Ko9 := (Ko8.alloc _).next hb
       have Ki9 := (Ki8.alloc _).next hb
       have Kj9 := (Kj8.alloc _).next hb
       have Ku9 := (Ku8.alloc _).next hb
       have Kv9 := (Kv8.alloc _).next hb
       have Ks9 := (Blk.new w8 _ _).next hb
       clear ca0 ca1 ca2 ca3 cb0 cb1 cb2 cb3 cn0 cn1 cn2 cn3 za zb zn zm zo zi zj zu zv na nb nn nm no ni nj nu nv Ka8 Kb8 Kn8 Km8 Ko8 Ki8 Kj8 Ku8 Kv8
       clear hb
       obtain ⟨ca0, ca1, ca2, ca3⟩ := blk4 Ka9
       have za := Ka9.lt
       have na : w.heap.size ≠ w9.heap.size := Nat.ne_of_lt za
       obtain ⟨cb0, cb1, cb2, cb3⟩ := blk4 Kb9
       have zb := Kb9.lt
       have nb : w.heap.size + 1 ≠ w9.heap.size := Nat.ne_of_lt zb
       obtain ⟨cn0, cn1, cn2, cn3⟩ := blk4 Kn9
       have zn := Kn9.lt
       have nn : w.heap.size + 2 ≠ w9.heap.size := Nat.ne_of_lt zn
       have zm := Km9.lt
       have nm : w2.heap.size ≠ w9.heap.size := Nat.ne_of_lt zm
       have zo := Ko9.lt
       have no : w3.heap.size ≠ w9.heap.size := Nat.ne_of_lt zo
       have zi := Ki9.lt
       have ni : w4.heap.size ≠ w9.heap.size := Nat.ne_of_lt zi
       have zj := Kj9.lt
       have nj : w5.heap.size ≠ w9.heap.size := Nat.ne_of_lt zj
       have zu := Ku9.lt
       have nu : w6.heap.size ≠ w9.heap.size := Nat.ne_of_lt zu
       have zv := Kv9.lt
       have nv : w7.heap.size ≠ w9.heap.size := Nat.ne_of_lt zv
       have zs := Ks9.lt
       have ns : w8.heap.size ≠ w9.heap.size := Nat.ne_of_lt zs))
  have hBE := below_al hB9 (.cells #[.int .i64 tx, .int .i64 ty, .int .i64 tw, .int .i64 th] 23)
  have Ea := Ka9.alloc (.cells #[.int .i64 tx, .int .i64 ty, .int .i64 tw, .int .i64 th] 23)
  have Eb := Kb9.alloc (.cells #[.int .i64 tx, .int .i64 ty, .int .i64 tw, .int .i64 th] 23)
  have En := Kn9.alloc (.cells #[.int .i64 tx, .int .i64 ty, .int .i64 tw, .int .i64 th] 23)
  have Em := Km9.alloc (.cells #[.int .i64 tx, .int .i64 ty, .int .i64 tw, .int .i64 th] 23)
  have Eo := Ko9.alloc (.cells #[.int .i64 tx, .int .i64 ty, .int .i64 tw, .int .i64 th] 23)
  have Ei := Ki9.alloc (.cells #[.int .i64 tx, .int .i64 ty, .int .i64 tw, .int .i64 th] 23)
  have Ej := Kj9.alloc (.cells #[.int .i64 tx, .int .i64 ty, .int .i64 tw, .int .i64 th] 23)
  have Eu := Ku9.alloc (.cells #[.int .i64 tx, .int .i64 ty, .int .i64 tw, .int .i64 th] 23)
  have Ev := Kv9.alloc (.cells #[.int .i64 tx, .int .i64 ty, .int .i64 tw, .int .i64 th] 23)
  have Es := Ks9.alloc (.cells #[.int .i64 tx, .int .i64 ty, .int .i64 tw, .int .i64 th] 23)
  have Et := Blk.new w9 23 #[.int .i64 tx, .int .i64 ty, .int .i64 tw, .int .i64 th]
  clear ca0 ca1 ca2 ca3 cb0 cb1 cb2 cb3 cn0 cn1 cn2 cn3 za zb zn zm zo zi zj zu zv zs na nb nn nm no ni nj nu nv ns hB1 hB2 hB3 hB4 hB5 hB6 hB7 hB8 hB9 Ka9 Kb9 Kn9 Km9 Ko9 Ki9 Kj9 Ku9 Kv9 Ks9
  generalize w9.alloc (.cells #[.int .i64 tx, .int .i64 ty, .int .i64 tw, .int .i64 th] 23) = E at *
  obtain ⟨ca0, ca1, ca2, ca3⟩ := blk4 Ea
  have za := Ea.lt
  obtain ⟨cb0, cb1, cb2, cb3⟩ := blk4 Eb
  have zb := Eb.lt
  obtain ⟨cn0, cn1, cn2, cn3⟩ := blk4 En
  have zn := En.lt
  obtain ⟨cm0, cm1, cm2, cm3⟩ := blk4 Em
  have zm := Em.lt
  obtain ⟨co0, co1, co2, co3⟩ := blk4 Eo
  have zo := Eo.lt
  obtain ⟨ci0, ci1, ci2, ci3⟩ := blk4 Ei
  have zi := Ei.lt
  obtain ⟨cj0, cj1, cj2, cj3⟩ := blk4 Ej
  have zj := Ej.lt
  obtain ⟨cu0, cu1, cu2, cu3⟩ := blk4 Eu
  have zu := Eu.lt
  obtain ⟨cv0, cv1, cv2, cv3⟩ := blk4 Ev
  have zv := Ev.lt
  obtain ⟨cs0, cs1, cs2, cs3⟩ := blk4 Es
  have zs := Es.lt
  obtain ⟨ct0, ct1, ct2, ct3⟩ := blk4 Et
  have zt := Et.lt
  first
  | (go_region_held3 (fun W' => (∀ b o, b < E.heap.size → W'.cell? ⟨b, o, none⟩ = E.cell? ⟨b, o, none⟩) ∧ Below E.heap.size E W')
      (first | assumption | exact ⟨fun _ _ _ => rfl, (Below.refl _ _).drew⟩ | exact sall (by assumption) (by assumption))
      (first
        | (go_at_call 20; (with_reducible refine (c5 _).mono ?_); rintro e wa ⟨rfl, hba⟩)
        | (go_at_call 21; (with_reducible refine (d5 _).mono ?_); rintro e wa ⟨rfl, hba⟩)
        | (go_at_call 22; (with_reducible refine (c6 _).mono ?_); rintro e wa ⟨rfl, hba⟩)
        | (go_at_call 23; (with_reducible refine (d6 _).mono ?_); rintro e wa ⟨rfl, hba⟩)))
  | (fail)
  all_goals
    go_wp2
    go_ret
    rename_i hS
    exact ⟨rfl, below_next hBE hS.2⟩
end rectTells
end Go.Proofs.Ytabijoohoofogaa
