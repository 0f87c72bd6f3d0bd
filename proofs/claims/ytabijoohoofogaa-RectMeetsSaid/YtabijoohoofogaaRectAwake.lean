/- awake of the statements of layer 2 answers true, from what rect's functions answer. Conditions: those answers. -/
import Derived.Test.YtabijoohoofogaaRectSpec
import Derived.Test.YtabijoohoofogaaBlk
namespace Go.Proofs.Ytabijoohoofogaa
open Go.ChangeShapes Go.WideShapes Go.ChangeAt Go.RowKit
/-- A slice that a literal made. -/
theorem Reads.made (w : World) (t : TypeId) (cs : Array Value) (size n : Nat) (h : cs.size = n * size) : Reads (w.alloc (.cells cs t)) (w.heap.size + 1) size (some ⟨w.heap.size, 0, none⟩) n cs.toList := by
  refine ⟨by simpa using h, fun _ => ⟨_, rfl, by show w.heap.size < _; omega, ?_⟩⟩
  intro j u hu
  have hc : (w.alloc (.cells cs t)).cell? ⟨w.heap.size, j, none⟩ = cs[j]? := cell_of_row _ w.heap.size j cs t (0, 0) (heap_alloc_new w _)
  have ha : (⟨w.heap.size, 0, none⟩ : Addr).add j = ⟨w.heap.size, j, none⟩ := by
    unfold Addr.add
    split
    · subst_vars; rfl
    · simp
  rw [ha, hc, ← hu]
  simp
namespace rectAwake
set_option maxHeartbeats 4000000 in
set_option maxRecDepth 100000 in
theorem awake_of (cMay : MayC) (cHas : HasC) (cMove : MoveC) (cInset : InsetC) (cUnion : UnionC) (cMeet : MeetC) (w : World) :
    Calls Try.prog 11 #[] w fun e w' => e = .returned (.bool true) ∧ Below w.heap.size w w' := by
  have h1 := fun w => cMeet ⟨0, 0, 10, 10⟩ ⟨5, 5, 10, 10⟩ w
  rw [show meetR ⟨0, 0, 10, 10⟩ ⟨5, 5, 10, 10⟩ = ⟨5, 5, 5, 5⟩ from by rw [meetR_yes (by decide)]; rfl, show meetB ⟨0, 0, 10, 10⟩ ⟨5, 5, 10, 10⟩ = true from by decide] at h1
  have h2 := fun (w : World) (o : Obj) => cUnion (some ⟨w.heap.size + 1, 0, none⟩) 2 2 (w.heap.size + 1 + 1) [⟨0, 0, 10, 10⟩, ⟨5, 5, 10, 10⟩] ((w.alloc o).alloc (.cells #[.int .i64 0, .int .i64 0, .int .i64 10, .int .i64 10, .int .i64 5, .int .i64 5, .int .i64 10, .int .i64 10] 23))
    (by have := Reads.made (w.alloc o) 23 #[.int .i64 0, .int .i64 0, .int .i64 10, .int .i64 10, .int .i64 5, .int .i64 5, .int .i64 10, .int .i64 10] 4 2 rfl; rw [size_al] at this; exact this) (by decide)
  rw [show (unionF [⟨0, 0, 10, 10⟩, ⟨5, 5, 10, 10⟩]).1 = ⟨0, 0, 15, 15⟩ from by rfl, show (unionF [⟨0, 0, 10, 10⟩, ⟨5, 5, 10, 10⟩]).2 = true from by decide] at h2
  have h3 := fun w => cMove ⟨0, 0, 10, 10⟩ 3 (-4) w
  rw [show moveR ⟨0, 0, 10, 10⟩ 3 (-4) = ⟨3, -4, 10, 10⟩ from by rfl, show moveOk ⟨0, 0, 10, 10⟩ 3 (-4) = true from by decide] at h3
  have h4 := fun w => cInset ⟨5, 5, 10, 10⟩ 1 2 3 4 w
  rw [show insetR ⟨5, 5, 10, 10⟩ 1 2 3 4 = ⟨9, 6, 4, 6⟩ from by rfl, show insetOk ⟨5, 5, 10, 10⟩ 1 2 3 4 = true from by decide] at h4
  have h5 := fun w => cInset ⟨0, 0, 10, 10⟩ 6 0 6 0 w
  rw [show insetR ⟨0, 0, 10, 10⟩ 6 0 6 0 = ⟨0, 6, 10, 0⟩ from by rfl, show insetOk ⟨0, 0, 10, 10⟩ 6 0 6 0 = false from by decide] at h5
  have h6 := fun w => cHas ⟨0, 0, 10, 10⟩ 9 0 w
  rw [show hasB ⟨0, 0, 10, 10⟩ 9 0 = true from by decide] at h6
  have h7 := fun w => cHas ⟨0, 0, 10, 10⟩ 10 0 w
  rw [show hasB ⟨0, 0, 10, 10⟩ 10 0 = false from by decide] at h7
  have h8 := fun w => cMay ⟨0, 0, 10, 10⟩ w
  rw [show mayB ⟨0, 0, 10, 10⟩ = true from by decide] at h8
  have h9 := fun w => cMay ⟨0, 0, -1, 0⟩ w
  rw [show mayB ⟨0, 0, -1, 0⟩ = false from by decide] at h9
  go_enter Try.func11, Try.ntmps11
  go_wp2_with (first
    | (go_at_call 18; (with_reducible refine (h1 _).mono ?_); rintro e w1 ⟨rfl, hb⟩
       have hB1 := below_next (below_al (below_al (Below.refl _ _) _) _) hb
       have Ka1 := ((Blk.new w 23 _).alloc _).next hb
       have Kb1 := (Blk.new (w.alloc _) 23 _).next hb
       simp only [size_al] at Kb1
       clear hb
       obtain ⟨ca0, ca1, ca2, ca3⟩ := blk4 Ka1
       have za := Ka1.lt
       have na : w.heap.size ≠ w1.heap.size := Nat.ne_of_lt za
       obtain ⟨cb0, cb1, cb2, cb3⟩ := blk4 Kb1
       have zb := Kb1.lt
       have nb : w.heap.size + 1 ≠ w1.heap.size := Nat.ne_of_lt zb)
    | (go_at_call 16; (with_reducible refine (h2 _ _).mono ?_); rintro e w2 ⟨rfl, hb⟩
       have hB2 := below_next (below_al (below_al hB1 _) _) hb
       have Ka2 := ((Ka1.alloc _).alloc _).next hb
       have Kb2 := ((Kb1.alloc _).alloc _).next hb
       have Km2 := ((Blk.new w1 23 _).alloc _).next hb
       clear ca0 ca1 ca2 ca3 cb0 cb1 cb2 cb3 za zb na nb Ka1 Kb1
       clear hb
       obtain ⟨ca0, ca1, ca2, ca3⟩ := blk4 Ka2
       have za := Ka2.lt
       have na : w.heap.size ≠ w2.heap.size := Nat.ne_of_lt za
       obtain ⟨cb0, cb1, cb2, cb3⟩ := blk4 Kb2
       have zb := Kb2.lt
       have nb : w.heap.size + 1 ≠ w2.heap.size := Nat.ne_of_lt zb
       obtain ⟨cm0, cm1, cm2, cm3⟩ := blk4 Km2
       have zm := Km2.lt
       have nm : w1.heap.size ≠ w2.heap.size := Nat.ne_of_lt zm)
    | (go_at_call 12; (with_reducible refine (h3 _).mono ?_); rintro e w3 ⟨rfl, hb⟩
       have hB3 := below_next (below_al hB2 _) hb
       have Ka3 := (Ka2.alloc _).next hb
       have Kb3 := (Kb2.alloc _).next hb
       have Km3 := (Km2.alloc _).next hb
       have Ku3 := (Blk.new w2 23 _).next hb
       clear ca0 ca1 ca2 ca3 cb0 cb1 cb2 cb3 cm0 cm1 cm2 cm3 za zb zm na nb nm Ka2 Kb2 Km2
       clear hb
       obtain ⟨ca0, ca1, ca2, ca3⟩ := blk4 Ka3
       have za := Ka3.lt
       have na : w.heap.size ≠ w3.heap.size := Nat.ne_of_lt za
       obtain ⟨cb0, cb1, cb2, cb3⟩ := blk4 Kb3
       have zb := Kb3.lt
       have nb : w.heap.size + 1 ≠ w3.heap.size := Nat.ne_of_lt zb
       obtain ⟨cm0, cm1, cm2, cm3⟩ := blk4 Km3
       have zm := Km3.lt
       have nm : w1.heap.size ≠ w3.heap.size := Nat.ne_of_lt zm
       obtain ⟨cu0, cu1, cu2, cu3⟩ := blk4 Ku3
       have zu := Ku3.lt
       have nu : w2.heap.size ≠ w3.heap.size := Nat.ne_of_lt zu)
    | (go_at_call 14; (with_reducible refine (h4 _).mono ?_); rintro e w4 ⟨rfl, hb⟩
       have hB4 := below_next (below_al hB3 _) hb
       have Ka4 := (Ka3.alloc _).next hb
       have Kb4 := (Kb3.alloc _).next hb
       have Km4 := (Km3.alloc _).next hb
       have Ku4 := (Ku3.alloc _).next hb
       have Kv4 := (Blk.new w3 23 _).next hb
       clear ca0 ca1 ca2 ca3 cb0 cb1 cb2 cb3 cm0 cm1 cm2 cm3 cu0 cu1 cu2 cu3 za zb zm zu na nb nm nu Ka3 Kb3 Km3 Ku3
       clear hb
       obtain ⟨ca0, ca1, ca2, ca3⟩ := blk4 Ka4
       have za := Ka4.lt
       have na : w.heap.size ≠ w4.heap.size := Nat.ne_of_lt za
       obtain ⟨cb0, cb1, cb2, cb3⟩ := blk4 Kb4
       have zb := Kb4.lt
       have nb : w.heap.size + 1 ≠ w4.heap.size := Nat.ne_of_lt zb
       obtain ⟨cm0, cm1, cm2, cm3⟩ := blk4 Km4
       have zm := Km4.lt
       have nm : w1.heap.size ≠ w4.heap.size := Nat.ne_of_lt zm
       obtain ⟨cu0, cu1, cu2, cu3⟩ := blk4 Ku4
       have zu := Ku4.lt
       have nu : w2.heap.size ≠ w4.heap.size := Nat.ne_of_lt zu
       obtain ⟨cv0, cv1, cv2, cv3⟩ := blk4 Kv4
       have zv := Kv4.lt
       have nv : w3.heap.size ≠ w4.heap.size := Nat.ne_of_lt zv)
    | (go_at_call 14; (with_reducible refine (h5 _).mono ?_); rintro e w5 ⟨rfl, hb⟩
       have hB5 := below_next (below_al hB4 _) hb
       have Ka5 := (Ka4.alloc _).next hb
       have Km5 := (Km4.alloc _).next hb
       have Ku5 := (Ku4.alloc _).next hb
       have Kv5 := (Kv4.alloc _).next hb
       have Ki5 := (Blk.new w4 23 _).next hb
       clear ca0 ca1 ca2 ca3 cm0 cm1 cm2 cm3 cu0 cu1 cu2 cu3 cv0 cv1 cv2 cv3 za zm zu zv na nm nu nv Ka4 Km4 Ku4 Kv4
       clear hb
       obtain ⟨ca0, ca1, ca2, ca3⟩ := blk4 Ka5
       have za := Ka5.lt
       have na : w.heap.size ≠ w5.heap.size := Nat.ne_of_lt za
       obtain ⟨cm0, cm1, cm2, cm3⟩ := blk4 Km5
       have zm := Km5.lt
       have nm : w1.heap.size ≠ w5.heap.size := Nat.ne_of_lt zm
       obtain ⟨cu0, cu1, cu2, cu3⟩ := blk4 Ku5
       have zu := Ku5.lt
       have nu : w2.heap.size ≠ w5.heap.size := Nat.ne_of_lt zu
       obtain ⟨cv0, cv1, cv2, cv3⟩ := blk4 Kv5
       have zv := Kv5.lt
       have nv : w3.heap.size ≠ w5.heap.size := Nat.ne_of_lt zv
       obtain ⟨ci0, ci1, ci2, ci3⟩ := blk4 Ki5
       have zi := Ki5.lt
       have ni : w4.heap.size ≠ w5.heap.size := Nat.ne_of_lt zi)
    | (go_at_call 22; (with_reducible refine (h6 _).mono ?_); rintro e w6 ⟨rfl, hb⟩
       have hB6 := below_next (below_al hB5 _) hb
       have Ka6 := (Ka5.alloc _).next hb
       have Km6 := (Km5.alloc _).next hb
       have Ku6 := (Ku5.alloc _).next hb
       have Kv6 := (Kv5.alloc _).next hb
       have Ki6 := (Ki5.alloc _).next hb
       clear ca0 ca1 ca2 ca3 cm0 cm1 cm2 cm3 cu0 cu1 cu2 cu3 cv0 cv1 cv2 cv3 ci0 ci1 ci2 ci3 za zm zu zv zi na nm nu nv ni Ka5 Km5 Ku5 Kv5 Ki5
       clear hb
       obtain ⟨ca0, ca1, ca2, ca3⟩ := blk4 Ka6
       have za := Ka6.lt
       have na : w.heap.size ≠ w6.heap.size := Nat.ne_of_lt za
       obtain ⟨cm0, cm1, cm2, cm3⟩ := blk4 Km6
       have zm := Km6.lt
       have nm : w1.heap.size ≠ w6.heap.size := Nat.ne_of_lt zm
       obtain ⟨cu0, cu1, cu2, cu3⟩ := blk4 Ku6
       have zu := Ku6.lt
       have nu : w2.heap.size ≠ w6.heap.size := Nat.ne_of_lt zu
       obtain ⟨cv0, cv1, cv2, cv3⟩ := blk4 Kv6
       have zv := Kv6.lt
       have nv : w3.heap.size ≠ w6.heap.size := Nat.ne_of_lt zv
       obtain ⟨ci0, ci1, ci2, ci3⟩ := blk4 Ki6
       have zi := Ki6.lt
       have ni : w4.heap.size ≠ w6.heap.size := Nat.ne_of_lt zi)
    | (go_at_call 22; (with_reducible refine (h7 _).mono ?_); rintro e w7 ⟨rfl, hb⟩
       have hB7 := below_next hB6 hb
       have Ka7 := Ka6.next hb
       clear ca0 ca1 ca2 ca3 za na Ka6
       clear hb
       obtain ⟨ca0, ca1, ca2, ca3⟩ := blk4 Ka7
       have za := Ka7.lt
       have na : w.heap.size ≠ w7.heap.size := Nat.ne_of_lt za)
    | (go_at_call 20; (with_reducible refine (h8 _).mono ?_); rintro e w8 ⟨rfl, hb⟩
       have hB8 := below_next hB7 hb
       have Ka8 := Ka7.next hb
       clear ca0 ca1 ca2 ca3 za na Ka7
       clear hb
       obtain ⟨ca0, ca1, ca2, ca3⟩ := blk4 Ka8
       have za := Ka8.lt
       have na : w.heap.size ≠ w8.heap.size := Nat.ne_of_lt za)
    | (go_at_call 20; (with_reducible refine (h9 _).mono ?_); rintro e w9 ⟨rfl, hb⟩
       have hB9 := below_next hB8 hb
       clear hb))
  go_ret
  exact ⟨rfl, hB9⟩
end rectAwake
end Go.Proofs.Ytabijoohoofogaa
