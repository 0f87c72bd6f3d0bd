/- RectUnites' walk, from what rect's functions answer. Conditions: those answers; the list lies in memory as it is read. -/
import Derived.Test.YtabijoohoofogaaRectSpec
import Derived.Test.YtabijoohoofogaaBlk
namespace Go.Proofs.Ytabijoohoofogaa
open Go.ChangeShapes Go.WideShapes Go.ChangeAt Go.RowKit
/-- The cells of the place number k of a list that lies in memory, as the walk spells them. -/
theorem place_at {w : World} {B n k : Nat} {A : Option Addr} {l : List Plc} {r : Plc} (h : Reads w B 4 A n (flat l)) (hk : l[k]? = some r) :
    ∃ ad, A = some ad ∧ ad.block < B ∧ w.cell? (ad.add (k * 4)) = some (.int .i64 r.x) ∧ w.cell? ⟨(ad.add (k * 4)).block, (ad.add (k * 4)).off + 1, none⟩ = some (.int .i64 r.y) ∧
      w.cell? ⟨(ad.add (k * 4)).block, (ad.add (k * 4)).off + 2, none⟩ = some (.int .i64 r.w) ∧ w.cell? ⟨(ad.add (k * 4)).block, (ad.add (k * 4)).off + 3, none⟩ = some (.int .i64 r.h) := by
  have hl : l.length = n := by have := h.1; rw [flat_length] at this; omega
  have hkl := (List.getElem?_eq_some_iff.1 hk).1
  obtain ⟨ad, e, hb, hc⟩ := h.2 (by omega)
  obtain ⟨f0, f1, f2, f3⟩ := flat_at l k r hk
  rw [Nat.mul_comm] at f0 f1 f2 f3
  refine ⟨ad, e, hb, hc _ _ f0, ?_, ?_, ?_⟩
  · have := hc _ _ f1; rwa [← add_of_add, add_one] at this
  · have := hc _ _ f2; rwa [← add_of_add, add_one] at this
  · have := hc _ _ f3; rwa [← add_of_add, add_one] at this
namespace rectUnites
set_option maxHeartbeats 4000000 in
set_option maxRecDepth 100000 in
theorem walk (cAwake : ∀ w, Calls Try.prog 11 #[] w fun e w' => e = .returned (.bool true) ∧ Below w.heap.size w w') (cMay : MayC) (cHas : HasC) (cUnion : UnionC) (cMeet : MeetC)
    (A : Option Addr) (n c : Nat) (l : List Plc) (x y : Int) (w : World) (hn : n ≤ 17592186043904) (hr : Reads w w.heap.size 4 A n (flat l)) :
    Calls Try.prog 6 #[.slice A n c, .int .i64 x, .int .i64 y] w fun e w' => e = .returned (.bool true) ∧ Below w.heap.size w w' := by
  by_cases h5 : 100 < n
  · go_enter Try.func6, Try.ntmps6
    go_wp2_with (go_at_call 11; refine (cAwake _).mono ?_; rintro e w1 ⟨rfl, hb⟩)
    go_ret
    exact ⟨rfl, hb⟩
  have h5' : n ≤ 100 := by omega
  clear h5
  have c1 := fun w1 (hb : Below w.heap.size w w1) => cUnion A n c w.heap.size l w1 (hr.below hb) hn
  cases h : (unionF l).2 with
  | false =>
    rw [h] at c1
    generalize (unionF l).1 = u at *
    obtain ⟨ux, uy, uw, uh⟩ := u
    go_enter Try.func6, Try.ntmps6
    go_wp2_with (first
      | (go_at_call 11; refine (cAwake _).mono ?_; rintro e w1 ⟨rfl, hb1⟩)
      | (go_at_call 16; (with_reducible refine (c1 _ hb1).mono ?_); rintro e w2 ⟨rfl, hb2⟩))
    go_ret
    exact ⟨rfl, below_al (below_next hb1 hb2) _⟩
  | true =>
    have hlen : l.length = n := by have := hr.1; rw [flat_length] at this; omega
    have HP : Hid (∀ r ∈ l, (hasB r x y = true → hasB (unionF l).1 x y = true) ∧ (0 < r.w → 0 < r.h → meetB (unionF l).1 r = true ∧ meetR (unionF l).1 r = r)) := fun r hr => ⟨fun hp => union_point h hr hp, fun a b => union_meets h hr a b⟩
    have c7 := fun w => cMay (unionF l).1 w
    rw [union_may h] at c7
    rw [h] at c1
    clear h
    generalize (unionF l).1 = u at *
    have c2 := fun w => cHas u x y w
    go_enter Try.func6, Try.ntmps6
    go_wp2_with (first
      | (go_at_call 11; refine (cAwake _).mono ?_; rintro e w1 ⟨rfl, hb1⟩)
      | (go_at_call 16; (with_reducible refine (c1 _ hb1).mono ?_); rintro e w2 ⟨rfl, hb2⟩; have hB2 := below_next hb1 hb2; clear hb1 hb2))
    have hB3 := below_al hB2 (.cells #[.int .i64 u.x, .int .i64 u.y, .int .i64 u.w, .int .i64 u.h] 23)
    have K3 := Blk.new w2 23 #[.int .i64 u.x, .int .i64 u.y, .int .i64 u.w, .int .i64 u.h]
    go_loopw [27] (fun i wr => ∃ k : Nat, k ≤ n ∧ i = .int .i64 k ∧ Below w.heap.size w wr ∧ Blk wr w2.heap.size 23 #[.int .i64 u.x, .int .i64 u.y, .int .i64 u.w, .int .i64 u.h]) (fun i _ => n - (intOf i).toNat)
    case atStart => exact ⟨0, Nat.zero_le _, rfl, hB3, K3⟩
    case round =>
      obtain ⟨k, hk, rfl, hBr, Kr⟩ := hrel
      by_cases hlt : k < n
      · have hkl : k < l.length := by omega
        obtain ⟨r, hrk⟩ : ∃ r, l[k]? = some r := ⟨l[k], List.getElem?_eq_getElem hkl⟩
        obtain ⟨ad, rfl, hab, e0, e1, e2, e3⟩ := place_at (hr.below hBr) hrk
        obtain ⟨hp1, hp2⟩ := HP.out r (List.mem_of_getElem? hrk)
        have c4 := fun w => cHas r x y w
        have c5 := fun w => cMeet u r w
        obtain ⟨cu0, cu1, cu2, cu3⟩ := blk4 Kr
        have zu := Kr.lt
        have nu : w2.heap.size ≠ wr.heap.size := Nat.ne_of_lt zu
        clear hrk
        have hm : ∃ (b : Bool) (m : Plc), meetB u r = b ∧ meetR u r = m ∧ ((¬ 0 < r.w) ∨ (0 < r.w ∧ ¬ 0 < r.h) ∨ (0 < r.w ∧ 0 < r.h ∧ b = true ∧ r = m)) := by
          refine ⟨_, _, rfl, rfl, ?_⟩
          by_cases g1 : 0 < r.w
          · by_cases g2 : 0 < r.h
            · exact Or.inr (Or.inr ⟨g1, g2, (hp2 g1 g2).1, (hp2 g1 g2).2.symm⟩)
            · exact Or.inr (Or.inl ⟨g1, g2⟩)
          · exact Or.inl g1
        clear hp2
        obtain ⟨b, m, eb, em, hm⟩ := hm
        rw [eb, em] at c5
        clear eb em
        obtain ⟨ux, uy, uw, uh⟩ := u
        cases ha : hasB r x y with
        | true =>
          rw [ha] at c4
          rw [hp1 ha] at c2
          clear ha hp1
          rcases hm with g1 | ⟨g1, g2⟩ | ⟨g1, g2, rfl, rfl⟩
          all_goals
            obtain ⟨rx, ry, rw_, rh⟩ := r
            simp only at *
            go_wp2_with (first
            | (go_at_call 22; (with_reducible refine (c4 _).mono ?_); rintro e w4 ⟨rfl, hb⟩
               have hB4 := below_next (below_al hBr _) hb
               have Ku4 := (Kr.alloc _).next hb
               have Kr4 := (Blk.new wr 23 _).next hb
               clear cu0 cu1 cu2 cu3 zu nu Kr e0 e1 e2 e3 hab
               clear hb
               obtain ⟨cu0, cu1, cu2, cu3⟩ := blk4 Ku4
               have zu := Ku4.lt
               have nu : w2.heap.size ≠ w4.heap.size := Nat.ne_of_lt zu
               obtain ⟨cr0, cr1, cr2, cr3⟩ := blk4 Kr4
               have zr := Kr4.lt
               have nr : wr.heap.size ≠ w4.heap.size := Nat.ne_of_lt zr)
            | (go_at_call 22; (with_reducible refine (c2 _).mono ?_); rintro e w5 ⟨rfl, hb⟩
               have hB5 := below_next hB4 hb
               have Ku5 := Ku4.next hb
               have Kr5 := Kr4.next hb
               clear cu0 cu1 cu2 cu3 cr0 cr1 cr2 cr3 zu zr nu nr Ku4 Kr4
               clear hb
               obtain ⟨cu0, cu1, cu2, cu3⟩ := blk4 Ku5
               have zu := Ku5.lt
               have nu : w2.heap.size ≠ w5.heap.size := Nat.ne_of_lt zu
               obtain ⟨cr0, cr1, cr2, cr3⟩ := blk4 Kr5
               have zr := Kr5.lt
               have nr : wr.heap.size ≠ w5.heap.size := Nat.ne_of_lt zr)
            | (go_at_call 18; (with_reducible refine (c5 _).mono ?_); rintro e w6 ⟨rfl, hb⟩
               have hB6 := below_next hB5 hb
               have Ku6 := Ku5.next hb
               have Kr6 := Kr5.next hb
               clear cu0 cu1 cu2 cu3 cr0 cr1 cr2 cr3 zu zr nu nr Ku5 Kr5
               clear hb
               obtain ⟨cu0, cu1, cu2, cu3⟩ := blk4 Ku6
               have zu := Ku6.lt
               have nu : w2.heap.size ≠ w6.heap.size := Nat.ne_of_lt zu
               obtain ⟨cr0, cr1, cr2, cr3⟩ := blk4 Kr6
               have zr := Kr6.lt
               have nr : wr.heap.size ≠ w6.heap.size := Nat.ne_of_lt zr))
            go_roundw
            case rel => exact ⟨k + 1, by omega, by go_num, below_al hB6 _, Blk.alloc (by assumption) _⟩
            case measure => simp [intOf]; omega
        | false =>
          rw [ha] at c4
          clear ha hp1
          rcases hm with g1 | ⟨g1, g2⟩ | ⟨g1, g2, rfl, rfl⟩
          all_goals
            obtain ⟨rx, ry, rw_, rh⟩ := r
            simp only at *
            go_wp2_with (first
            | (go_at_call 22; (with_reducible refine (c4 _).mono ?_); rintro e w4 ⟨rfl, hb⟩
               have hB4 := below_next (below_al hBr _) hb
               have Ku4 := (Kr.alloc _).next hb
               have Kr4 := (Blk.new wr 23 _).next hb
               clear cu0 cu1 cu2 cu3 zu nu Kr e0 e1 e2 e3 hab
               clear hb
               obtain ⟨cu0, cu1, cu2, cu3⟩ := blk4 Ku4
               have zu := Ku4.lt
               have nu : w2.heap.size ≠ w4.heap.size := Nat.ne_of_lt zu
               obtain ⟨cr0, cr1, cr2, cr3⟩ := blk4 Kr4
               have zr := Kr4.lt
               have nr : wr.heap.size ≠ w4.heap.size := Nat.ne_of_lt zr)
            | (go_at_call 18; (with_reducible refine (c5 _).mono ?_); rintro e w5 ⟨rfl, hb⟩
               have hB5 := below_next hB4 hb
               have Ku5 := Ku4.next hb
               have Kr5 := Kr4.next hb
               clear cu0 cu1 cu2 cu3 cr0 cr1 cr2 cr3 zu zr nu nr Ku4 Kr4
               clear hb
               obtain ⟨cu0, cu1, cu2, cu3⟩ := blk4 Ku5
               have zu := Ku5.lt
               have nu : w2.heap.size ≠ w5.heap.size := Nat.ne_of_lt zu
               obtain ⟨cr0, cr1, cr2, cr3⟩ := blk4 Kr5
               have zr := Kr5.lt
               have nr : wr.heap.size ≠ w5.heap.size := Nat.ne_of_lt zr))
            go_roundw
            case rel => exact ⟨k + 1, by omega, by go_num, below_al hB5 _, Blk.alloc (by assumption) _⟩
            case measure => simp [intOf]; omega
      · obtain ⟨cu0, cu1, cu2, cu3⟩ := blk4 Kr
        obtain ⟨ux, uy, uw, uh⟩ := u
        go_wp2_with (go_at_call 20; (with_reducible refine (c7 _).mono ?_); rintro e w9 ⟨rfl, hb9⟩)
        go_ret
        exact ⟨rfl, below_next hBr hb9⟩
end rectUnites
end Go.Proofs.Ytabijoohoofogaa
