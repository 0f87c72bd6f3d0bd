/- What Read answers, of the landed code of package value, from what scan.Trim, scan.Lower, May and read answer. Conditions: that. -/
import Derived.Test.YtfamhjmdffaphaaGreatDoorValRk
import Derived.Test.YtfamhjmdffaphaaGreatDoorValC
import Derived.Test.YtfamhjmdffaphaaGreatDoorValAwake
namespace Go.Proofs.YtfamhjmdffaphaaGreatDoor
open Go.ChangeShapes Go.WideShapes Go.ChangeAt Go.RowKit
namespace Val
def kindP (p k : Int) (l : List UInt8) : Option (Int × Int) := match kindV p k l with
  | some n => if mayP p k n then some (k, n) else none
  | none => none
theorem kind_one {p k : Int} (l : List UInt8) (hk : k ≠ 0) : kindP p k l = oneP p k l := by
  unfold kindP kindV oneP
  rw [if_neg hk]
  cases readK p k l <;> rfl
theorem readP_eq (p : Int) (l : List UInt8) : readP p l = (List.range 7).findSome? (fun j : Nat => kindP p (j : Int) l) := by
  refine Eq.symm ?_
  have e : (List.range 7).findSome? (fun j : Nat => kindP p (j : Int) l) = ([0, 1, 2, 3, 4, 5, 6] : List Nat).findSome? (fun j : Nat => kindP p (j : Int) l) := rfl
  have h0 : kindP p ((0 : Nat) : Int) l = none := rfl
  rw [e]
  unfold readP
  rw [List.findSome?_cons, h0]
  simp only [List.findSome?_cons, List.findSome?_nil]
  rw [kind_one l (by decide), kind_one l (by decide), kind_one l (by decide), kind_one l (by decide), kind_one l (by decide), kind_one l (by decide)]
  rfl
theorem find_at {α : Type} {f : Nat → Option α} {k : Nat} {x : α} : ∀ {n : Nat}, k < n → (∀ j, j < k → f j = none) → f k = some x → (List.range n).findSome? f = some x := by
  intro n
  induction n with
  | zero => intro h; omega
  | succ n ih =>
    intro hk h hx
    rw [List.range_succ, List.findSome?_append]
    by_cases hn : k < n
    · rw [ih hn h hx]; rfl
    · obtain rfl : k = n := by omega
      have h1 : (List.range k).findSome? f = none := by
        rw [List.findSome?_eq_none_iff]
        intro a ha
        exact h a (List.mem_range.1 ha)
      rw [h1, List.findSome?_cons, hx]
      rfl
theorem find_no {α : Type} {f : Nat → Option α} {n : Nat} (h : ∀ j, j < n → f j = none) : (List.range n).findSome? f = none := by
  rw [List.findSome?_eq_none_iff]
  intro a ha
  exact h a (List.mem_range.1 ha)
theorem fz2 {w : World} {g : Nat} {t : TypeId} {cs : Array Value} (h : Blk w g t cs) : w.frozen? ⟨g, 0, none⟩ = false ∧ w.frozen? ⟨g, 1, none⟩ = false := ⟨h.frozen 0, h.frozen 1⟩
set_option maxRecDepth 100000 in
set_option maxHeartbeats 16000000 in
theorem read_of (cTrim : TrimC) (cLower : LowerC) (cWords : WordsC) (cMay : MayC) : ReadC := by
  intro p s w hs hT
  have c1 := fun w => cTrim s w hs
  have hs2 : (onB trimL s).size ≤ mostB := by
    have := trim_len s.data.toList
    rw [← Lib.size_eq] at this
    have e : (onB trimL s).size = (trimL s.data.toList).length := by show (toB (trimL s.data.toList)).size = _; rw [toB_size]
    omega
  have c2 := fun w => cLower (onB trimL s) w hs2
  have e2 : onB lowL (onB trimL s) = toB (lowL (trimL s.data.toList)) := rfl
  rw [e2] at c2
  have hs3 : (toB (lowL (trimL s.data.toList))).size ≤ mostB := by
    rw [toB_size, low_len]
    have e : (onB trimL s).size = (trimL s.data.toList).length := by show (toB (trimL s.data.toList)).size = _; rw [toB_size]
    omega
  obtain ⟨l, hl⟩ : ∃ l, l = lowL (trimL s.data.toList) := ⟨_, rfl⟩
  have hll : lowL l = l := by rw [hl, low_low]
  obtain ⟨R, hR⟩ : ∃ R, R = readF p s.data.toList := ⟨_, rfl⟩
  have hR2 : R = readP p l := by rw [hR, hl]; rfl
  rw [← hR]
  rw [readP_eq] at hR2
  rw [← hl] at c2 hs3
  clear e2 hs2 hR hl
  have c3 := fun (k : Nat) (hk : k < 7) w hT => read_any cWords p k ⟨by omega, by omega⟩ (toB l) hs3 hll w hT
  rw [toB_list] at c3
  generalize onB trimL s = t1 at *
  generalize toB l = t2 at *
  have HR := Lib.hid hR2
  clear hR2 hll hs3
  obtain ⟨f, hf⟩ : ∃ f : Nat → Option (Int × Int), f = fun j : Nat => kindP p (j : Int) l := ⟨_, rfl⟩
  have hR3 : R = (List.range 7).findSome? f := by rw [hf]; exact HR.out
  have HF := Lib.hid hR3
  clear HR hR3
  have Kr := Blk.new w 23 #[.int .i64 0, .int .i64 0]
  have hB := below_al (Below.refl w.heap.size w) (.cells #[.int .i64 0, .int .i64 0] 23)
  unfold vV at *
  go_enter Tryz.func8, Tryz.ntmps8
  go_wp2_with (first
    | (go_at_call 23; (with_reducible refine (c1 _).mono ?_); rintro e w1 ⟨rfl, hb1⟩
       have hB1 := below_next hB hb1
       have K1 := Kr.next hb1)
    | (go_at_call 22; (with_reducible refine (c2 _).mono ?_); rintro e w2 ⟨rfl, hb2⟩
       have hB2 := below_next hB1 hb2
       have K2 := K1.next hb2))
  clear Kr hB hB1 K1 hb1 hb2
  go_loopw [7, 8, 9, 10, 14] (fun _ _ _ _ i wr => ∃ k : Nat, k ≤ 7 ∧ i = .int .i64 k ∧ Hid (∀ j : Nat, j < k → f j = none) ∧ Below w.heap.size w wr ∧ Blk wr w.heap.size 23 #[.int .i64 0, .int .i64 0]) (fun _ _ _ _ i _ => 7 - (intOf i).toNat)
  case atStart => exact ⟨0, Nat.zero_le _, rfl, fun j h => absurd h (by omega), hB2, K2⟩
  case round =>
    obtain ⟨k, hk, rfl, HK, hBr, Kr⟩ := hrel
    clear hB2 K2
    by_cases hlt : k < 7
    · have kl : (k : Int) < 7 := by omega
      have k0 : (0 : Int) ≤ (k : Int) := Int.natCast_nonneg _
      have c := fun w hT => c3 k hlt w hT
      have hfk : f k = kindP p (k : Int) l := by rw [hf]
      unfold kindP at hfk
      cases hv : kindV p (k : Int) l with
      | none =>
        rw [hv] at c hfk
        simp only at hfk
        simp only [okV] at c
        have HK' : Hid (∀ j : Nat, j < k + 1 → f j = none) := by
          intro j hj
          by_cases e : j = k
          · subst e; exact hfk
          · exact HK.out j (by omega)
        clear hfk HK hv c3 hf
        go_wp2_with (first
          | (go_at_call 24; (with_reducible refine (c _ (hT.at_ hBr)).mono ?_); rintro e w3 ⟨⟨z, rfl⟩, hb3⟩
             have hB3 := below_next hBr hb3
             have K3 := Kr.next hb3))
        go_roundw
        case rel => exact ⟨k + 1, by omega, by go_num, HK', below_al hB3 _, K3.alloc _⟩
        case measure => simp [intOf]; omega
      | some n =>
        rw [hv] at c hfk
        simp only [okV] at c
        simp only at hfk
        have c4 := fun w => cMay p (k : Int) n w
        unfold vV at c4
        cases hm : mayP p (k : Int) n with
        | false =>
          rw [hm] at c4 hfk
          rw [if_neg (by decide)] at hfk
          have HK' : Hid (∀ j : Nat, j < k + 1 → f j = none) := by
            intro j hj
            by_cases e : j = k
            · subst e; exact hfk
            · exact HK.out j (by omega)
          clear hfk HK hv c3 hf hm
          go_wp2_with (first
            | (go_at_call 24; (with_reducible refine (c _ (hT.at_ hBr)).mono ?_); rintro e w3 ⟨rfl, hb3⟩
               have hB3 := below_next hBr hb3
               have K3 := Kr.next hb3)
            | (go_at_call 14; (with_reducible refine (c4 _).mono ?_); rintro e w4 ⟨rfl, hb4⟩
               have hB4 := below_next (below_al hB3 _) hb4
               have K4 := (K3.alloc _).next hb4))
          go_roundw
          case rel => exact ⟨k + 1, by omega, by go_num, HK', hB4, K4⟩
          case measure => simp [intOf]; omega
        | true =>
          rw [hm] at c4 hfk
          rw [if_pos rfl] at hfk
          obtain rfl : R = some ((k : Int), n) := by rw [HF.out]; exact find_at hlt HK.out hfk
          clear hfk HK hv c3 hf hm HF
          go_wp2_with (first
            | (go_at_call 24; (with_reducible refine (c _ (hT.at_ hBr)).mono ?_); rintro e w3 ⟨rfl, hb3⟩
               have hB3 := below_next hBr hb3
               have K3 := Kr.next hb3)
            | (go_at_call 14; (with_reducible refine (c4 _).mono ?_); rintro e w4 ⟨rfl, hb4⟩
               have hB4 := below_next (below_al hB3 _) hb4
               have K4 := (K3.alloc _).next hb4
               have Kv := (Blk.new w3 23 #[.int .i64 (k : Int), .int .i64 n]).next hb4
               obtain ⟨cv0, cv1⟩ := blk2 Kv
               obtain ⟨cr0, cr1⟩ := blk2 K4
               obtain ⟨f0, f1⟩ := fz2 K4))
          exact bodyPost_ret (v := .tuple #[.agg #[.int .i64 (k : Int), .int .i64 n], .bool true]) (by simp [results, Tryz.results8, go_sem, cr0, cr1]) rfl ⟨rfl, below_set (below_set hB4 (Nat.le_refl _) _) (Nat.le_refl _) _⟩
    · obtain rfl : k = 7 := by omega
      obtain rfl : R = none := by rw [HF.out]; exact find_no HK.out
      obtain ⟨cr0, cr1⟩ := blk2 Kr
      obtain ⟨f0, f1⟩ := fz2 Kr
      clear HK HF c3 hf
      go_wp2
      exact bodyPost_ret (v := .tuple #[.agg #[.int .i64 0, .int .i64 0], .bool false]) (by simp [results, Tryz.results8, go_sem, cr0, cr1]) rfl ⟨rfl, below_set (below_set hBr (Nat.le_refl _) _) (Nat.le_refl _) _⟩
end Val
end Go.Proofs.YtfamhjmdffaphaaGreatDoor
