/- What the document's own Blank, Trim and has of layer 7 answer. Conditions: the text is not too long. -/
import Derived.Test.YthacboofbbfmlaaGreatDoorScanSpec
import Derived.Test.YthacboofbbfmlaaGreatDoorBytes
namespace Go.Proofs.YthacboofbbfmlaaGreatDoor
open Go.ChangeShapes Go.WideShapes Go.ChangeAt Go.RowKit
theorem isBlank_is (c : UInt8) : isBlank c = (((c.toNat : Int) == 32) || ((c.toNat : Int) == 9) || ((c.toNat : Int) == 10) || ((c.toNat : Int) == 13)) := by
  have : ∀ c : Fin 256, isBlank (UInt8.ofFin c) = ((((UInt8.ofFin c).toNat : Int) == 32) || (((UInt8.ofFin c).toNat : Int) == 9) || (((UInt8.ofFin c).toNat : Int) == 10) || (((UInt8.ofFin c).toNat : Int) == 13)) := by decide +kernel
  exact this c.toFin
theorem rblank_any (c : UInt8) (w : World) : Calls Tryz.prog 48 #[.int .u8 (c.toNat : Int)] w fun e w' => e = .returned (.bool (isBlank c)) ∧ w = w' := by
  rw [isBlank_is]
  generalize (c.toNat : Int) = x
  cases h1 : x == 32 <;> cases h2 : x == 9 <;> cases h3 : x == 10 <;> cases h4 : x == 13
  all_goals
    go_enter Tryz.func48, Tryz.ntmps48
    go_wp2
    go_ret
    exact ⟨rfl, rfl⟩
theorem trimL_head {a : UInt8} (t : List UInt8) (h : isBlank a = true) : trimL (a :: t) = trimL t := by
  unfold trimL
  rw [List.dropWhile_cons, if_pos h]
theorem trimL_last {b : UInt8} (l : List UInt8) (h : isBlank b = true) : trimL (l ++ [b]) = trimL l := by
  unfold trimL
  rw [List.dropWhile_append]
  cases hd : l.dropWhile isBlank with
  | nil => simp [h]
  | cons c d =>
    rw [if_neg (by simp)]
    rw [List.reverse_append]
    show ((b :: (c :: d).reverse).dropWhile isBlank).reverse = _
    rw [List.dropWhile_cons, if_pos h]
theorem trimL_same {a b : UInt8} (t u : List UInt8) (e : a :: t = u ++ [b]) (ha : isBlank a = false) (hb : isBlank b = false) : trimL (a :: t) = a :: t := by
  unfold trimL
  rw [dropWhile_self (l := a :: t) (fun x y h => by injection h with h1 h2; rw [← h1]; exact ha), e, List.reverse_append]
  show ((b :: u.reverse).dropWhile isBlank).reverse = _
  rw [List.dropWhile_cons, if_neg (by rw [hb]; decide)]
  simp
theorem list_head (s : ByteArray) (h : 0 < s.size) : s.data.toList = s[0] :: s.data.toList.drop 1 := by
  have e := List.drop_eq_getElem_cons (l := s.data.toList) (i := 0) (by rw [size_list]; exact h)
  rw [List.drop_zero] at e
  exact e
theorem list_last (s : ByteArray) (n : Nat) (h : s.size = n + 1) : s.data.toList = s.data.toList.take n ++ [s[n]] := by
  have e : s.data.toList.take (n + 1) = s.data.toList := List.take_of_length_le (by rw [size_list]; omega)
  have e2 := List.take_succ_eq_append_getElem (l := s.data.toList) (i := n) (by rw [size_list]; omega)
  rw [e] at e2
  exact e2
theorem extract_list (s : ByteArray) (i j : Nat) : (s.extract i j).data.toList = (s.data.toList.take j).drop i := by
  rw [ByteArray.data_extract]
  simp [Array.toList_extract, List.extract_eq_take_drop, List.drop_take]
theorem onB_eq {f g : List UInt8 → List UInt8} {s t : ByteArray} (h : f s.data.toList = g t.data.toList) : onB f s = onB g t := by unfold onB; rw [h]
set_option maxHeartbeats 1000000 in
theorem rtrim_n (n : Nat) : ∀ (s : ByteArray) (w : World), s.size = n → s.size ≤ maxLen →
    Calls Tryz.prog 24 #[.string s] w fun e w' => e = .returned (.string (onB trimL s)) ∧ w = w' := by
  induction n with
  | zero =>
    intro s w hs _
    have hl : s.data.toList = [] := List.eq_nil_of_length_eq_zero (by rw [size_list]; exact hs)
    have e0 : (s.toList == []) = true := by rw [ByteArray.toList_eq, hl]; rfl
    have e1 : onB trimL s = s := by
      refine bytes_inj ?_
      rw [onB_list, hl]; rfl
    rw [e1]
    clear e1 hl
    go_enter Tryz.func24, Tryz.ntmps24
    go_wp2
    go_ret
    exact ⟨rfl, rfl⟩
  | succ n ih =>
    intro s w hs hm
    have hl1 := list_head s (by omega)
    have hl2 := list_last s n hs
    have e0 : (s.toList == []) = false := by
      rw [ByteArray.toList_eq, hl1, beq_eq_false_iff_ne]
      exact List.cons_ne_nil _ _
    have c1 := fun w => rblank_any s[0] w
    have c2 := fun w => rblank_any s[n] w
    unfold maxLen at hm
    cases h1 : isBlank s[0]
    · rw [h1] at c1
      cases h2 : isBlank s[n]
      · have e1 : onB trimL s = s := by
          refine bytes_inj ?_
          rw [onB_list]
          have := trimL_same _ _ (hl1.symm.trans hl2) h1 h2
          rwa [← hl1] at this
        rw [h2] at c2
        rw [e1]
        clear hl1 hl2 e1 ih h1 h2
        go_enter Tryz.func24, Tryz.ntmps24
        go_wp2_with (go_at_call 48; (first | (with_reducible refine (c1 _).mono ?_) | (with_reducible refine (c2 _).mono ?_)); rintro e w' ⟨rfl, rfl⟩)
        go_ret
        exact ⟨rfl, rfl⟩
      · have e1 : onB trimL s = onB trimL (s.extract 0 n) := onB_eq (by
          rw [extract_list, List.drop_zero]
          conv => lhs; rw [hl2]
          exact trimL_last _ h2)
        have c3 := fun w => ih (s.extract 0 n) w (by rw [ByteArray.size_extract]; omega) (by unfold maxLen; rw [ByteArray.size_extract]; omega)
        rw [h2] at c2
        rw [e1]
        clear hl1 hl2 e1 ih h1 h2
        go_enter Tryz.func24, Tryz.ntmps24
        go_wp2_with (first
          | (go_at_call 48; (first | (with_reducible refine (c1 _).mono ?_) | (with_reducible refine (c2 _).mono ?_)); rintro e w' ⟨rfl, rfl⟩)
          | (go_at_call 24; (with_reducible refine (c3 _).mono ?_); rintro e w' ⟨rfl, rfl⟩))
        go_ret
        exact ⟨rfl, rfl⟩
    · have e1 : onB trimL s = onB trimL (s.extract 1 (n + 1)) := onB_eq (by
        rw [extract_list]
        have : s.data.toList.take (n + 1) = s.data.toList := List.take_of_length_le (by rw [size_list]; omega)
        rw [this]
        conv => lhs; rw [hl1]
        exact trimL_head _ h1)
      have c3 := fun w => ih (s.extract 1 (n + 1)) w (by rw [ByteArray.size_extract]; omega) (by unfold maxLen; rw [ByteArray.size_extract]; omega)
      rw [h1] at c1
      rw [e1]
      clear hl1 hl2 e1 ih h1 c2
      go_enter Tryz.func24, Tryz.ntmps24
      go_wp2_with (first
        | (go_at_call 48; (with_reducible refine (c1 _).mono ?_); rintro e w' ⟨rfl, rfl⟩)
        | (go_at_call 24; (with_reducible refine (c3 _).mono ?_); rintro e w' ⟨rfl, rfl⟩))
      go_ret
      exact ⟨rfl, rfl⟩
theorem rtrim_any (s : ByteArray) (w : World) (h : s.size ≤ maxLen) :
    Calls Tryz.prog 24 #[.string s] w fun e w' => e = .returned (.string (onB trimL s)) ∧ w = w' := rtrim_n s.size s w rfl h
end Go.Proofs.YthacboofbbfmlaaGreatDoor
