/- What the document's own Blank, Trim and has of layer 7 answer. Conditions: the text is not too long. -/
import Derived.Test.YthacboofbbfmlaaDoorScanSpec
import Derived.Test.YthacboofbbfmlaaDoorBytes
namespace Go.Proofs.YthacboofbbfmlaaDoor
open Go.ChangeShapes Go.WideShapes Go.ChangeAt Go.RowKit
theorem isBlank_is (c : UInt8) : isBlank c = (((c.toNat : Int) == 32) || ((c.toNat : Int) == 9) || ((c.toNat : Int) == 10) || ((c.toNat : Int) == 13)) := by
  have : ∀ c : Fin 256, isBlank (UInt8.ofFin c) = ((((UInt8.ofFin c).toNat : Int) == 32) || (((UInt8.ofFin c).toNat : Int) == 9) || (((UInt8.ofFin c).toNat : Int) == 10) || (((UInt8.ofFin c).toNat : Int) == 13)) := by decide +kernel
  exact this c.toFin
theorem rblank_any (c : UInt8) (w : World) : Calls Tryd.prog 15 #[.int .u8 (c.toNat : Int)] w fun e w' => e = .returned (.bool (isBlank c)) ∧ w = w' := by
  rw [isBlank_is]
  generalize (c.toNat : Int) = x
  cases h1 : x == 32 <;> cases h2 : x == 9 <;> cases h3 : x == 10 <;> cases h4 : x == 13
  all_goals
    go_enter Tryd.func15, Tryd.ntmps15
    go_wp2
    go_ret
    exact ⟨rfl, rfl⟩
theorem trimL_head {a : UInt8} (t : List UInt8) (h : isBlank a = true) : trimL (a :: t) = trimL t := by
  unfold trimL
  rw [List.dropWhile_cons, if_pos h]
theorem trimL_last {b : UInt8} (l : List UInt8) (h : isBlank b = true) : trimL (l ++ [b]) = trimL l := by
  unfold trimL
  rw [List.dropWhile_append]
  cases hd : l.dropWhile isBlank with
  | nil => simp [h]
  | cons c d =>
    rw [if_neg (by simp)]
    rw [List.reverse_append]
    show ((b :: (c :: d).reverse).dropWhile isBlank).reverse = _
    rw [List.dropWhile_cons, if_pos h]
theorem trimL_same {a b : UInt8} (t u : List UInt8) (e : a :: t = u ++ [b]) (ha : isBlank a = false) (hb : isBlank b = false) : trimL (a :: t) = a :: t := by
  unfold trimL
  rw [dropWhile_self (l := a :: t) (fun x y h => by injection h with h1 h2; rw [← h1]; exact ha), e, List.reverse_append]
  show ((b :: u.reverse).dropWhile isBlank).reverse = _
  rw [List.dropWhile_cons, if_neg (by rw [hb]; decide)]
  simp
theorem list_head (s : ByteArray) (h : 0 < s.size) : s.data.toList = s[0] :: s.data.toList.drop 1 := by
  have e := List.drop_eq_getElem_cons (l := s.data.toList) (i := 0) (by rw [size_list]; exact h)
  rw [List.drop_zero] at e
  exact e
theorem list_last (s : ByteArray) (n : Nat) (h : s.size = n + 1) : s.data.toList = s.data.toList.take n ++ [s[n]] := by
  have e : s.data.toList.take (n + 1) = s.data.toList := List.take_of_length_le (by rw [size_list]; omega)
  have e2 := List.take_succ_eq_append_getElem (l := s.data.toList) (i := n) (by rw [size_list]; omega)
  rw [e] at e2
  exact e2
theorem extract_list (s : ByteArray) (i j : Nat) : (s.extract i j).data.toList = (s.data.toList.take j).drop i := by
  rw [ByteArray.data_extract]
  simp [Array.toList_extract, List.extract_eq_take_drop, List.drop_take]
theorem onB_eq {f g : List UInt8 → List UInt8} {s t : ByteArray} (h : f s.data.toList = g t.data.toList) : onB f s = onB g t := by unfold onB; rw [h]
end Go.Proofs.YthacboofbbfmlaaDoor
