/- What the document's own Words of layer 7 answers. Conditions: the text is not too long. -/
import Derived.Test.YthacboofbbfmlaaGreatDoorRx7Trim
import Derived.Test.YthacboofbbfmlaaGreatDoorTexts
namespace Go.Proofs.YthacboofbbfmlaaGreatDoor
open Go.ChangeShapes Go.WideShapes Go.ChangeAt Go.RowKit
theorem partsAt_ne (p : UInt8 → Bool) (l : List UInt8) : partsAt p l ≠ [] := by
  cases l with
  | nil => exact List.cons_ne_nil _ _
  | cons c t =>
    unfold partsAt
    split
    · exact List.cons_ne_nil _ _
    · split <;> exact List.cons_ne_nil _ _
/-- The words of what was begun, and of the rest. -/
def wfin (word rest : List UInt8) : List (List UInt8) := match partsAt isBlank rest with
  | [] => []
  | h :: r => ((word ++ h) :: r).filter fun w => !w.isEmpty
theorem wfin_all (l : List UInt8) : wordsF l = wfin [] l := by
  unfold wordsF wfin
  cases h : partsAt isBlank l with
  | nil => rfl
  | cons a r => rfl
theorem wfin_more {c : UInt8} (word t : List UInt8) (h : isBlank c = false) : wfin word (c :: t) = wfin (word ++ [c]) t := by
  unfold wfin
  rw [partsAt, if_neg (by rw [h]; decide)]
  cases hp : partsAt isBlank t with
  | nil => exact absurd hp (partsAt_ne _ _)
  | cons a r =>
    show ((word ++ (c :: a)) :: r).filter _ = (((word ++ [c]) ++ a) :: r).filter _
    rw [List.append_assoc]; rfl
theorem wfin_blank {c : UInt8} (word t : List UInt8) (h : isBlank c = true) : wfin word (c :: t) = (if word.isEmpty then [] else [word]) ++ wfin [] t := by
  have e := wfin_all t
  unfold wordsF at e
  rw [← e]
  unfold wfin
  rw [partsAt, if_pos h]
  show ((word ++ []) :: partsAt isBlank t).filter _ = _
  rw [List.append_nil, List.filter_cons]
  cases word.isEmpty <;> rfl
theorem wfin_end (word : List UInt8) : wfin word [] = (if word.isEmpty then [] else [word]) := by
  unfold wfin
  show ((word ++ []) :: []).filter _ = _
  rw [List.append_nil, List.filter_cons]
  cases word.isEmpty <;> rfl
theorem cat_one (word : List UInt8) (s : ByteArray) (k : Nat) (h : k < s.size) : toB word ++ s.extract k (k + 1) = toB (word ++ [s[k]]) := by
  refine bytes_inj ?_
  show ((toB word) ++ (s.extract k (k + 1))).data.toList = word ++ [s[k]]
  rw [ByteArray.data_append, Array.toList_append, extract_list]
  have : (s.data.toList.take (k + 1)).drop k = [s[k]] := by
    rw [List.drop_take, List.drop_eq_getElem_cons (l := s.data.toList) (i := k) (by rw [size_list]; exact h)]
    show List.take (k + 1 - k) _ = _
    rw [show k + 1 - k = 1 by omega]
    rfl
  rw [this]
  rfl
theorem toB_beq (l : List UInt8) : ((toB l).toList == []) = l.isEmpty := by
  rw [ByteArray.toList_eq]
  show (l == []) = l.isEmpty
  cases l <;> rfl
end Go.Proofs.YthacboofbbfmlaaGreatDoor
