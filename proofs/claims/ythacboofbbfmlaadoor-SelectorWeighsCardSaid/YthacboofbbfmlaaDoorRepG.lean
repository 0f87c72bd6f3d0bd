/- (*strings.genericReplacer).lookup, over the trie of the four signs. Conditions: the trie lies in memory; the text begins with '&'. -/
import Derived.Test.YthacboofbbfmlaaDoorRepC
import Derived.Test.YthacboofbbfmlaaDoorShelf
namespace Go.Proofs.YthacboofbbfmlaaDoor
open Go.ChangeShapes Go.WideShapes Go.ChangeAt Go.RowKit
namespace Rep
/-- The sign that a text begins with: what it tells, and how long it is. -/
def sgn (l : List UInt8) : Option (UInt8 × Nat) :=
  if [38, 108, 116, 59].isPrefixOf l then some (60, 4) else if [38, 103, 116, 59].isPrefixOf l then some (62, 4) else if [38, 97, 109, 112, 59].isPrefixOf l then some (38, 5) else if [38, 113, 117, 111, 116, 59].isPrefixOf l then some (34, 6) else none
def sgV : Option (UInt8 × Nat) → Value
  | some x => .tuple #[.string (toB [x.1]), .int .i64 x.2, .bool true]
  | none => .tuple #[.string ⟨#[]⟩, .int .i64 0, .bool false]
theorem mapT_fin : ∀ c : Fin 256, (0 ≤ mapT c.val ∧ mapT c.val ≤ 11) ∧ (mapT c.val = 4 ↔ c.val = 108) ∧ (mapT c.val = 3 ↔ c.val = 103) ∧ (mapT c.val = 2 ↔ c.val = 97) ∧ (mapT c.val = 8 ↔ c.val = 113) := by decide +kernel
theorem pre_cons (c d : UInt8) (a b : List UInt8) : (c :: a).isPrefixOf (d :: b) = (decide (c = d) && a.isPrefixOf b) := by
  by_cases h : c = d
  · subst h; simp [List.isPrefixOf]
  · have : (c == d) = false := beq_eq_false_iff_ne.2 h
    simp [List.isPrefixOf, this, h]
theorem sgn_lt (u : List UInt8) : sgn (38 :: 108 :: u) = if [116, 59].isPrefixOf u then some (60, 4) else none := by
  unfold sgn
  simp [List.isPrefixOf]
theorem sgn_gt (u : List UInt8) : sgn (38 :: 103 :: u) = if [116, 59].isPrefixOf u then some (62, 4) else none := by
  unfold sgn
  simp [List.isPrefixOf]
theorem sgn_amp (u : List UInt8) : sgn (38 :: 97 :: u) = if [109, 112, 59].isPrefixOf u then some (38, 5) else none := by
  unfold sgn
  simp [List.isPrefixOf]
theorem sgn_quot (u : List UInt8) : sgn (38 :: 113 :: u) = if [117, 111, 116, 59].isPrefixOf u then some (34, 6) else none := by
  unfold sgn
  simp [List.isPrefixOf]
theorem sgn_no {c : UInt8} (u : List UInt8) (h1 : ¬ c = 108) (h2 : ¬ c = 103) (h3 : ¬ c = 97) (h4 : ¬ c = 113) : sgn (38 :: c :: u) = none := by
  unfold sgn
  have e : ∀ d : UInt8, ¬ c = d → (d == c) = false := fun d h => beq_eq_false_iff_ne.2 (fun q => h q.symm)
  simp [List.isPrefixOf, e _ h1, e _ h2, e _ h3, e _ h4]
theorem cons_full (c : UInt8) (t : List UInt8) : (toB (c :: t)).toList.isEmpty = false := by
  rw [List.isEmpty_eq_false_iff, ByteArray.toList_eq]
  exact List.cons_ne_nil _ _
theorem nil_empty : (toB []).toList.isEmpty = true := by
  rw [List.isEmpty_iff, ByteArray.toList_eq]
  rfl
/-! lookup -/
end Rep
end Go.Proofs.YthacboofbbfmlaaDoor
