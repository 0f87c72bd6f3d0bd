/- The plain mathematics of where items begin. Conditions: none. -/
import Derived.Test.YtnjnkcjhhgffjaaFlexMathB
namespace Go.Proofs.Ytnjnkcjhhgffjaa
def overJ (long : List Int) (room : Int) : Int := max (sub2 room (sumL long).1) 0
def firstJ (over how : Int) : Int := if how = 1 then over / 2 else if how = 2 then over else 0
def betweenJ (over : Int) (n : Nat) (how : Int) : Int := if how = 3 then over / max ((n : Int) - 1) 1 else 0
def begAt (first between : Int) (long : List Int) : Nat → Int
  | 0 => first
  | k + 1 => add2 (add2 (begAt first between long k) (long.getD k 0)) between
def begOk (first between : Int) (long : List Int) : Nat → Bool
  | 0 => true
  | k + 1 => begOk first between long k && (addOk (begAt first between long k) (long.getD k 0) && addOk (add2 (begAt first between long k) (long.getD k 0)) between)
def begins (first between : Int) (long : List Int) (k : Nat) : List Int := (List.range k).map (begAt first between long)
/-- What Justify answers. -/
def justL (long : List Int) (room how : Int) : List Int × Bool :=
  (begins (firstJ (overJ long room) how) (betweenJ (overJ long room) long.length how) long long.length,
    ((sumL long).2 && subOk room (sumL long).1) && begOk (firstJ (overJ long room) how) (betweenJ (overJ long room) long.length how) long (long.length - 1))
theorem begins_snoc (f b : Int) (l : List Int) (k : Nat) : begins f b l (k + 1) = begins f b l k ++ [begAt f b l k] := by unfold begins; rw [List.range_succ, List.map_append]; rfl
theorem begins_len (f b : Int) (l : List Int) (k : Nat) : (begins f b l k).length = k := by unfold begins; rw [List.length_map, List.length_range]
theorem begins_at (f b : Int) (l : List Int) (k i : Nat) (h : i < k) : (begins f b l k)[i]? = some (begAt f b l i) := by
  unfold begins; rw [List.getElem?_map, List.getElem?_range h]; rfl
end Go.Proofs.Ytnjnkcjhhgffjaa
