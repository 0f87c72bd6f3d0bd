/- What each function of package scan is to answer, as plain propositions over the seat's program. Conditions: none (these are definitions). -/
import Derived.WalkKit
import Derived.Test.YtdfcahdipalmkaaGreatDoorBlk
import Derived.Test.YtdfcahdipalmkaaGreatDoorRows
import Derived.ProofKit
import Derived.OpenShut
import Derived.IntWalk
import Derived.Lib.Hide
import Derived.Outline
import Derived.WalkLawsBesides
/- The plain mathematics of texts of styles: stripped, trimmed, in small letters. Conditions: none. -/
namespace Go.Proofs.YtdfcahdipalmkaaGreatDoor
/-- Is a byte a blank? -/
def isBlank (c : UInt8) : Bool := c == 32 || c == 9 || c == 10 || c == 13
/-- What stands behind the next end of a remark. -/
def behind : List UInt8 → List UInt8
  | [] => []
  | [_] => []
  | a :: b :: t => if a = 42 ∧ b = 47 then t else behind (b :: t)
theorem behind_le : ∀ l : List UInt8, (behind l).length ≤ l.length
  | [] => Nat.le_refl _
  | [_] => Nat.zero_le _
  | a :: b :: t => by
    unfold behind
    split
    · simp only [List.length_cons]; omega
    · have := behind_le (b :: t)
      simp only [List.length_cons] at this ⊢; omega
/-- A space for each remark. -/
def stripL : List UInt8 → List UInt8
  | [] => []
  | [a] => [a]
  | a :: b :: t => if a = 47 ∧ b = 42 then 32 :: stripL (behind t) else a :: stripL (b :: t)
termination_by l => l.length
decreasing_by
  · have := behind_le t
    simp only [List.length_cons]; omega
  · simp only [List.length_cons]; omega
theorem stripL_nil : stripL [] = [] := by unfold stripL; rfl
theorem stripL_one (a : UInt8) : stripL [a] = [a] := by unfold stripL; rfl
theorem stripL_remark (t : List UInt8) : stripL (47 :: 42 :: t) = 32 :: stripL (behind t) := by
  rw [stripL, if_pos ⟨rfl, rfl⟩]
theorem stripL_other {a b : UInt8} (t : List UInt8) (h : ¬ (a = 47 ∧ b = 42)) : stripL (a :: b :: t) = a :: stripL (b :: t) := by
  rw [stripL, if_neg h]
theorem stripL_le (n : Nat) : ∀ l : List UInt8, l.length ≤ n → (stripL l).length ≤ l.length := by
  induction n with
  | zero =>
    intro l h
    obtain rfl : l = [] := List.eq_nil_of_length_eq_zero (by omega)
    rw [stripL_nil]; exact Nat.le_refl _
  | succ n ih =>
    intro l h
    match l with
    | [] => rw [stripL_nil]; exact Nat.le_refl _
    | [a] => rw [stripL_one]; exact Nat.le_refl _
    | a :: b :: t =>
      by_cases hc : a = 47 ∧ b = 42
      · obtain ⟨rfl, rfl⟩ := hc
        rw [stripL_remark]
        have h1 := behind_le t
        simp only [List.length_cons] at h ⊢
        have h2 := ih (behind t) (by omega)
        omega
      · rw [stripL_other t hc]
        simp only [List.length_cons] at h ⊢
        have h2 := ih (b :: t) (by simp only [List.length_cons]; omega)
        simp only [List.length_cons] at h2
        omega
/-- No remark begins in a list. -/
def clean : List UInt8 → Prop
  | [] => True
  | [_] => True
  | a :: b :: t => ¬ (a = 47 ∧ b = 42) ∧ clean (b :: t)
theorem stripL_clean : ∀ l : List UInt8, clean l → stripL l = l
  | [], _ => stripL_nil
  | [a], _ => stripL_one a
  | a :: b :: t, h => by
    unfold clean at h
    rw [stripL_other t h.1, stripL_clean (b :: t) h.2]
/-- The first byte of a stripped list: the list's own, or a space. -/
theorem stripL_head {a : UInt8} (t : List UInt8) : ∃ u, stripL (a :: t) = a :: u ∨ stripL (a :: t) = 32 :: u := by
  match t with
  | [] => exact ⟨[], Or.inl (stripL_one a)⟩
  | b :: t =>
    by_cases hc : a = 47 ∧ b = 42
    · obtain ⟨rfl, rfl⟩ := hc
      exact ⟨_, Or.inr (stripL_remark t)⟩
    · exact ⟨_, Or.inl (stripL_other t hc)⟩
theorem clean_cons {a : UInt8} {l : List UInt8} (h : clean l) (hh : a = 47 → l.head? ≠ some 42) : clean (a :: l) := by
  cases l with
  | nil => exact trivial
  | cons b t =>
    refine ⟨fun e => ?_, h⟩
    exact hh e.1 (by rw [e.2]; rfl)
theorem clean_strip (n : Nat) : ∀ l : List UInt8, l.length ≤ n → clean (stripL l) := by
  induction n with
  | zero =>
    intro l h
    obtain rfl : l = [] := List.eq_nil_of_length_eq_zero (by omega)
    rw [stripL_nil]; exact trivial
  | succ n ih =>
    intro l h
    match l with
    | [] => rw [stripL_nil]; exact trivial
    | [a] => rw [stripL_one]; exact trivial
    | a :: b :: t =>
      by_cases hc : a = 47 ∧ b = 42
      · obtain ⟨rfl, rfl⟩ := hc
        rw [stripL_remark]
        have h1 := behind_le t
        simp only [List.length_cons] at h
        exact clean_cons (ih (behind t) (by omega)) (fun e => absurd e (by decide))
      · rw [stripL_other t hc]
        simp only [List.length_cons] at h
        refine clean_cons (ih (b :: t) (by simp only [List.length_cons]; omega)) (fun e hh => ?_)
        obtain ⟨u, hu | hu⟩ := stripL_head (a := b) t
        · rw [hu] at hh
          simp only [List.head?_cons, Option.some.injEq] at hh
          exact hc ⟨e, hh⟩
        · rw [hu] at hh
          simp only [List.head?_cons, Option.some.injEq] at hh
          exact absurd hh (by decide)
/-- What is stripped has no remark any more. -/
theorem strip_strip (l : List UInt8) : stripL (stripL l) = stripL l := stripL_clean _ (clean_strip l.length l (Nat.le_refl _))
theorem strip_len (l : List UInt8) : (stripL l).length ≤ l.length := stripL_le l.length l (Nat.le_refl _)
/-! ### trimmed -/
def trimL (l : List UInt8) : List UInt8 := ((l.dropWhile isBlank).reverse.dropWhile isBlank).reverse
theorem dropWhile_len (p : UInt8 → Bool) (l : List UInt8) : (l.dropWhile p).length ≤ l.length := (List.dropWhile_sublist p).length_le
theorem trim_len (l : List UInt8) : (trimL l).length ≤ l.length := by
  unfold trimL
  have h1 := dropWhile_len isBlank l
  have h2 := dropWhile_len isBlank (l.dropWhile isBlank).reverse
  simp only [List.length_reverse] at h2 ⊢
  omega
theorem dropWhile_self {p : UInt8 → Bool} {l : List UInt8} (h : ∀ a t, l = a :: t → p a = false) : l.dropWhile p = l := by
  cases l with
  | nil => rfl
  | cons a t => rw [List.dropWhile_cons, h a t rfl]; rfl
theorem dropWhile_first {p : UInt8 → Bool} {l : List UInt8} {a : UInt8} {t : List UInt8} (h : l.dropWhile p = a :: t) : p a = false := by
  induction l with
  | nil => cases h
  | cons b l ih =>
    rw [List.dropWhile_cons] at h
    split at h
    · exact ih h
    · injection h with h1 h2
      subst h1
      simpa using ‹¬ p b = true›
/-- What is dropped off the end leaves the beginning. -/
theorem rdrop_prefix (p : UInt8 → Bool) (m : List UInt8) : ∃ t, m = (m.reverse.dropWhile p).reverse ++ t := by
  have h := (List.dropWhile_suffix p (l := m.reverse))
  obtain ⟨u, hu⟩ := h
  exact ⟨u.reverse, by rw [← List.reverse_append, hu, List.reverse_reverse]⟩
theorem trim_trim (l : List UInt8) : trimL (trimL l) = trimL l := by
  have hr : (trimL l).dropWhile isBlank = trimL l := by
    refine dropWhile_self fun a t e => ?_
    obtain ⟨u, hu⟩ := rdrop_prefix isBlank (l.dropWhile isBlank)
    have e' : ((l.dropWhile isBlank).reverse.dropWhile isBlank).reverse = a :: t := e
    rw [e'] at hu
    exact dropWhile_first (t := t ++ u) (by rw [hu]; rfl)
  show (((trimL l).dropWhile isBlank).reverse.dropWhile isBlank).reverse = trimL l
  rw [hr]
  have e2 : (trimL l).reverse = (l.dropWhile isBlank).reverse.dropWhile isBlank := by unfold trimL; rw [List.reverse_reverse]
  rw [e2, dropWhile_self (fun a t e => dropWhile_first e)]
  rfl
/-! ### in small letters -/
def lowC (c : UInt8) : UInt8 := if 65 ≤ c ∧ c ≤ 90 then c + 32 else c
def lowL (l : List UInt8) : List UInt8 := l.map lowC
theorem lowC_lowC (c : UInt8) : lowC (lowC c) = lowC c := by
  have : ∀ c : Fin 256, lowC (lowC (UInt8.ofFin c)) = lowC (UInt8.ofFin c) := by decide +kernel
  exact this c.toFin
theorem low_low (l : List UInt8) : lowL (lowL l) = lowL l := by
  unfold lowL
  rw [List.map_map]
  exact List.map_congr_left fun c _ => lowC_lowC c
theorem low_len (l : List UInt8) : (lowL l).length = l.length := List.length_map ..
/-! ### as texts -/
def onB (f : List UInt8 → List UInt8) (s : ByteArray) : ByteArray := ⟨(f s.data.toList).toArray⟩
theorem onB_list (f : List UInt8 → List UInt8) (s : ByteArray) : (onB f s).data.toList = f s.data.toList := rfl
theorem onB_size (f : List UInt8 → List UInt8) (s : ByteArray) : (onB f s).size = (f s.data.toList).length := by
  show (onB f s).data.size = _
  simp [onB]
theorem onB_twice {f : List UInt8 → List UInt8} (h : ∀ l, f (f l) = f l) (s : ByteArray) : onB f (onB f s) = onB f s := by
  unfold onB
  simp [h]
theorem size_list (s : ByteArray) : s.data.toList.length = s.size := by show s.data.toList.length = s.data.size; simp
end Go.Proofs.YtdfcahdipalmkaaGreatDoor
/- What package value asks of package scan, and bytes. Conditions: none (these are definitions). -/
namespace Go.Proofs.YtdfcahdipalmkaaGreatDoor
open Go.ChangeShapes Go.WideShapes Go.ChangeAt Go.RowKit
def toB (l : List UInt8) : ByteArray := ⟨l.toArray⟩
def strs (l : List (List UInt8)) : List Value := l.map fun x => .string (toB x)
/-- The parts of a list between those for which p is. -/
def partsAt (p : UInt8 → Bool) : List UInt8 → List (List UInt8)
  | [] => [[]]
  | c :: t => if p c then [] :: partsAt p t else match partsAt p t with
    | [] => [[c]]
    | h :: r => (c :: h) :: r
def splitF (sep : UInt8) (l : List UInt8) : List (List UInt8) := (partsAt (· == sep) l).map trimL
def wordsF (l : List UInt8) : List (List UInt8) := (partsAt isBlank l).filter fun w => !w.isEmpty
def mostB : Nat := 1000000
theorem lt_of_cell' {w : World} {a : Addr} {v : Value} (h : w.cell? a = some v) : a.block < w.heap.size := by
  unfold World.cell? at h
  split at h
  · rename_i hb
    exact (Array.getElem?_eq_some_iff.1 hb).1
  · cases h
def TrimC : Prop := ∀ (s : ByteArray) (w : World), s.size ≤ mostB → Calls Tryz.prog 59 #[.string s] w fun e w' => e = .returned (.string (onB trimL s)) ∧ Below w.heap.size w w'
def LowerC : Prop := ∀ (s : ByteArray) (w : World), s.size ≤ mostB → Calls Tryz.prog 60 #[.string s] w fun e w' => e = .returned (.string (onB lowL s)) ∧ Below w.heap.size w w'
def WordsC : Prop := ∀ (s : ByteArray) (w : World), s.size ≤ mostB → Calls Tryz.prog 64 #[.string s] w fun e w' =>
  ∃ A n c, e = .returned (.slice A n c) ∧ Reads w' w'.heap.size 1 A n (strs (wordsF s.data.toList)) ∧ Below w.heap.size w w'
theorem toB_size (l : List UInt8) : (toB l).size = l.length := by show (toB l).data.size = _; simp [toB]
theorem toB_cat (a b : List UInt8) : toB a ++ toB b = toB (a ++ b) := by
  refine bytes_inj ?_
  show ((toB a) ++ (toB b)).data.toList = a ++ b
  rw [ByteArray.data_append, Array.toList_append]
  rfl
end Go.Proofs.YtdfcahdipalmkaaGreatDoor
namespace Go.Proofs.YtdfcahdipalmkaaGreatDoor
open Go.ChangeShapes Go.WideShapes Go.ChangeAt Go.RowKit
/-- What was read of blocks: those that ended, the text since, and what stands behind an open brace. -/
structure Bst where
  out : List (List UInt8 × List UInt8)
  head : List UInt8
  body : Option (List UInt8)
def bstep (s : Bst) (c : UInt8) : Bst :=
  if c = 125 then match s.body with
    | some b => ⟨s.out ++ [(trimL s.head, trimL b)], [], none⟩
    | none => ⟨s.out, [], none⟩
  else match s.body with
    | some b => ⟨s.out, s.head, some (b ++ [c])⟩
    | none => if c = 123 then ⟨s.out, s.head, some []⟩ else ⟨s.out, s.head ++ [c], none⟩
def blocksF (l : List UInt8) : List (List UInt8 × List UInt8) := (l.foldl bstep ⟨[], [], none⟩).out
def flatB (l : List (List UInt8 × List UInt8)) : List Value := l.flatMap fun b => [.string (toB b.1), .string (toB b.2)]
/-- Go's own internal/bytealg.MaxLen holds some number. -/
def Lens (w : World) : Prop := ∃ m, w.cell? ⟨0, 0, none⟩ = some (.int .i64 m)
theorem Lens.lt {w : World} (h : Lens w) : 0 < w.heap.size := by
  obtain ⟨m, hm⟩ := h
  exact lt_of_cell' hm
theorem Lens.below {w w' : World} {B : Nat} (h : Lens w) (hB : 0 < B) (hb : Below B w w') : Lens w' := by
  obtain ⟨m, hm⟩ := h
  exact ⟨m, (hb.cell (p := ⟨0, 0, none⟩) hB).trans hm⟩
theorem Lens.of {w w' : World} (h : Lens w) (hb : Below w.heap.size w w') : Lens w' := h.below h.lt hb
theorem Lens.alloc {w : World} (h : Lens w) (o : Obj) : Lens (w.alloc o) := h.of ((Below.refl _ w).alloc (Nat.le_refl _) o)
def StripC : Prop := ∀ (s : ByteArray) (w : World), Lens w → s.size ≤ mostB → Calls Tryz.prog 25 #[.string s] w fun e w' => e = .returned (.string (onB stripL s)) ∧ Below w.heap.size w w'
def SplitC : Prop := ∀ (s : ByteArray) (sep : UInt8) (w : World), s.size ≤ mostB → Calls Tryz.prog 31 #[.string s, .int .u8 sep.toNat] w fun e w' =>
  ∃ A n c, e = .returned (.slice A n c) ∧ Reads w' w'.heap.size 1 A n (strs (splitF sep s.data.toList)) ∧ Below w.heap.size w w'
/-- Blocks, at one text. -/
def BlocksAt (s : ByteArray) : Prop := ∀ (w : World), Lens w → Calls Tryz.prog 24 #[.string s] w fun e w' =>
  ∃ A n c, e = .returned (.slice A n c) ∧ Reads w' w'.heap.size 2 A n (flatB (blocksF s.data.toList)) ∧ Below w.heap.size w w'
def BlocksC : Prop := ∀ (s : ByteArray) (w : World), Lens w → s.size ≤ mostB → Calls Tryz.prog 24 #[.string s] w fun e w' =>
  ∃ A n c, e = .returned (.slice A n c) ∧ Reads w' w'.heap.size 2 A n (flatB (blocksF s.data.toList)) ∧ Below w.heap.size w w'
end Go.Proofs.YtdfcahdipalmkaaGreatDoor
