/- What the document's own Split of layer 7 answers. Conditions: the text is not too long. -/
import Derived.Test.YthacboofbbfmlaaDoorRx7Words
import Derived.Deep.RegionLaw
import Derived.Deep.RegionWith
namespace Go.Proofs.YthacboofbbfmlaaDoor
open Go.ChangeShapes Go.WideShapes Go.ChangeAt Go.RowKit
theorem step_texts {ops : Array Oper} {o : Oper} {a : Act} {K : Act → World → Prop} {Q : Exit → Act → World → Prop} {E : Prop} (w : World) (hgd : o.guard = none) (s x : Operand)
    (ho : o.op = .call { callee := .builtin .append, args := #[s, x], argTypes := #[42, 42] })
    (base : Nat) (v : Value) (l m : List (List UInt8)) (hs : a.eval s = v) (hown : Txs w base v l) (B : Nat) (A : Option Addr) (n cp : Nat) (hx : a.eval x = .slice A n cp) (hn : m.length = n) (hr : Reads w B 1 A n (strs m)) (hl : l.length + m.length < 8000000000000) (hbase : base ≤ w.heap.size)
    (h : ∀ v' w', Txs w' base v' (l ++ m) → w.grownBy w' v.ownBlock → K (a.put o.dst v') w') :
    if Region.wanted o (yielded ops a.tmps) = true then Oper.wp Tryd.prog o a w K Q else E := by
  subst hn
  obtain ⟨i0, hi0, hz0, hz1, hz2⟩ := info_parts str_info
  refine step_append_any _ hgd s x _ ho base 9 i0 _ 1 16 Tryd.underlying42 hi0 hz0 hz1 hz2 rfl (by omega) v l.length (strs l) hs hown B A m.length cp (strs m) hx hr (strs_one m) (by simp only [maxLen]; omega) (by omega) hbase ?_
  intro v' w' h2 h3 _
  refine h v' w' ?_ h3
  show w'.ownsRow base 9 1 v' (l ++ m).length (strs (l ++ m))
  unfold strs
  rw [List.map_append, List.length_append]
  exact h2
theorem partsAt_none {p : UInt8 → Bool} (l : List UInt8) (h : ∀ c ∈ l, p c = false) : partsAt p l = [l] := by
  induction l with
  | nil => rfl
  | cons c t ih =>
    rw [partsAt, if_neg (by rw [h c (by simp)]; decide), ih (fun c hc => h c (by simp [hc]))]
theorem partsAt_some {p : UInt8 → Bool} (l : List UInt8) (c : UInt8) (t : List UInt8) (h : ∀ c ∈ l, p c = false) (hc : p c = true) : partsAt p (l ++ c :: t) = l :: partsAt p t := by
  induction l with
  | nil =>
    show partsAt p (c :: t) = _
    rw [partsAt, if_pos hc]
  | cons d l ih =>
    show partsAt p (d :: (l ++ c :: t)) = _
    rw [partsAt, if_neg (by rw [h d (by simp)]; decide), ih (fun c hc => h c (by simp [hc]))]
theorem split_here (s : ByteArray) (sep : UInt8) (k : Nat) (hk : k < s.size) (hn : ∀ c ∈ s.data.toList.take k, (c == sep) = false) (he : s[k] = sep) :
    splitF sep s.data.toList = trimL (s.extract 0 k).data.toList :: splitF sep (s.extract (k + 1) s.size).data.toList := by
  have e : s.data.toList = s.data.toList.take k ++ s[k] :: s.data.toList.drop (k + 1) := by
    conv => lhs; rw [← List.take_append_drop k s.data.toList]
    rw [List.drop_eq_getElem_cons (l := s.data.toList) (i := k) (by rw [size_list]; exact hk)]
    rfl
  unfold splitF
  conv => lhs; rw [e]
  rw [partsAt_some _ _ _ hn (by rw [he]; simp), extract_list, extract_list, List.drop_zero]
  have : s.data.toList.take s.size = s.data.toList := List.take_of_length_le (by rw [size_list]; exact Nat.le_refl _)
  rw [this]
  rfl
theorem split_none (s : ByteArray) (sep : UInt8) (hn : ∀ c ∈ s.data.toList, (c == sep) = false) : splitF sep s.data.toList = [trimL s.data.toList] := by
  unfold splitF
  rw [partsAt_none _ hn]
  rfl
theorem split_len (sep : UInt8) (l : List UInt8) : (splitF sep l).length ≤ l.length + 1 := by
  have : ∀ l : List UInt8, (partsAt (· == sep) l).length ≤ l.length + 1 := by
    intro l
    induction l with
    | nil => exact Nat.le_refl _
    | cons c t ih =>
      unfold partsAt
      split
      · simp only [List.length_cons]; omega
      · split
        · simp
        · rename_i h r e
          rw [e] at ih
          simp only [List.length_cons] at ih ⊢; omega
  unfold splitF
  rw [List.length_map]
  exact this l
theorem take_all {s : ByteArray} {sep : UInt8} {k : Nat} (hk : k < s.size) (hn : ∀ c ∈ s.data.toList.take k, (c == sep) = false) (he : ¬ s[k] = sep) : ∀ c ∈ s.data.toList.take (k + 1), (c == sep) = false := by
  intro c hc
  rw [List.take_succ_eq_append_getElem (l := s.data.toList) (i := k) (by rw [size_list]; exact hk)] at hc
  rcases List.mem_append.1 hc with h | h
  · exact hn c h
  · obtain rfl := List.mem_singleton.1 h
    rw [beq_eq_false_iff_ne]
    exact he
theorem onB_toB (f : List UInt8 → List UInt8) (s : ByteArray) : onB f s = toB (f s.data.toList) := rfl
end Go.Proofs.YthacboofbbfmlaaDoor
