/- Items, and numbers, that a call gathers by itself, one more. Conditions: as the theorems' premises say. -/
import Derived.Test.YtnjnkcjhhgffjaaFlexA
import Derived.Test.YtnjnkcjhhgffjaaRowsO
namespace Go.Proofs.Ytnjnkcjhhgffjaa
open Go.ChangeShapes Go.WideShapes Go.ChangeAt Go.RowKit
theorem info_ItsO : (Try.prog.info? 61).map (fun i => (i.zero, i.size, i.bytes)) = some (some (.agg #[.int .i64 0, .int .i64 0, .int .i64 0, .int .i64 0]), 4, 32) := by kernel_rfl
def ItsO (w : World) (base : Nat) (v : Value) (l : List FIt) : Prop := w.ownsRow base 61 4 v l.length (flatF l)
theorem ItsO.nil (w : World) (base : Nat) : ItsO w base (.slice none 0 0) [] := ⟨rfl, .inl ⟨rfl, rfl⟩⟩
theorem snoc_ItsO (l : List FIt) (i : FIt) : flatF (l ++ [i]) = flatF l ++ [.int .i64 i.b, .int .i64 i.e, .int .i64 i.g, .int .i64 i.s] := by simp [flatF, FIt.cs]
theorem reads_ItsO (w : World) (i : FIt) (B : Nat) (hB : w.heap.size < B) : Reads (w.alloc (.cells #[.int .i64 i.b, .int .i64 i.e, .int .i64 i.g, .int .i64 i.s] 61)) B 4 (some ⟨w.heap.size, 0, none⟩) 1 [.int .i64 i.b, .int .i64 i.e, .int .i64 i.g, .int .i64 i.s] :=
  reads_blk (Blk.new w 61 #[.int .i64 i.b, .int .i64 i.e, .int .i64 i.g, .int .i64 i.s]) hB rfl
theorem one_ItsO (i : FIt) : ∀ u ∈ ([.int .i64 i.b, .int .i64 i.e, .int .i64 i.g, .int .i64 i.s] : List Value), u.oneCell' = true := by
  intro u hu
  simp only [List.mem_cons, List.not_mem_nil, or_false] at hu
  rcases hu with rfl | rfl | rfl | rfl <;> rfl
theorem wpList_ItsO {ops : Array Oper} {rest : List Oper} {o : Oper} {a : Act} {Q : Exit → Act → World → Prop} (w : World) (hgd : o.guard = none) (s x : Operand)
    (ho : o.op = .call { callee := .builtin .append, args := #[s, x], argTypes := #[47, 47] })
    (base : Nat) (v : Value) (l : List FIt) (i : FIt) (hs : a.eval s = v) (hown : ItsO w base v l) (g cp : Nat) (hgq : w.heap.size = g) (hx : a.eval x = .slice (some ⟨g, 0, none⟩) 1 cp) (hl : l.length < 400000000) (hbase : base ≤ w.heap.size)
    (hk : ∀ v' w', ItsO w' base v' (l ++ [i]) → (w.alloc (.cells #[.int .i64 i.b, .int .i64 i.e, .int .i64 i.g, .int .i64 i.s] 61)).grownBy w' v.ownBlock → wpList Try.prog ops Q rest (a.put o.dst v') w') :
    wpList Try.prog ops Q (o :: rest) a (w.alloc (.cells #[.int .i64 i.b, .int .i64 i.e, .int .i64 i.g, .int .i64 i.s] 61)) := by
  subst hgq
  obtain ⟨i0, hi0, hz0, hz1, hz2⟩ := info_parts info_ItsO
  refine wpList_append_any _ hgd s x _ ho base 61 i0 _ 4 32 Try.underlying47 hi0 hz0 hz1 hz2 rfl (by omega) v l.length (flatF l) hs (World.ownsRow.alloc hown _) (w.heap.size + 1) (some ⟨w.heap.size, 0, none⟩) 1 cp _ hx (reads_ItsO w i _ (Nat.lt_succ_self _)) (one_ItsO i) (by simp only [maxLen]; omega) (by omega) (by rw [size_al]; omega) ?_
  intro v' w' h2 h3 _
  refine hk v' w' ?_ h3
  show w'.ownsRow base 61 4 v' (l ++ [i]).length (flatF (l ++ [i]))
  rw [snoc_ItsO, List.length_append]
  exact h2
theorem step_ItsO {ops : Array Oper} {o : Oper} {a : Act} {K : Act → World → Prop} {Q : Exit → Act → World → Prop} {E : Prop} (w : World) (hgd : o.guard = none) (s x : Operand)
    (ho : o.op = .call { callee := .builtin .append, args := #[s, x], argTypes := #[47, 47] })
    (base : Nat) (v : Value) (l : List FIt) (i : FIt) (hs : a.eval s = v) (hown : ItsO w base v l) (g cp : Nat) (hgq : w.heap.size = g) (hx : a.eval x = .slice (some ⟨g, 0, none⟩) 1 cp) (hl : l.length < 400000000) (hbase : base ≤ w.heap.size)
    (hk : ∀ v' w', ItsO w' base v' (l ++ [i]) → (w.alloc (.cells #[.int .i64 i.b, .int .i64 i.e, .int .i64 i.g, .int .i64 i.s] 61)).grownBy w' v.ownBlock → K (a.put o.dst v') w') :
    if Region.wanted o (yielded ops a.tmps) = true then Oper.wp Try.prog o a (w.alloc (.cells #[.int .i64 i.b, .int .i64 i.e, .int .i64 i.g, .int .i64 i.s] 61)) K Q else E := by
  subst hgq
  obtain ⟨i0, hi0, hz0, hz1, hz2⟩ := info_parts info_ItsO
  refine step_append_any _ hgd s x _ ho base 61 i0 _ 4 32 Try.underlying47 hi0 hz0 hz1 hz2 rfl (by omega) v l.length (flatF l) hs (World.ownsRow.alloc hown _) (w.heap.size + 1) (some ⟨w.heap.size, 0, none⟩) 1 cp _ hx (reads_ItsO w i _ (Nat.lt_succ_self _)) (one_ItsO i) (by simp only [maxLen]; omega) (by omega) (by rw [size_al]; omega) ?_
  intro v' w' h2 h3 _
  refine hk v' w' ?_ h3
  show w'.ownsRow base 61 4 v' (l ++ [i]).length (flatF (l ++ [i]))
  rw [snoc_ItsO, List.length_append]
  exact h2

theorem info_IntsO : (Try.prog.info? 2).map (fun i => (i.zero, i.size, i.bytes)) = some (some (.int .i64 0), 1, 8) := by kernel_rfl
def IntsO (w : World) (base : Nat) (v : Value) (l : List Int) : Prop := w.ownsRow base 2 1 v l.length (l.map (Value.int .i64))
theorem IntsO.nil (w : World) (base : Nat) : IntsO w base (.slice none 0 0) [] := ⟨rfl, .inl ⟨rfl, rfl⟩⟩
theorem snoc_IntsO (l : List Int) (i : Int) : (l ++ [i]).map (Value.int .i64) = l.map (Value.int .i64) ++ [.int .i64 i] := by simp [List.map_append]
theorem reads_IntsO (w : World) (i : Int) (B : Nat) (hB : w.heap.size < B) : Reads (w.alloc (.cells #[.int .i64 i] 2)) B 1 (some ⟨w.heap.size, 0, none⟩) 1 [.int .i64 i] :=
  reads_blk (Blk.new w 2 #[.int .i64 i]) hB rfl
theorem one_IntsO (i : Int) : ∀ u ∈ ([.int .i64 i] : List Value), u.oneCell' = true := by
  intro u hu
  simp only [List.mem_cons, List.not_mem_nil, or_false] at hu
  rcases hu with rfl <;> rfl
theorem wpList_IntsO {ops : Array Oper} {rest : List Oper} {o : Oper} {a : Act} {Q : Exit → Act → World → Prop} (w : World) (hgd : o.guard = none) (s x : Operand)
    (ho : o.op = .call { callee := .builtin .append, args := #[s, x], argTypes := #[41, 41] })
    (base : Nat) (v : Value) (l : List Int) (i : Int) (hs : a.eval s = v) (hown : IntsO w base v l) (g cp : Nat) (hgq : w.heap.size = g) (hx : a.eval x = .slice (some ⟨g, 0, none⟩) 1 cp) (hl : l.length < 400000000) (hbase : base ≤ w.heap.size)
    (hk : ∀ v' w', IntsO w' base v' (l ++ [i]) → (w.alloc (.cells #[.int .i64 i] 2)).grownBy w' v.ownBlock → wpList Try.prog ops Q rest (a.put o.dst v') w') :
    wpList Try.prog ops Q (o :: rest) a (w.alloc (.cells #[.int .i64 i] 2)) := by
  subst hgq
  obtain ⟨i0, hi0, hz0, hz1, hz2⟩ := info_parts info_IntsO
  refine wpList_append_any _ hgd s x _ ho base 2 i0 _ 1 8 Try.underlying41 hi0 hz0 hz1 hz2 rfl (by omega) v l.length (l.map (Value.int .i64)) hs (World.ownsRow.alloc hown _) (w.heap.size + 1) (some ⟨w.heap.size, 0, none⟩) 1 cp _ hx (reads_IntsO w i _ (Nat.lt_succ_self _)) (one_IntsO i) (by simp only [maxLen]; omega) (by omega) (by rw [size_al]; omega) ?_
  intro v' w' h2 h3 _
  refine hk v' w' ?_ h3
  show w'.ownsRow base 2 1 v' (l ++ [i]).length ((l ++ [i]).map (Value.int .i64))
  rw [snoc_IntsO, List.length_append]
  exact h2
theorem step_IntsO {ops : Array Oper} {o : Oper} {a : Act} {K : Act → World → Prop} {Q : Exit → Act → World → Prop} {E : Prop} (w : World) (hgd : o.guard = none) (s x : Operand)
    (ho : o.op = .call { callee := .builtin .append, args := #[s, x], argTypes := #[41, 41] })
    (base : Nat) (v : Value) (l : List Int) (i : Int) (hs : a.eval s = v) (hown : IntsO w base v l) (g cp : Nat) (hgq : w.heap.size = g) (hx : a.eval x = .slice (some ⟨g, 0, none⟩) 1 cp) (hl : l.length < 400000000) (hbase : base ≤ w.heap.size)
    (hk : ∀ v' w', IntsO w' base v' (l ++ [i]) → (w.alloc (.cells #[.int .i64 i] 2)).grownBy w' v.ownBlock → K (a.put o.dst v') w') :
    if Region.wanted o (yielded ops a.tmps) = true then Oper.wp Try.prog o a (w.alloc (.cells #[.int .i64 i] 2)) K Q else E := by
  subst hgq
  obtain ⟨i0, hi0, hz0, hz1, hz2⟩ := info_parts info_IntsO
  refine step_append_any _ hgd s x _ ho base 2 i0 _ 1 8 Try.underlying41 hi0 hz0 hz1 hz2 rfl (by omega) v l.length (l.map (Value.int .i64)) hs (World.ownsRow.alloc hown _) (w.heap.size + 1) (some ⟨w.heap.size, 0, none⟩) 1 cp _ hx (reads_IntsO w i _ (Nat.lt_succ_self _)) (one_IntsO i) (by simp only [maxLen]; omega) (by omega) (by rw [size_al]; omega) ?_
  intro v' w' h2 h3 _
  refine hk v' w' ?_ h3
  show w'.ownsRow base 2 1 v' (l ++ [i]).length ((l ++ [i]).map (Value.int .i64))
  rw [snoc_IntsO, List.length_append]
  exact h2

end Go.Proofs.Ytnjnkcjhhgffjaa
