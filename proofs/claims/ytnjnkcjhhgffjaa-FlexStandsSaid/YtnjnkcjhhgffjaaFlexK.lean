/- What the landed package flex's Order answers, of fewer than 20 numbers: cmp.Compare, the closure, insertion, slices.SortStableFunc. Conditions: the list lies in memory as it is read. -/
import Derived.Test.YtnjnkcjhhgffjaaFlexMathK
import Derived.Test.YtnjnkcjhhgffjaaFlexI
import Derived.Deep.QuietTactic
import Derived.BigQuiet
namespace Go.Proofs.Ytnjnkcjhhgffjaa
open Go.ChangeShapes Go.WideShapes Go.ChangeAt Go.RowKit
theorem info_IntsI : (Try.prog.info? 3).map (fun i => (i.zero, i.size, i.bytes)) = some (some (.int .i64 0), 1, 8) := by kernel_rfl
def IntsI (w : World) (base : Nat) (v : Value) (l : List Int) : Prop := w.ownsRow base 3 1 v l.length (l.map (Value.int .i64))
theorem IntsI.nil (w : World) (base : Nat) : IntsI w base (.slice none 0 0) [] := ⟨rfl, .inl ⟨rfl, rfl⟩⟩
theorem snoc_IntsI (l : List Int) (i : Int) : (l ++ [i]).map (Value.int .i64) = l.map (Value.int .i64) ++ [.int .i64 i] := by simp [List.map_append]
theorem reads_IntsI (w : World) (i : Int) (B : Nat) (hB : w.heap.size < B) : Reads (w.alloc (.cells #[.int .i64 i] 3)) B 1 (some ⟨w.heap.size, 0, none⟩) 1 [.int .i64 i] :=
  reads_blk (Blk.new w 3 #[.int .i64 i]) hB rfl
theorem one_IntsI (i : Int) : ∀ u ∈ ([.int .i64 i] : List Value), u.oneCell' = true := by
  intro u hu
  simp only [List.mem_cons, List.not_mem_nil, or_false] at hu
  rcases hu with rfl <;> rfl
theorem wpList_IntsI {ops : Array Oper} {rest : List Oper} {o : Oper} {a : Act} {Q : Exit → Act → World → Prop} (w : World) (hgd : o.guard = none) (s x : Operand)
    (ho : o.op = .call { callee := .builtin .append, args := #[s, x], argTypes := #[56, 56] })
    (base : Nat) (v : Value) (l : List Int) (i : Int) (hs : a.eval s = v) (hown : IntsI w base v l) (g cp : Nat) (hgq : w.heap.size = g) (hx : a.eval x = .slice (some ⟨g, 0, none⟩) 1 cp) (hl : l.length < 400000000) (hbase : base ≤ w.heap.size)
    (hk : ∀ v' w', IntsI w' base v' (l ++ [i]) → (w.alloc (.cells #[.int .i64 i] 3)).grownBy w' v.ownBlock → wpList Try.prog ops Q rest (a.put o.dst v') w') :
    wpList Try.prog ops Q (o :: rest) a (w.alloc (.cells #[.int .i64 i] 3)) := by
  subst hgq
  obtain ⟨i0, hi0, hz0, hz1, hz2⟩ := info_parts info_IntsI
  refine wpList_append_any _ hgd s x _ ho base 3 i0 _ 1 8 Try.underlying56 hi0 hz0 hz1 hz2 rfl (by omega) v l.length (l.map (Value.int .i64)) hs (World.ownsRow.alloc hown _) (w.heap.size + 1) (some ⟨w.heap.size, 0, none⟩) 1 cp _ hx (reads_IntsI w i _ (Nat.lt_succ_self _)) (one_IntsI i) (by simp only [maxLen]; omega) (by omega) (by rw [size_al]; omega) ?_
  intro v' w' h2 h3 _
  refine hk v' w' ?_ h3
  show w'.ownsRow base 3 1 v' (l ++ [i]).length ((l ++ [i]).map (Value.int .i64))
  rw [snoc_IntsI, List.length_append]
  exact h2
theorem step_IntsI {ops : Array Oper} {o : Oper} {a : Act} {K : Act → World → Prop} {Q : Exit → Act → World → Prop} {E : Prop} (w : World) (hgd : o.guard = none) (s x : Operand)
    (ho : o.op = .call { callee := .builtin .append, args := #[s, x], argTypes := #[56, 56] })
    (base : Nat) (v : Value) (l : List Int) (i : Int) (hs : a.eval s = v) (hown : IntsI w base v l) (g cp : Nat) (hgq : w.heap.size = g) (hx : a.eval x = .slice (some ⟨g, 0, none⟩) 1 cp) (hl : l.length < 400000000) (hbase : base ≤ w.heap.size)
    (hk : ∀ v' w', IntsI w' base v' (l ++ [i]) → (w.alloc (.cells #[.int .i64 i] 3)).grownBy w' v.ownBlock → K (a.put o.dst v') w') :
    if Region.wanted o (yielded ops a.tmps) = true then Oper.wp Try.prog o a (w.alloc (.cells #[.int .i64 i] 3)) K Q else E := by
  subst hgq
  obtain ⟨i0, hi0, hz0, hz1, hz2⟩ := info_parts info_IntsI
  refine step_append_any _ hgd s x _ ho base 3 i0 _ 1 8 Try.underlying56 hi0 hz0 hz1 hz2 rfl (by omega) v l.length (l.map (Value.int .i64)) hs (World.ownsRow.alloc hown _) (w.heap.size + 1) (some ⟨w.heap.size, 0, none⟩) 1 cp _ hx (reads_IntsI w i _ (Nat.lt_succ_self _)) (one_IntsI i) (by simp only [maxLen]; omega) (by omega) (by rw [size_al]; omega) ?_
  intro v' w' h2 h3 _
  refine hk v' w' ?_ h3
  show w'.ownsRow base 3 1 v' (l ++ [i]).length ((l ++ [i]).map (Value.int .i64))
  rw [snoc_IntsI, List.length_append]
  exact h2
theorem nan_any (x : Int) (w : World) : Calls Try.prog 68 #[.int .i64 x] w fun e w' => e = .returned (.bool false) ∧ w = w' := by
  go_enter Try.func68, Try.ntmps68
  go_wp2
  go_ret
  exact ⟨by simp, rfl⟩
set_option maxHeartbeats 4000000 in
theorem compare_any (a b : Int) (w : World) : Calls Try.prog 53 #[.int .i64 a, .int .i64 b] w fun e w' => e = .returned (.int .i64 (cmpI a b)) ∧ w = w' := by
  unfold cmpI
  by_cases h1 : a < b
  · rw [if_pos h1]
    go_enter Try.func53, Try.ntmps53
    go_wp2_with (go_at_call 68; (with_reducible refine (nan_any _ _).mono ?_); rintro e w' ⟨rfl, rfl⟩)
    go_ret
    exact ⟨rfl, rfl⟩
  · rw [if_neg h1]
    by_cases h2 : b < a
    · rw [if_pos h2]
      go_enter Try.func53, Try.ntmps53
      go_wp2_with (go_at_call 68; (with_reducible refine (nan_any _ _).mono ?_); rintro e w' ⟨rfl, rfl⟩)
      go_ret
      exact ⟨rfl, rfl⟩
    · rw [if_neg h2]
      go_enter Try.func53, Try.ntmps53
      go_wp2_with (go_at_call 68; (with_reducible refine (nan_any _ _).mono ?_); rintro e w' ⟨rfl, rfl⟩)
      go_ret
      exact ⟨rfl, rfl⟩
set_option maxHeartbeats 4000000 in
theorem less_any (A : Option Addr) (n c B gl : Nat) (l : List Int) (x y : Int) (w : World) (hr : Reads w B 1 A n (l.map (Value.int .i64))) (hc : w.cell? ⟨gl, 0, none⟩ = some (.slice A n c)) (hx : 0 ≤ x ∧ x < n) (hy : 0 ≤ y ∧ y < n) :
    Calls Try.prog 52 #[.int .i64 x, .int .i64 y, .pointer (some ⟨gl, 0, none⟩)] w fun e w' => e = .returned (.int .i64 (cmpI (atL l x) (atL l y))) ∧ ∃ q, w' = w.drewN q := by
  have hlen : l.length = n := by have := hr.1; simpa using this
  obtain ⟨i, rfl⟩ : ∃ i : Nat, x = i := ⟨x.toNat, by omega⟩
  obtain ⟨j, rfl⟩ : ∃ j : Nat, y = j := ⟨y.toNat, by omega⟩
  have hi : i < n := by omega
  have hj : j < n := by omega
  obtain ⟨ad, u, rfl, hab, hu, hcell⟩ := hr.at_ hi
  obtain ⟨ad', v, e, hab', hv, hcell'⟩ := hr.at_ hj
  obtain rfl : ad = ad' := by injection e
  have eu : u = .int .i64 (atL l i) := by
    unfold atL
    rw [Int.toNat_natCast, List.getElem?_map, getD_some (by omega)] at *
    simpa using hu.symm
  have ev : v = .int .i64 (atL l j) := by
    unfold atL
    rw [Int.toNat_natCast, List.getElem?_map, getD_some (by omega)] at *
    simpa using hv.symm
  subst eu
  subst ev
  have cc := fun w => compare_any (atL l i) (atL l j) w
  have i0 := Int.toNat_natCast i
  have j0 := Int.toNat_natCast j
  obtain ⟨hx1, hx2⟩ := hx
  obtain ⟨hy1, hy2⟩ := hy
  clear hu hv e hlen
  generalize atL l i = p at *
  generalize atL l j = q at *
  generalize cmpI p q = r at *
  go_enter Try.func52, Try.ntmps52
  go_wp2
  go_quiet ((go_at_call 53; exact Calls.quiet_of_same ((cc _).mono fun _ _ h => ⟨h.1, h.2.symm⟩)))
  go_wp2
  go_ret
  exact ⟨rfl, _, rfl⟩
end Go.Proofs.Ytnjnkcjhhgffjaa
