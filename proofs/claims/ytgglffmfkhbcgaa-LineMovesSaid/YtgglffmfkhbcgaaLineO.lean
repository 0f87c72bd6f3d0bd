/- Numbers that a call gathers by itself, two or many more at once; pieces gathered, and places. Conditions: as the theorems' premises say. -/
import Derived.Test.YtgglffmfkhbcgaaLineA
namespace Go.Proofs.Ytgglffmfkhbcgaa
open Go.ChangeShapes Go.WideShapes Go.ChangeAt Go.RowKit
theorem info_IntsO : (Try.prog.info? 2).map (fun i => (i.zero, i.size, i.bytes)) = some (some (.int .i64 0), 1, 8) := by kernel_rfl
def IntsO (w : World) (base : Nat) (v : Value) (l : List Int) : Prop := w.ownsRow base 2 1 v l.length (l.map (Value.int .i64))
theorem IntsO.nil (w : World) (base : Nat) : IntsO w base (.slice none 0 0) [] := ⟨rfl, .inl ⟨rfl, rfl⟩⟩
theorem one_map (l : List Int) : ∀ u ∈ l.map (Value.int .i64), u.oneCell' = true := by
  intro u hu
  obtain ⟨x, _, rfl⟩ := List.mem_map.1 hu
  rfl
theorem own_one (w : World) (x : Int) : IntsO (w.alloc (.cells #[.int .i64 x] 2)) w.heap.size (.slice (some ⟨w.heap.size, 0, none⟩) 1 1) [x] :=
  ⟨rfl, .inr ⟨w.heap.size, 1, #[.int .i64 x], rfl, Nat.le_refl _, heap_alloc_new w _, Nat.le_refl _, by simp [maxLen], rfl, rfl⟩⟩
theorem wpList_IntsOn {ops : Array Oper} {rest : List Oper} {o : Oper} {a : Act} {Q : Exit → Act → World → Prop} (w : World) (hgd : o.guard = none) (s x : Operand)
    (ho : o.op = .call { callee := .builtin .append, args := #[s, x], argTypes := #[38, 38] })
    (base : Nat) (v : Value) (l m : List Int) (hs : a.eval s = v) (hown : IntsO w base v l) (B : Nat) (A : Option Addr) (n c : Nat) (hx : a.eval x = .slice A n c) (hr : Reads w B 1 A n (m.map (Value.int .i64))) (hm : m.length = n) (hl : l.length + n < 400000000) (hbase : base ≤ w.heap.size)
    (hk : ∀ v' w', IntsO w' base v' (l ++ m) → w.grownBy w' v.ownBlock → wpList Try.prog ops Q rest (a.put o.dst v') w') :
    wpList Try.prog ops Q (o :: rest) a w := by
  obtain ⟨i0, hi0, hz0, hz1, hz2⟩ := info_parts info_IntsO
  refine wpList_append_any _ hgd s x _ ho base 2 i0 _ 1 8 Try.underlying38 hi0 hz0 hz1 hz2 rfl (by omega) v l.length (l.map (Value.int .i64)) hs hown B A n c _ hx hr (one_map m) (by simp only [maxLen]; omega) (by omega) hbase ?_
  intro v' w' h2 h3 _
  refine hk v' w' ?_ h3
  show w'.ownsRow base 2 1 v' (l ++ m).length ((l ++ m).map (Value.int .i64))
  rw [List.map_append, List.length_append, hm]
  exact h2
theorem wpList_IntsO2 {ops : Array Oper} {rest : List Oper} {o : Oper} {a : Act} {Q : Exit → Act → World → Prop} (w : World) (hgd : o.guard = none) (s x : Operand)
    (ho : o.op = .call { callee := .builtin .append, args := #[s, x], argTypes := #[38, 38] })
    (base : Nat) (v : Value) (l : List Int) (i j : Int) (hs : a.eval s = v) (hown : IntsO w base v l) (g cp : Nat) (hgq : w.heap.size = g) (hx : a.eval x = .slice (some ⟨g, 0, none⟩) 2 cp) (hl : l.length < 399999990) (hbase : base ≤ w.heap.size)
    (hk : ∀ v' w', IntsO w' base v' (l ++ [i, j]) → (w.alloc (.cells #[.int .i64 i, .int .i64 j] 2)).grownBy w' v.ownBlock → wpList Try.prog ops Q rest (a.put o.dst v') w') :
    wpList Try.prog ops Q (o :: rest) a (w.alloc (.cells #[.int .i64 i, .int .i64 j] 2)) := by
  subst hgq
  exact wpList_IntsOn _ hgd s x ho base v l [i, j] hs (World.ownsRow.alloc hown _) (w.heap.size + 1) _ 2 cp hx (reads_blk (Blk.new w 2 #[.int .i64 i, .int .i64 j]) (Nat.lt_succ_self _) rfl) rfl (by omega) (by rw [size_al]; omega) hk
/-! ### pieces: behind what is full, or one's own -/
theorem info_PcO : (Try.prog.info? 32).map (fun i => (i.zero, i.size, i.bytes)) = some (some (.agg #[.int .i64 0, .int .i64 0, .int .i64 0, .int .i64 0, .string ⟨#[]⟩, .bool false]), 6, 56) := by kernel_rfl
theorem run_append_full {P : Program} (w : World) (t ty e : TypeId) (i : TypeInfo) (z : Value) (size bytes : Nat) (ht : P.underlying t = some (.slice e)) (hi : P.info? e = some i) (hz : i.zero = some z)
    (hsize : i.size = size) (hby : i.bytes = bytes) (hzs : z.cells.size = size) (base E B : Nat) (ad : Addr) (n : Nat) (xs : List Value) (hrd : Reads w E size (some ad) n xs) (A : Option Addr) (m c : Nat) (news : List Value) (hr : Reads w B size A m news) (hm : 0 < m)
    (h63 : n + m ≤ maxLen) (hbytes : (n + m) * bytes ≤ 140737488355328) (hbase : base ≤ w.heap.size) :
    ∃ v' w', (Builtin.append_ #[t, t] ty #[.slice (some ad) n n, .slice A m c]).run P w = .ok v' w' ∧ w'.ownsRow base e size v' (n + m) (xs ++ news) ∧ w.grownBy w' none := by
  subst hsize
  subst hby
  have hsmall : n + m ≤ 9223372036854775807 := by simp only [maxLen] at h63; omega
  have hlen : (xs ++ news).length = (n + m) * i.size := by rw [List.length_append, hrd.1, hr.1, Nat.add_mul]
  obtain ⟨b, rfl, _, hnews⟩ := hr.2 hm
  have holds : ∀ j u, xs[j]? = some u → w.cell? (ad.add j) = some u := by
    intro j u hu
    rcases Nat.eq_zero_or_pos n with h0 | h0
    · subst h0
      have hn : xs = [] := List.eq_nil_of_length_eq_zero (by simpa using hrd.1)
      subst hn
      simp at hu
    · obtain ⟨ad', h, _, hc⟩ := hrd.2 h0
      injection h with h
      subst h
      exact hc j u hu
  have hr2 := run_append_grow (P := P) w t ty e i z ht hi hz ad n n xs hrd.1 holds b m c news hr.1 hnews (by omega) (by omega) (growslice_fits (by omega) hbytes)
  have hge := grownCap_ge w (n + m) n e
  have hcm : grownCap w (n + m) n e ≤ maxLen := grownCap_le_maxLen w (n + m) n e h63
  refine ⟨_, _, hr2, ⟨hlen, .inr ⟨w.heap.size, _, _, rfl, hbase, heap_alloc_new w.drew _, hge, hcm, ?_, ?_⟩⟩, ⟨rfl, rfl, rfl, by simp, fun k hk _ => (Below.heap_alloc w.drew _ k hk)⟩⟩
  · simp only [Array.size_append, List.size_toArray, size_zeroCells, hzs, hrd.1, hr.1, ← Nat.add_mul]
    congr 1
    omega
  · simp only [Array.toList_append, List.append_assoc]
    rw [← List.append_assoc, ← hlen]
    exact List.take_left
theorem own_blk_of {w : World} {base k : Nat} {e : TypeId} {size n : Nat} {v : Value} {xs : List Value} (h : w.ownsRow base e size v n xs) (hk : v.ownBlock = some k) : ∃ cs, Blk w k e cs := by
  rcases h.2 with ⟨rfl, _⟩ | ⟨g, cap, cur, rfl, _, hh, _⟩
  · simp [Value.ownBlock] at hk
  · obtain rfl : g = k := by simpa [Value.ownBlock] using hk
    exact ⟨cur, hh⟩
theorem run_append_opn (w : World) (ty : TypeId) (E base : Nat) (v : Value) (l m : List Pc) (hown : OpnO w E base v l) (hbase : base ≤ w.heap.size)
    (B : Nat) (A : Option Addr) (n c : Nat) (hr : Reads w B 6 A n (flatP m)) (hl : l.length + n ≤ 2000000) (hp : 0 < n) :
    ∃ v' w' row, (Builtin.append_ #[22, 22] ty #[v, .slice A n c]).run Try.prog w = .ok v' w' ∧ OpnO w' E base v' (l ++ m) ∧ w.grownBy w' row ∧ (∀ k, row = some k → base ≤ k ∧ ∃ cs, Blk w k 32 cs) := by
  obtain ⟨i0, hi0, hz0, hz1, hz2⟩ := info_parts info_PcO
  have hm : m.length = n := len_P hr
  rcases hown with h | ⟨ad, rfl, hab, hrd⟩
  · obtain ⟨v', w', hrun, h2, h3, _⟩ := run_append_any (P := Try.prog) w base 22 ty 32 i0 _ 6 56 Try.underlying22 hi0 hz0 hz1 hz2 rfl (by omega) v l.length (flatP l) h B A n c _ hr (flatP_one m) (by simp only [maxLen]; omega) (by omega) hbase
    exact ⟨v', w', _, hrun, .inl (by rw [flatP_append, List.length_append, hm]; exact h2), h3, fun k hk => ⟨(h.lt k hk).1, own_blk_of h hk⟩⟩
  · obtain ⟨v', w', hrun, h2, h3⟩ := run_append_full (P := Try.prog) w 22 ty 32 i0 _ 6 56 Try.underlying22 hi0 hz0 hz1 hz2 rfl base E B ad l.length (flatP l) hrd A n c _ hr hp (by simp only [maxLen]; omega) (by omega) hbase
    exact ⟨v', w', none, hrun, .inl (by rw [flatP_append, List.length_append, hm]; exact h2), h3, fun k hk => by cases hk⟩
theorem wpList_opn {ops : Array Oper} {rest : List Oper} {o : Oper} {a : Act} {Q : Exit → Act → World → Prop} (w : World) (hgd : o.guard = none) (s x : Operand)
    (ho : o.op = .call { callee := .builtin .append, args := #[s, x], argTypes := #[22, 22] })
    (E base : Nat) (v : Value) (l m : List Pc) (hs : a.eval s = v) (hown : OpnO w E base v l) (hbase : base ≤ w.heap.size)
    (B : Nat) (A : Option Addr) (n c : Nat) (hx : a.eval x = .slice A n c) (hr : Reads w B 6 A n (flatP m)) (hl : l.length + n ≤ 2000000) (hp : 0 < n)
    (hk : ∀ v' w' row, OpnO w' E base v' (l ++ m) → w.grownBy w' row → (∀ k, row = some k → base ≤ k ∧ ∃ cs, Blk w k 32 cs) → wpList Try.prog ops Q rest (a.put o.dst v') w') :
    wpList Try.prog ops Q (o :: rest) a w := by
  refine wpList_plain hgd fun K hK => ?_
  obtain ⟨v', w', row, hrun, h2, h3, h4⟩ := run_append_opn w o.type E base v l m hown hbase B A n c hr hl hp
  unfold Oper.wp execOp
  simp only [ho, resolve, invoke, builtin, Sem.run_bind, Sem.run_pure, Result.andThen_ok, List.map_toArray, List.map_cons, List.map_nil, hs, hx, hrun]
  exact hK _ _ (hk v' w' row h2 h3 h4)
theorem Blk.grownT {w w' : World} {g : Nat} {t t' : TypeId} {cs : Array Value} {row : Option Nat} {base : Nat} (h : Blk w g t cs) (hg : w.grownBy w' row) (hr : ∀ k, row = some k → base ≤ k ∧ ∃ cs, Blk w k t' cs) (hne : t ≠ t') : Blk w' g t cs :=
  h.grown hg (fun e => by obtain ⟨_, cs', h'⟩ := hr g e.symm; exact hne (by unfold Blk at h h'; rw [h] at h'; injection h' with h'; injection h'))
theorem own_grownT {w w' : World} {b0 : Nat} {e t' : TypeId} {size n : Nat} {v : Value} {xs : List Value} {row : Option Nat} {base : Nat} (h : w.ownsRow b0 e size v n xs) (hg : w.grownBy w' row) (hr : ∀ k, row = some k → base ≤ k ∧ ∃ cs, Blk w k t' cs) (hne : e ≠ t') : w'.ownsRow b0 e size v n xs := by
  refine ⟨h.1, ?_⟩
  rcases h.2 with h2 | ⟨g, cap, cur, h1, h2, h3, h4⟩
  · exact Or.inl h2
  · exact Or.inr ⟨g, cap, cur, h1, h2, Blk.grownT (t := e) h3 hg hr hne, h4⟩
/-! ### places -/
theorem info_PlsO : (Try.prog.info? 30).map (fun i => (i.zero, i.size, i.bytes)) = some (some (.agg #[.int .i64 0, .int .i64 0, .int .i64 0, .int .i64 0, .int .i64 0, .int .i64 0]), 6, 48) := by kernel_rfl
theorem PlsO.nil (w : World) (base : Nat) : PlsO w base (.slice none 0 0) [] := ⟨rfl, .inl ⟨rfl, rfl⟩⟩
theorem snoc_PlsO (l : List Pl) (i : Pl) : flatL (l ++ [i]) = flatL l ++ i.cs := by simp [flatL]
theorem one_PlsO (i : Pl) : ∀ u ∈ i.cs, u.oneCell' = true := by
  intro u hu
  simp only [Pl.cs, List.mem_cons, List.not_mem_nil, or_false] at hu
  rcases hu with rfl | rfl | rfl | rfl | rfl | rfl <;> rfl
theorem step_PlsO {ops : Array Oper} {o : Oper} {a : Act} {K : Act → World → Prop} {Q : Exit → Act → World → Prop} {F : Prop} (w : World) (hgd : o.guard = none) (s x : Operand)
    (ho : o.op = .call { callee := .builtin .append, args := #[s, x], argTypes := #[24, 24] })
    (base : Nat) (v : Value) (l : List Pl) (i : Pl) (hs : a.eval s = v) (hown : PlsO w base v l) (g cp : Nat) (hgq : w.heap.size = g) (hx : a.eval x = .slice (some ⟨g, 0, none⟩) 1 cp) (hl : l.length < 400000000) (hbase : base ≤ w.heap.size)
    (hk : ∀ v' w', PlsO w' base v' (l ++ [i]) → (w.alloc (.cells #[.int .i64 i.p, .int .i64 i.n, .int .i64 i.x, .int .i64 i.y, .int .i64 i.w, .int .i64 i.h] 30)).grownBy w' v.ownBlock → K (a.put o.dst v') w') :
    if Region.wanted o (yielded ops a.tmps) = true then Oper.wp Try.prog o a (w.alloc (.cells #[.int .i64 i.p, .int .i64 i.n, .int .i64 i.x, .int .i64 i.y, .int .i64 i.w, .int .i64 i.h] 30)) K Q else F := by
  subst hgq
  obtain ⟨i0, hi0, hz0, hz1, hz2⟩ := info_parts info_PlsO
  refine step_append_any _ hgd s x _ ho base 30 i0 _ 6 48 Try.underlying24 hi0 hz0 hz1 hz2 rfl (by omega) v l.length (flatL l) hs (World.ownsRow.alloc hown _) (w.heap.size + 1) (some ⟨w.heap.size, 0, none⟩) 1 cp i.cs hx
    (by have := reads_blk (n := 1) (size := 6) (Blk.new w 30 #[.int .i64 i.p, .int .i64 i.n, .int .i64 i.x, .int .i64 i.y, .int .i64 i.w, .int .i64 i.h]) (Nat.lt_succ_self _) rfl; exact this) (one_PlsO i) (by simp only [maxLen]; omega) (by omega) (by rw [size_al]; omega) ?_
  intro v' w' h2 h3 _
  refine hk v' w' ?_ h3
  show w'.ownsRow base 30 6 v' (l ++ [i]).length (flatL (l ++ [i]))
  rw [snoc_PlsO, List.length_append]
  exact h2
end Go.Proofs.Ytgglffmfkhbcgaa
