/- Images that a call gathers by itself, one more; what own and both Publics answer. Conditions: as the theorems' premises say; the list lies in memory as it is read. -/
import Derived.Test.YtibpjfeghpmoiaaResC
import Derived.Test.YtibpjfeghpmoiaaAppend
import Derived.OneCell
namespace Go.Proofs.Ytibpjfeghpmoiaa
open Go.ChangeShapes Go.WideShapes Go.ChangeAt Go.RowKit
theorem flatI_snoc (l : List Img) (i : Img) : flatI (l ++ [i]) = flatI l ++ [.string i.s, .int .i64 i.w, .int .i64 i.h, .bool i.o] := by rw [flatI_append]; rfl
theorem own_form' {w : World} {base : Nat} {e : TypeId} {size : Nat} {v : Value} {n : Nat} {xs : List Value} (h : w.ownsRow base e size v n xs) : ∃ A c, v = .slice A n c := by
  rcases h.2 with ⟨rfl, rfl⟩ | ⟨g, cap, cur, rfl, _⟩
  · exact ⟨_, _, rfl⟩
  · exact ⟨_, _, rfl⟩
theorem own_slice {w : World} {base : Nat} {e : TypeId} {size : Nat} {v : Value} {n : Nat} {xs : List Value} (h : w.ownsRow base e size v n xs) : ∃ A m c, v = .slice A m c := by
  obtain ⟨A, c, h⟩ := own_form' h
  exact ⟨A, n, c, h⟩
theorem own_below {w w' : World} {base : Nat} {e : TypeId} {size : Nat} {v : Value} {n : Nat} {xs : List Value} (h : w.ownsRow base e size v n xs) (hb : Below w.heap.size w w') : w'.ownsRow base e size v n xs := by
  refine ⟨h.1, ?_⟩
  rcases h.2 with h2 | ⟨g, cap, cur, h1, h2, h3, h4⟩
  · exact Or.inl h2
  · refine Or.inr ⟨g, cap, cur, h1, h2, ?_, h4⟩
    have hlt : g < w.heap.size := by
      rcases Nat.lt_or_ge g w.heap.size with hlt | hge
      · exact hlt
      · rw [Array.getElem?_eq_none hge] at h3; cases h3
    rw [hb.block g hlt]
    exact h3
theorem below_own {w w0 w' : World} {e : TypeId} {size : Nat} {v : Value} {n : Nat} {xs : List Value} {o : Obj} (hb : Below w.heap.size w w0) (hown : w0.ownsRow w.heap.size e size v n xs) (hg : (w0.alloc o).grownBy w' v.ownBlock) : Below w.heap.size w w' := by
  have hb2 := below_al hb o
  exact hb2.grown hg hb2.size (fun k hk => (hown.lt k hk).1)
theorem take_pub {l : List Img} {k : Nat} {r : Img} (h : l[k]? = some r) (f : Img → Img) : (l.take (k + 1)).map f = (l.take k).map f ++ [f r] := by
  rw [List.take_add_one, h, List.map_append]; rfl
theorem take_len {l : List Img} {k : Nat} (h : k ≤ l.length) (f : Img → Img) : ((l.take k).map f).length = k := by simp; omega
theorem info_R : (Try.prog.info? 49).map (fun i => (i.zero, i.size, i.bytes)) = some (some (.agg #[.string ⟨#[]⟩, .int .i64 0, .int .i64 0, .bool false]), 4, 40) := by kernel_rfl
def ImgsR (w : World) (base : Nat) (v : Value) (l : List Img) : Prop := w.ownsRow base 49 4 v l.length (flatI l)
theorem reads_R (w : World) (i : Img) (B : Nat) (hB : w.heap.size < B) : Reads (w.alloc (.cells #[.string i.s, .int .i64 i.w, .int .i64 i.h, .bool i.o] 49)) B 4 (some ⟨w.heap.size, 0, none⟩) 1 [.string i.s, .int .i64 i.w, .int .i64 i.h, .bool i.o] :=
  reads_blk (Blk.new w 49 #[.string i.s, .int .i64 i.w, .int .i64 i.h, .bool i.o]) hB rfl
theorem one_R (i : Img) : ∀ u ∈ ([.string i.s, .int .i64 i.w, .int .i64 i.h, .bool i.o] : List Value), u.oneCell' = true := by
  intro u hu
  simp only [List.mem_cons, List.not_mem_nil, or_false] at hu
  rcases hu with rfl | rfl | rfl | rfl <;> rfl
theorem wpList_R {ops : Array Oper} {rest : List Oper} {o : Oper} {a : Act} {Q : Exit → Act → World → Prop} (w : World) (hgd : o.guard = none) (s x : Operand)
    (ho : o.op = .call { callee := .builtin .append, args := #[s, x], argTypes := #[28, 28] })
    (base : Nat) (v : Value) (l : List Img) (i : Img) (hs : a.eval s = v) (hown : ImgsR w base v l) (g cp : Nat) (hgq : w.heap.size = g) (hx : a.eval x = .slice (some ⟨g, 0, none⟩) 1 cp) (hl : l.length < 400000000) (hbase : base ≤ w.heap.size)
    (hk : ∀ v' w', ImgsR w' base v' (l ++ [i]) → (w.alloc (.cells #[.string i.s, .int .i64 i.w, .int .i64 i.h, .bool i.o] 49)).grownBy w' v.ownBlock → wpList Try.prog ops Q rest (a.put o.dst v') w') :
    wpList Try.prog ops Q (o :: rest) a (w.alloc (.cells #[.string i.s, .int .i64 i.w, .int .i64 i.h, .bool i.o] 49)) := by
  subst hgq
  obtain ⟨i0, hi0, hz0, hz1, hz2⟩ := info_parts info_R
  refine wpList_append_any _ hgd s x _ ho base 49 i0 _ 4 40 Try.underlying28 hi0 hz0 hz1 hz2 rfl (by omega) v l.length (flatI l) hs (World.ownsRow.alloc hown _) (w.heap.size + 1) (some ⟨w.heap.size, 0, none⟩) 1 cp _ hx (reads_R w i _ (Nat.lt_succ_self _)) (one_R i) (by simp only [maxLen]; omega) (by omega) (by rw [size_al]; omega) ?_
  intro v' w' h2 h3 _
  refine hk v' w' ?_ h3
  show w'.ownsRow base 49 4 v' (l ++ [i]).length (flatI (l ++ [i]))
  rw [flatI_snoc, List.length_append]
  exact h2
theorem step_R {ops : Array Oper} {o : Oper} {a : Act} {K : Act → World → Prop} {Q : Exit → Act → World → Prop} {E : Prop} (w : World) (hgd : o.guard = none) (s x : Operand)
    (ho : o.op = .call { callee := .builtin .append, args := #[s, x], argTypes := #[28, 28] })
    (base : Nat) (v : Value) (l : List Img) (i : Img) (hs : a.eval s = v) (hown : ImgsR w base v l) (g cp : Nat) (hgq : w.heap.size = g) (hx : a.eval x = .slice (some ⟨g, 0, none⟩) 1 cp) (hl : l.length < 400000000) (hbase : base ≤ w.heap.size)
    (hk : ∀ v' w', ImgsR w' base v' (l ++ [i]) → (w.alloc (.cells #[.string i.s, .int .i64 i.w, .int .i64 i.h, .bool i.o] 49)).grownBy w' v.ownBlock → K (a.put o.dst v') w') :
    if Region.wanted o (yielded ops a.tmps) = true then Oper.wp Try.prog o a (w.alloc (.cells #[.string i.s, .int .i64 i.w, .int .i64 i.h, .bool i.o] 49)) K Q else E := by
  subst hgq
  obtain ⟨i0, hi0, hz0, hz1, hz2⟩ := info_parts info_R
  refine step_append_any _ hgd s x _ ho base 49 i0 _ 4 40 Try.underlying28 hi0 hz0 hz1 hz2 rfl (by omega) v l.length (flatI l) hs (World.ownsRow.alloc hown _) (w.heap.size + 1) (some ⟨w.heap.size, 0, none⟩) 1 cp _ hx (reads_R w i _ (Nat.lt_succ_self _)) (one_R i) (by simp only [maxLen]; omega) (by omega) (by rw [size_al]; omega) ?_
  intro v' w' h2 h3 _
  refine hk v' w' ?_ h3
  show w'.ownsRow base 49 4 v' (l ++ [i]).length (flatI (l ++ [i]))
  rw [flatI_snoc, List.length_append]
  exact h2
theorem info_C : (Try.prog.info? 47).map (fun i => (i.zero, i.size, i.bytes)) = some (some (.agg #[.string ⟨#[]⟩, .int .i64 0, .int .i64 0, .bool false]), 4, 40) := by kernel_rfl
def ImgsC (w : World) (base : Nat) (v : Value) (l : List Img) : Prop := w.ownsRow base 47 4 v l.length (flatI l)
theorem reads_C (w : World) (i : Img) (B : Nat) (hB : w.heap.size < B) : Reads (w.alloc (.cells #[.string i.s, .int .i64 i.w, .int .i64 i.h, .bool i.o] 47)) B 4 (some ⟨w.heap.size, 0, none⟩) 1 [.string i.s, .int .i64 i.w, .int .i64 i.h, .bool i.o] :=
  reads_blk (Blk.new w 47 #[.string i.s, .int .i64 i.w, .int .i64 i.h, .bool i.o]) hB rfl
theorem one_C (i : Img) : ∀ u ∈ ([.string i.s, .int .i64 i.w, .int .i64 i.h, .bool i.o] : List Value), u.oneCell' = true := by
  intro u hu
  simp only [List.mem_cons, List.not_mem_nil, or_false] at hu
  rcases hu with rfl | rfl | rfl | rfl <;> rfl
theorem wpList_C {ops : Array Oper} {rest : List Oper} {o : Oper} {a : Act} {Q : Exit → Act → World → Prop} (w : World) (hgd : o.guard = none) (s x : Operand)
    (ho : o.op = .call { callee := .builtin .append, args := #[s, x], argTypes := #[22, 22] })
    (base : Nat) (v : Value) (l : List Img) (i : Img) (hs : a.eval s = v) (hown : ImgsC w base v l) (g cp : Nat) (hgq : w.heap.size = g) (hx : a.eval x = .slice (some ⟨g, 0, none⟩) 1 cp) (hl : l.length < 400000000) (hbase : base ≤ w.heap.size)
    (hk : ∀ v' w', ImgsC w' base v' (l ++ [i]) → (w.alloc (.cells #[.string i.s, .int .i64 i.w, .int .i64 i.h, .bool i.o] 47)).grownBy w' v.ownBlock → wpList Try.prog ops Q rest (a.put o.dst v') w') :
    wpList Try.prog ops Q (o :: rest) a (w.alloc (.cells #[.string i.s, .int .i64 i.w, .int .i64 i.h, .bool i.o] 47)) := by
  subst hgq
  obtain ⟨i0, hi0, hz0, hz1, hz2⟩ := info_parts info_C
  refine wpList_append_any _ hgd s x _ ho base 47 i0 _ 4 40 Try.underlying22 hi0 hz0 hz1 hz2 rfl (by omega) v l.length (flatI l) hs (World.ownsRow.alloc hown _) (w.heap.size + 1) (some ⟨w.heap.size, 0, none⟩) 1 cp _ hx (reads_C w i _ (Nat.lt_succ_self _)) (one_C i) (by simp only [maxLen]; omega) (by omega) (by rw [size_al]; omega) ?_
  intro v' w' h2 h3 _
  refine hk v' w' ?_ h3
  show w'.ownsRow base 47 4 v' (l ++ [i]).length (flatI (l ++ [i]))
  rw [flatI_snoc, List.length_append]
  exact h2
theorem step_C {ops : Array Oper} {o : Oper} {a : Act} {K : Act → World → Prop} {Q : Exit → Act → World → Prop} {E : Prop} (w : World) (hgd : o.guard = none) (s x : Operand)
    (ho : o.op = .call { callee := .builtin .append, args := #[s, x], argTypes := #[22, 22] })
    (base : Nat) (v : Value) (l : List Img) (i : Img) (hs : a.eval s = v) (hown : ImgsC w base v l) (g cp : Nat) (hgq : w.heap.size = g) (hx : a.eval x = .slice (some ⟨g, 0, none⟩) 1 cp) (hl : l.length < 400000000) (hbase : base ≤ w.heap.size)
    (hk : ∀ v' w', ImgsC w' base v' (l ++ [i]) → (w.alloc (.cells #[.string i.s, .int .i64 i.w, .int .i64 i.h, .bool i.o] 47)).grownBy w' v.ownBlock → K (a.put o.dst v') w') :
    if Region.wanted o (yielded ops a.tmps) = true then Oper.wp Try.prog o a (w.alloc (.cells #[.string i.s, .int .i64 i.w, .int .i64 i.h, .bool i.o] 47)) K Q else E := by
  subst hgq
  obtain ⟨i0, hi0, hz0, hz1, hz2⟩ := info_parts info_C
  refine step_append_any _ hgd s x _ ho base 47 i0 _ 4 40 Try.underlying22 hi0 hz0 hz1 hz2 rfl (by omega) v l.length (flatI l) hs (World.ownsRow.alloc hown _) (w.heap.size + 1) (some ⟨w.heap.size, 0, none⟩) 1 cp _ hx (reads_C w i _ (Nat.lt_succ_self _)) (one_C i) (by simp only [maxLen]; omega) (by omega) (by rw [size_al]; omega) ?_
  intro v' w' h2 h3 _
  refine hk v' w' ?_ h3
  show w'.ownsRow base 47 4 v' (l ++ [i]).length (flatI (l ++ [i]))
  rw [flatI_snoc, List.length_append]
  exact h2
set_option maxHeartbeats 8000000 in
set_option maxRecDepth 100000 in
theorem own_any (A : Option Addr) (n c : Nat) (l : List Img) (a : Int) (o : Bool) (w : World) (hr : Reads w w.heap.size 4 A n (flatI l)) (hn : n ≤ 100) :
    Calls Try.prog 7 #[.agg #[.slice A n c, .int .i64 a, .bool o]] w fun e w' => ∃ A' c', e = .returned (.agg #[.slice A' n c', .int .i64 a, .bool o]) ∧ Reads w' w'.heap.size 4 A' n (flatI l) ∧ Below w.heap.size w w' := by
  have hlen : l.length = n := by have := hr.1; rw [flatI_len] at this; omega
  go_enter Try.func7, Try.ntmps7
  go_wp2
  have hB0 := below_al (below_al (below_al (Below.refl w.heap.size w) (.cells #[.slice A n c, .int .i64 a, .bool o] 26)) (.cells #[.slice none 0 0, .int .i64 0, .bool false] 31)) (.cells #[.slice none 0 0, .int .i64 a, .bool o] 31)
  have K2 := (Blk.new (w.alloc (.cells #[.slice A n c, .int .i64 a, .bool o] 26)) 31 #[.slice none 0 0, .int .i64 0, .bool false]).alloc (.cells #[.slice none 0 0, .int .i64 a, .bool o] 31)
  have K3 := Blk.new ((w.alloc (.cells #[.slice A n c, .int .i64 a, .bool o] 26)).alloc (.cells #[.slice none 0 0, .int .i64 0, .bool false] 31)) 31 #[.slice none 0 0, .int .i64 a, .bool o]
  rw [size_al] at K2
  rw [size_al, size_al] at K3
  have hY0 : ImgsR (((w.alloc (.cells #[.slice A n c, .int .i64 a, .bool o] 26)).alloc (.cells #[.slice none 0 0, .int .i64 0, .bool false] 31)).alloc (.cells #[.slice none 0 0, .int .i64 a, .bool o] 31)) w.heap.size (.slice none 0 0) [] := ⟨rfl, .inl ⟨rfl, rfl⟩⟩
  go_loopw [12] (fun i wr => ∃ (k : Nat) (v : Value), k ≤ n ∧ i = .int .i64 k ∧ Below w.heap.size w wr ∧ Blk wr (w.heap.size + 1) 31 #[.slice none 0 0, .int .i64 0, .bool false] ∧ Blk wr (w.heap.size + 1 + 1) 31 #[v, .int .i64 a, .bool o] ∧ ImgsR wr w.heap.size v (l.take k)) (fun i _ => n - (intOf i).toNat)
  case atStart => exact ⟨0, _, Nat.zero_le _, rfl, hB0, K2, K3, hY0⟩
  case round =>
    obtain ⟨k, v, hk, rfl, hBr, Kr2, Kr3, hY⟩ := hrel
    clear hB0 K2 K3 hY0
    have hle := hBr.size
    have z3 := Kr3.lt
    by_cases hlt : k < n
    · have hkl : k < l.length := by omega
      obtain ⟨r, hrk⟩ : ∃ r, l[k]? = some r := ⟨l[k], List.getElem?_eq_getElem hkl⟩
      obtain ⟨ad, rfl, hab, e0, e1, e2, e3⟩ := img_of (hr.below hBr) hrk
      have HT : l.take (k + 1) = l.take k ++ [r] := by rw [List.take_add_one, hrk]; rfl
      have hol : (l.take k).length < 400000000 := by simp; omega
      have nv := own_blk_ne (t := 31) hY Kr3 (by decide)
      have nv2 := own_blk_ne (t := 31) hY Kr2 (by decide)
      have c3 := Kr3.cell 0
      have n3 : w.heap.size + 1 + 1 ≠ wr.heap.size := Nat.ne_of_lt z3
      obtain ⟨rs, rw_, rh, ro⟩ := r
      simp only at e0 e1 e2 e3 HT
      have hYa : ImgsR (wr.alloc (.cells #[.string rs, .int .i64 rw_, .int .i64 rh, .bool ro] 47)) w.heap.size v (l.take k) := World.ownsRow.alloc hY _
      have hBa := below_al hBr (.cells #[.string rs, .int .i64 rw_, .int .i64 rh, .bool ro] 47)
      have Ka3 := (Kr3.alloc (.cells #[.string rs, .int .i64 rw_, .int .i64 rh, .bool ro] 47)).alloc (.cells #[.string rs, .int .i64 rw_, .int .i64 rh, .bool ro] 49)
      have Ka2 := (Kr2.alloc (.cells #[.string rs, .int .i64 rw_, .int .i64 rh, .bool ro] 47)).alloc (.cells #[.string rs, .int .i64 rw_, .int .i64 rh, .bool ro] 49)
      have hlea : w.heap.size ≤ (wr.alloc (.cells #[.string rs, .int .i64 rw_, .int .i64 rh, .bool ro] 47)).heap.size := hBa.size
      go_wp2_with (first
        | (at_builtin; refine wpList_R (wr.alloc (.cells #[.string rs, .int .i64 rw_, .int .i64 rh, .bool ro] 47)) rfl (.tmp 17) (.tmp 19) rfl w.heap.size v (l.take k) ⟨rs, rw_, rh, ro⟩ rfl hYa _ _ (size_al wr _) rfl hol hlea ?_; intro v' w' hY' hg
           have hB' := below_own hBa hYa hg
           have K3' := Ka3.grown hg (fun e => nv e.symm)
           have K2' := Ka2.grown hg (fun e => nv2 e.symm)
           have f3 := K3'.frozen 0
           have c3' := K3'.cell 0
           clear c3
           have nv' := own_blk_ne (t := 31) hY' K3' (by decide)
           obtain ⟨A1, m1, c1, rfl⟩ := own_slice hY'))
      have hB2 := below_set hB' (p := ⟨w.heap.size + 1 + 1, 0, none⟩) (by show w.heap.size ≤ w.heap.size + 1 + 1; omega) (.slice A1 m1 c1)
      have K32 := K3'.set_ 0 (.slice A1 m1 c1)
      have K22 := K2'.far (p := ⟨w.heap.size + 1 + 1, 0, none⟩) (by show w.heap.size + 1 ≠ w.heap.size + 1 + 1; omega) (.slice A1 m1 c1)
      have hY2 := ownsRow_setCell_other hY' (a := ⟨w.heap.size + 1 + 1, 0, none⟩) nv' (.slice A1 m1 c1)
      rw [← HT] at hY2
      go_roundw
      case rel => exact ⟨k + 1, .slice A1 m1 c1, by omega, by go_num, hB2, K22, K32, hY2⟩
      case measure => simp [intOf]; omega
    · obtain rfl : k = n := by omega
      have htk : l.take k = l := List.take_of_length_le (by omega)
      rw [htk] at hY
      have c30 := Kr3.cell 0
      have c31 := Kr3.cell 1
      have c32 := Kr3.cell 2
      have f20 := Kr2.frozen 0
      have f21 := Kr2.frozen 1
      have f22 := Kr2.frozen 2
      have c20 := Kr2.cell 0
      have c21 := Kr2.cell 1
      have c22 := Kr2.cell 2
      have hne : w.heap.size + 1 ≠ w.heap.size + 1 + 1 := by omega
      have nv2 := own_blk_ne (t := 31) hY Kr2 (by decide)
      obtain ⟨A', c', rfl⟩ := own_form' hY
      rw [hlen] at hY nv2
      go_wp2
      refine bodyPost_ret (v := .agg #[.slice A' k c', .int .i64 a, .bool o]) (by simp [results, Try.results7, go_sem, c20, c21, c22]) rfl ⟨A', c', rfl, ?_, ?_⟩
      · have hY3 := ownsRow_setCell_other (ownsRow_setCell_other (ownsRow_setCell_other hY (a := ⟨w.heap.size + 1, 0, none⟩) nv2 (.slice A' k c')) (a := ⟨w.heap.size + 1, 1, none⟩) nv2 (.int .i64 a)) (a := ⟨w.heap.size + 1, 2, none⟩) nv2 (.bool o)
        rw [hlen] at hY3
        exact Reads.of_own hY3
      · exact below_set (below_set (below_set hBr (by show w.heap.size ≤ w.heap.size + 1; omega) _) (by show w.heap.size ≤ w.heap.size + 1; omega) _) (by show w.heap.size ≤ w.heap.size + 1; omega) _
end Go.Proofs.Ytibpjfeghpmoiaa
