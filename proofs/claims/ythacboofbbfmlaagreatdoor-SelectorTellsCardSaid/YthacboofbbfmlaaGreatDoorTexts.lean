/- Texts that a call has gathered by itself: one more. Conditions: as the theorems' premises say. -/
import Derived.Test.YthacboofbbfmlaaGreatDoorBytes
import Derived.Test.YthacboofbbfmlaaGreatDoorScanSpec
namespace Go.Proofs.YthacboofbbfmlaaGreatDoor
open Go.ChangeShapes Go.WideShapes Go.ChangeAt Go.RowKit
theorem strs_len' (xs : List (List UInt8)) : (strs xs).length = xs.length := by unfold strs; simp
/-- A slice value holds just these texts, in a row of the call's own. -/
def Txs (w : World) (base : Nat) (v : Value) (l : List (List UInt8)) : Prop := w.ownsRow base 9 1 v l.length (strs l)
theorem str_info : (Tryz.prog.info? 9).map (fun i => (i.zero, i.size, i.bytes)) = some (some (.string ⟨#[]⟩), 1, 16) := by kernel_rfl
theorem own_below {w w' : World} {base : Nat} {e : TypeId} {size : Nat} {v : Value} {n : Nat} {xs : List Value} (h : w.ownsRow base e size v n xs) (hb : Below w.heap.size w w') : w'.ownsRow base e size v n xs := by
  refine ⟨h.1, ?_⟩
  rcases h.2 with h2 | ⟨g, cap, cur, h1, h2, h3, h4⟩
  · exact Or.inl h2
  · refine Or.inr ⟨g, cap, cur, h1, h2, ?_, h4⟩
    have hlt : g < w.heap.size := by
      rcases Nat.lt_or_ge g w.heap.size with hlt | hge
      · exact hlt
      · rw [Array.getElem?_eq_none hge] at h3; cases h3
    rw [hb.block g hlt]
    exact h3
theorem Txs.nil (w : World) (base : Nat) (h : base ≤ w.heap.size) : Txs (w.alloc (.cells #[] 9)) base (.slice (some ⟨w.heap.size, 0, none⟩) 0 0) [] := World.ownsRow_made w #[] 0 h (Nat.zero_le _) rfl
theorem Txs.one (w : World) (base : Nat) (h : base ≤ w.heap.size) (x : List UInt8) : Txs (w.alloc (.cells #[.string (toB x)] 9)) base (.slice (some ⟨w.heap.size, 0, none⟩) 1 1) [x] :=
  ⟨rfl, Or.inr ⟨w.heap.size, 1, #[.string (toB x)], rfl, h, Blk.new w _ _, Nat.le_refl _, by simp [maxLen], rfl, rfl⟩⟩
theorem strs_one (l : List (List UInt8)) : ∀ u ∈ strs l, u.oneCell' = true := by
  intro u hu
  obtain ⟨x, _, rfl⟩ := List.mem_map.1 hu
  rfl
theorem own_form' {w : World} {base : Nat} {e : TypeId} {size : Nat} {v : Value} {n : Nat} {xs : List Value} (h : w.ownsRow base e size v n xs) : ∃ A c, v = .slice A n c := by
  rcases h.2 with ⟨rfl, rfl⟩ | ⟨g, cap, cur, rfl, _⟩
  · exact ⟨_, _, rfl⟩
  · exact ⟨_, _, rfl⟩
/-- Some more texts, of whatever slice. -/
theorem wpList_texts {ops : Array Oper} {rest : List Oper} {o : Oper} {a : Act} {Q : Exit → Act → World → Prop} (w : World) (hgd : o.guard = none) (s x : Operand)
    (ho : o.op = .call { callee := .builtin .append, args := #[s, x], argTypes := #[50, 50] })
    (base : Nat) (v : Value) (l m : List (List UInt8)) (hs : a.eval s = v) (hown : Txs w base v l) (B : Nat) (A : Option Addr) (cp : Nat) (hx : a.eval x = .slice A m.length cp) (hr : Reads w B 1 A m.length (strs m)) (hl : l.length + m.length < 8000000000000) (hbase : base ≤ w.heap.size)
    (h : ∀ v' w', Txs w' base v' (l ++ m) → w.grownBy w' v.ownBlock → wpList Tryz.prog ops Q rest (a.put o.dst v') w') : wpList Tryz.prog ops Q (o :: rest) a w := by
  obtain ⟨i0, hi0, hz0, hz1, hz2⟩ := info_parts str_info
  refine wpList_append_any _ hgd s x _ ho base 9 i0 _ 1 16 Tryz.underlying50 hi0 hz0 hz1 hz2 rfl (by omega) v l.length (strs l) hs hown B A m.length cp (strs m) hx hr (strs_one m) (by simp only [maxLen]; omega) (by omega) hbase ?_
  intro v' w' h2 h3 _
  refine h v' w' ?_ h3
  show w'.ownsRow base 9 1 v' (l ++ m).length (strs (l ++ m))
  unfold strs
  rw [List.map_append, List.length_append]
  exact h2
/-- One more text, just laid. -/
theorem wpList_textU {ops : Array Oper} {rest : List Oper} {o : Oper} {a : Act} {Q : Exit → Act → World → Prop} (w0 : World) (hgd : o.guard = none) (s x : Operand)
    (ho : o.op = .call { callee := .builtin .append, args := #[s, x], argTypes := #[50, 50] })
    (base : Nat) (v : Value) (l : List (List UInt8)) (t : List UInt8) (u : Value) (hu : Hid (Value.string (toB t) = u)) (cp : Nat) (hs : a.eval s = v) (hown : Txs w0 base v l) (hx : a.eval x = .slice (some ⟨w0.heap.size, 0, none⟩) 1 cp) (hl : l.length < 7000000000000) (hbase : base ≤ w0.heap.size)
    (h : ∀ v' w', Txs w' base v' (l ++ [t]) → (w0.alloc (.cells #[u] 9)).grownBy w' v.ownBlock → wpList Tryz.prog ops Q rest (a.put o.dst v') w') : wpList Tryz.prog ops Q (o :: rest) a (w0.alloc (.cells #[u] 9)) := by
  obtain rfl := hu.out
  refine wpList_texts _ hgd s x ho base v l [t] hs (World.ownsRow.alloc hown _) (w0.heap.size + 1) (some ⟨w0.heap.size, 0, none⟩) cp hx ?_ (by simp; omega) (by rw [size_al]; omega) h
  refine ⟨rfl, fun _ => ⟨_, rfl, Nat.lt_succ_self _, fun j u hu => ?_⟩⟩
  match j, hu with
  | 0, hu =>
    rw [add_zero_]
    exact (((Blk.new w0 9 #[.string (toB t)])).cell 0).trans hu
theorem below_textU {w w0 w' : World} {v : Value} {l : List (List UInt8)} {u : Value} (hb : Below w.heap.size w w0) (hown : Txs w0 w.heap.size v l) (hg : (w0.alloc (.cells #[u] 9)).grownBy w' v.ownBlock) : Below w.heap.size w w' := by
  have hb2 := below_al hb (.cells #[u] 9)
  exact hb2.grown hg hb2.size (fun k hk => (hown.lt k hk).1)
theorem below_texts {w w0 w' : World} {v : Value} {l : List (List UInt8)} (hb : Below w.heap.size w w0) (hown : Txs w0 w.heap.size v l) (hg : w0.grownBy w' v.ownBlock) : Below w.heap.size w w' :=
  hb.grown hg hb.size (fun k hk => (hown.lt k hk).1)
end Go.Proofs.YthacboofbbfmlaaGreatDoor
