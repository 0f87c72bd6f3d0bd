/- Rows of structs that a call gathers by itself, whatever the struct: one more at the end. Conditions: as the theorems' premises say. -/
import Derived.Test.YthacboofbbfmlaaGreatDoorAppend
import Derived.Test.YthacboofbbfmlaaGreatDoorBlk
import Derived.Deep.RegionLaw
namespace Go.Proofs.YthacboofbbfmlaaGreatDoor
open Go.RowKit
namespace RowG
section
variable {α : Type}
/-- A slice value holds just these, each by its cells, in a row of the call's own. -/
def Row (w : World) (base : Nat) (e : TypeId) (k : Nat) (enc : α → List Value) (v : Value) (l : List α) : Prop := w.ownsRow base e k v l.length (l.flatMap enc)
theorem Row.nil (w : World) (base : Nat) (e : TypeId) (k : Nat) (enc : α → List Value) : Row w base e k enc (.slice none 0 0) [] := World.ownsRow_nil _ _ _ _
theorem Row.alloc {w : World} {base k : Nat} {e : TypeId} {enc : α → List Value} {v : Value} {l : List α} (h : Row w base e k enc v l) (o : Obj) : Row (w.alloc o) base e k enc v l := World.ownsRow.alloc h o
theorem Row.drew {w : World} {base k : Nat} {e : TypeId} {enc : α → List Value} {v : Value} {l : List α} (h : Row w base e k enc v l) : Row w.drew base e k enc v l := h
theorem Row.below {w w' : World} {base k : Nat} {e : TypeId} {enc : α → List Value} {v : Value} {l : List α} (h : Row w base e k enc v l) (hb : Below w.heap.size w w') : Row w' base e k enc v l := by
  refine ⟨h.1, ?_⟩
  rcases h.2 with h2 | ⟨g, cap, cur, h1, h2, h3, h4⟩
  · exact Or.inl h2
  · refine Or.inr ⟨g, cap, cur, h1, h2, ?_, h4⟩
    have hlt : g < w.heap.size := by
      rcases Nat.lt_or_ge g w.heap.size with hlt | hge
      · exact hlt
      · rw [Array.getElem?_eq_none hge] at h3; cases h3
    rw [hb.block g hlt]
    exact h3
theorem Row.form {w : World} {base k : Nat} {e : TypeId} {enc : α → List Value} {v : Value} {l : List α} (h : Row w base e k enc v l) : ∃ A c, v = .slice A l.length c := by
  rcases h.2 with ⟨rfl, h0⟩ | ⟨g, cap, cur, rfl, _⟩
  · rw [h0]; exact ⟨_, _, rfl⟩
  · exact ⟨_, _, rfl⟩
theorem Row.reads {w : World} {base k : Nat} {e : TypeId} {enc : α → List Value} {A : Option Addr} {n c : Nat} {l : List α} (h : Row w base e k enc (.slice A n c) l) : Reads w w.heap.size k A l.length (l.flatMap enc) ∧ n = l.length := by
  have hn : n = l.length := by
    obtain ⟨_, _, h⟩ := Row.form h
    injection h
  subst hn
  exact ⟨Reads.of_own h, rfl⟩
theorem below_row {w w0 w1 w' : World} {k : Nat} {e : TypeId} {enc : α → List Value} {v : Value} {l : List α} (hb : Below w.heap.size w w1) (h : Row w0 w.heap.size e k enc v l) (hg : w1.grownBy w' v.ownBlock) : Below w.heap.size w w' :=
  hb.grown hg hb.size (fun j hj => (World.ownsRow.lt h j hj).1)
section
variable {P : Program} (w : World)
theorem run_more (t ty e : TypeId) (enc : α → List Value) (k bytes : Nat) (z : Value) (hinfo : (P.info? e).map (fun i => (i.zero, i.size, i.bytes)) = some (some z, k, bytes)) (ht : P.underlying t = some (.slice e)) (hz : z.cells.size = k) (hk : 0 < k)
    (henc : ∀ x, (enc x).length = k) (hone : ∀ x, ∀ u ∈ enc x, u.oneCell' = true) (base : Nat) (v : Value) (l : List α) (x : α) (hown : Row w base e k enc v l) (g cp : Nat)
    (hc : ∀ (j : Nat) (u : Value), (enc x)[j]? = some u → w.cell? ⟨g, j, none⟩ = some u) (hl : l.length + 1 ≤ maxLen) (hbytes : (l.length + 1) * bytes ≤ 140737488355328) (hbase : base ≤ w.heap.size) :
    ∃ v' w', (Builtin.append_ #[t, t] ty #[v, .slice (some ⟨g, 0, none⟩) 1 cp]).run P w = .ok v' w' ∧ Row w' base e k enc v' (l ++ [x]) ∧ w.grownBy w' v.ownBlock ∧ (v'.ownBlock = v.ownBlock ∨ v'.ownBlock = some w.heap.size) := by
  cases hi : P.info? e with
  | none => rw [hi] at hinfo; cases hinfo
  | some i =>
    rw [hi] at hinfo
    simp only [Option.map_some, Option.some.injEq, Prod.mk.injEq] at hinfo
    have hr : Reads w (g + 1) k (some ⟨g, 0, none⟩) 1 (enc x) := ⟨by rw [henc]; omega, fun _ => ⟨_, rfl, Nat.lt_succ_self _, fun j u hu => by
      rw [add_zero_]
      exact hc j u hu⟩⟩
    obtain ⟨v', w', hrun, h2, h3, h4⟩ := run_append_any (P := P) w base t ty e i z k bytes ht hi hinfo.1 hinfo.2.1 hinfo.2.2 hz hk v l.length (l.flatMap enc) hown (g + 1) (some ⟨g, 0, none⟩) 1 cp (enc x) hr (hone x) hl hbytes hbase
    refine ⟨v', w', hrun, ?_, h3, h4⟩
    unfold Row
    rw [List.length_append, List.flatMap_append]
    simpa using h2
theorem wp_more {o : Oper} {a : Act} {K : Act → World → Prop} {Q : Exit → Act → World → Prop} (s x : Operand) (t : TypeId)
    (ho : o.op = .call { callee := .builtin .append, args := #[s, x], argTypes := #[t, t] }) (v v2 : Value) (hs : a.eval s = v) (hx : a.eval x = v2) (v' : Value) (w' : World)
    (hrun : (Builtin.append_ #[t, t] o.type #[v, v2]).run P w = .ok v' w') (h : K (a.put o.dst v') w') : o.wp P a w K Q := by
  unfold Oper.wp execOp
  simp only [ho, resolve, invoke, builtin, Sem.run_bind, Sem.run_pure, Result.andThen_ok, List.map_toArray, List.map_cons, List.map_nil, hs, hx, hrun]
  exact h
theorem wpList_more {ops : Array Oper} {rest : List Oper} {o : Oper} {a : Act} {Q : Exit → Act → World → Prop} (hgd : o.guard = none) (s x : Operand) (t : TypeId)
    (ho : o.op = .call { callee := .builtin .append, args := #[s, x], argTypes := #[t, t] }) (e : TypeId) (enc : α → List Value) (k bytes : Nat) (z : Value) (hinfo : (P.info? e).map (fun i => (i.zero, i.size, i.bytes)) = some (some z, k, bytes)) (ht : P.underlying t = some (.slice e)) (hz : z.cells.size = k) (hk : 0 < k)
    (henc : ∀ x, (enc x).length = k) (hone : ∀ x, ∀ u ∈ enc x, u.oneCell' = true) (base : Nat) (v : Value) (l : List α) (y : α) (hs : a.eval s = v) (g cp : Nat) (hx : a.eval x = .slice (some ⟨g, 0, none⟩) 1 cp) (hown : Row w base e k enc v l)
    (hc : ∀ (j : Nat) (u : Value), (enc y)[j]? = some u → w.cell? ⟨g, j, none⟩ = some u) (hl : l.length + 1 ≤ maxLen) (hbytes : (l.length + 1) * bytes ≤ 140737488355328) (hbase : base ≤ w.heap.size)
    (h : ∀ v' w', Row w' base e k enc v' (l ++ [y]) → w.grownBy w' v.ownBlock → (v'.ownBlock = v.ownBlock ∨ v'.ownBlock = some w.heap.size) → wpList P ops Q rest (a.put o.dst v') w') : wpList P ops Q (o :: rest) a w := by
  obtain ⟨v', w', hrun, h2, h3, h4⟩ := run_more (P := P) w t o.type e enc k bytes z hinfo ht hz hk henc hone base v l y hown g cp hc hl hbytes hbase
  exact wpList_plain hgd fun _ hK => wp_more w s x t ho v _ hs hx v' w' hrun (hK _ _ (h v' w' h2 h3 h4))
theorem step_more {ops : Array Oper} {o : Oper} {a : Act} {K : Act → World → Prop} {Q : Exit → Act → World → Prop} {E : Prop} (hgd : o.guard = none) (s x : Operand) (t : TypeId)
    (ho : o.op = .call { callee := .builtin .append, args := #[s, x], argTypes := #[t, t] }) (e : TypeId) (enc : α → List Value) (k bytes : Nat) (z : Value) (hinfo : (P.info? e).map (fun i => (i.zero, i.size, i.bytes)) = some (some z, k, bytes)) (ht : P.underlying t = some (.slice e)) (hz : z.cells.size = k) (hk : 0 < k)
    (henc : ∀ x, (enc x).length = k) (hone : ∀ x, ∀ u ∈ enc x, u.oneCell' = true) (base : Nat) (v : Value) (l : List α) (y : α) (hs : a.eval s = v) (g cp : Nat) (hx : a.eval x = .slice (some ⟨g, 0, none⟩) 1 cp) (hown : Row w base e k enc v l)
    (hc : ∀ (j : Nat) (u : Value), (enc y)[j]? = some u → w.cell? ⟨g, j, none⟩ = some u) (hl : l.length + 1 ≤ maxLen) (hbytes : (l.length + 1) * bytes ≤ 140737488355328) (hbase : base ≤ w.heap.size)
    (h : ∀ v' w', Row w' base e k enc v' (l ++ [y]) → w.grownBy w' v.ownBlock → (v'.ownBlock = v.ownBlock ∨ v'.ownBlock = some w.heap.size) → K (a.put o.dst v') w') :
    if Region.wanted o (yielded ops a.tmps) = true then Oper.wp P o a w K Q else E := by
  have hw : Region.wanted o (yielded ops a.tmps) = true := by simp [Region.wanted, hgd]
  rw [if_pos hw]
  obtain ⟨v', w', hrun, h2, h3, h4⟩ := run_more (P := P) w t o.type e enc k bytes z hinfo ht hz hk henc hone base v l y hown g cp hc hl hbytes hbase
  exact wp_more w s x t ho v _ hs hx v' w' hrun (h v' w' h2 h3 h4)
end
end
/-- A new block's cells are a row's. -/
theorem new_cells (w : World) (e : TypeId) (cs : List Value) : ∀ (j : Nat) (u : Value), cs[j]? = some u → (w.alloc (.cells cs.toArray e)).cell? ⟨w.heap.size, j, none⟩ = some u := by
  intro j u hu
  refine ((Blk.new w e cs.toArray).cell j).trans ?_
  simpa using hu
end RowG
end Go.Proofs.YthacboofbbfmlaaGreatDoor
