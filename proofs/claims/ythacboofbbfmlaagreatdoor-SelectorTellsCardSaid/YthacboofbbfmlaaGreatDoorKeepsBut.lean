/- What lies below a number, but for one block: kept from world to world; and operations of a round that no defer stands in. Conditions: as the theorems' premises say. -/
import Derived.RangeFuncNested
import Derived.RangeFuncBound
import Derived.RangeFuncCalls
import Derived.RangeFuncLeaves
import Derived.RangeFuncBox
import Derived.Shelf.Abstract
import Derived.Shelf.RegionOpen
import Derived.WalkKit
import Derived.OwnWalkIn
import Derived.TacticsInMore
import Derived.LoopNIn
import Derived.LoopIn
import Derived.Maps.AppendAt
import Derived.Test.YthacboofbbfmlaaGreatDoorAppend
namespace Go.Proofs.YthacboofbbfmlaaGreatDoor
open Go.RowKit
/-- Whatever lies below n, but block L, lies as it lay. -/
structure KeepsBut (L n : Nat) (w w' : World) : Prop where
  os : w'.os = w.os
  tape : w'.tape = w.tape
  output : w'.output = w.output
  size : w.heap.size ≤ w'.heap.size
  block : ∀ k, k < n → k ≠ L → w'.heap[k]? = w.heap[k]?
section
variable {L n : Nat} {a b c w w' : World}
theorem KeepsBut.refl (L n : Nat) (w : World) : KeepsBut L n w w := ⟨rfl, rfl, rfl, Nat.le_refl _, fun _ _ _ => rfl⟩
theorem KeepsBut.trans (h : KeepsBut L n a b) (k : KeepsBut L n b c) : KeepsBut L n a c :=
  ⟨k.os.trans h.os, k.tape.trans h.tape, k.output.trans h.output, Nat.le_trans h.size k.size, fun i hi hn => (k.block i hi hn).trans (h.block i hi hn)⟩
theorem KeepsBut.of_below (L : Nat) (h : Below n a b) : KeepsBut L n a b := ⟨h.os, h.tape, h.output, h.size, fun k hk _ => h.block k hk⟩
theorem KeepsBut.drew (h : KeepsBut L n a w) : KeepsBut L n a w.drew := ⟨h.os, h.tape, h.output, h.size, h.block⟩
theorem KeepsBut.alloc (h : KeepsBut L n a w) (hn : n ≤ w.heap.size) (o : Obj) : KeepsBut L n a (w.alloc o) := h.trans (.of_below L ((Below.refl n w).alloc hn o))
theorem KeepsBut.set (h : KeepsBut L n a w) (v : Value) : KeepsBut L n a (w.setCell ⟨L, 0, none⟩ v) :=
  h.trans ⟨rfl, rfl, rfl, by simp, fun k _ hk => Below.heap_setCell w _ v k hk⟩
theorem KeepsBut.grown {row : Option Nat} (h : KeepsBut L n a w) (hg : w.grownBy w' row) (hn : n ≤ w.heap.size) (hr : ∀ k, row = some k → n ≤ k) : KeepsBut L n a w' :=
  h.trans (.of_below L ((Below.refl n w).grown hg hn hr))
theorem KeepsBut.below {m : Nat} (h : KeepsBut L n a b) (hm : m ≤ n) (hL : m ≤ L) : Below m a b :=
  ⟨h.os, h.tape, h.output, h.size, fun k hk => h.block k (by omega) (by omega)⟩
theorem KeepsBut.cell {o : Nat} {k : Nat} (h : KeepsBut L n a b) (hk : k < n) (hL : k ≠ L) : b.cell? ⟨k, o, none⟩ = a.cell? ⟨k, o, none⟩ := World.cell?_of_block (w := a) (a := ⟨k, o, none⟩) (h.block k hk hL)
theorem keepsBut_t (h : KeepsBut L n a b) (k : KeepsBut L n b c) : KeepsBut L n a c := h.trans k
theorem keepsBut_b {w : World} (hn : n ≤ w.heap.size) (W : World) (l : Nat) (o o' : Obj) (hl : w.heap.size ≤ l) (h : W.heap[l]? = some o) (h1 : o.isCells = false) (h2 : o.isWalk = false) : KeepsBut L n W (W.putObj l o') :=
  .of_below L (belowK_b hn W l o o' hl h h1 h2)
theorem ownFrom_keepsBut {β : Type} {B : Nat} {w₀ : World} (hn : n ≤ w₀.heap.size) (hB : n ≤ B) : OwnFrom B (fun (_ : β) W => KeepsBut L n w₀ W) :=
  fun _ _ _ _ hs hg hr => hs.grown hg (Nat.le_trans hn hs.size) (fun k e => Nat.le_trans hB (hr k e).1)
end
/-- A cell that lies below, in another block. -/
theorem boxed_keepsBut {L n B : Nat} {t : TypeId} {v : Value} {w w' : World} (h : Boxed w B t v) (hk : KeepsBut L n w w') (hB : B < n) (hL : B ≠ L) : Boxed w' B t v := (hk.block B hB hL).trans h
theorem boxed_below {n B : Nat} {t : TypeId} {v : Value} {w w' : World} (h : Boxed w B t v) (hk : Below n w w') (hB : B < n) : Boxed w' B t v := (hk.block B hB).trans h
/-- A row of one's own, where nothing that lay has turned. -/
theorem ownsRow_below {w w' : World} {base : Nat} {e : TypeId} {size : Nat} {v : Value} {n : Nat} {xs : List Value} (h : w.ownsRow base e size v n xs) (hb : Below w.heap.size w w') : w'.ownsRow base e size v n xs := by
  refine ⟨h.1, ?_⟩
  rcases h.2 with h2 | ⟨g, cap, cur, h1, h2, h3, h4⟩
  · exact Or.inl h2
  · refine Or.inr ⟨g, cap, cur, h1, h2, ?_, h4⟩
    have hlt : g < w.heap.size := by
      rcases Nat.lt_or_ge g w.heap.size with hlt | hge
      · exact hlt
      · rw [Array.getElem?_eq_none hge] at h3; cases h3
    rw [hb.block g hlt]
    exact h3
theorem ownsRow_base {W : World} {base base' : Nat} {e : TypeId} {size : Nat} {v : Value} {k : Nat} {xs : List Value} (h : W.ownsRow base e size v k xs) (hb : base' ≤ base) : W.ownsRow base' e size v k xs := by
  refine ⟨h.1, ?_⟩
  rcases h.2 with h2 | ⟨g, cap, cur, h1, h2, h3⟩
  · exact Or.inl h2
  · exact Or.inr ⟨g, cap, cur, h1, Nat.le_trans hb h2, h3⟩
/-- 'out = append(out, ..)' in a loop's body: what lies behind the store. -/
theorem boxed_appended {W w1 : World} {n L : Nat} {t e : TypeId} {size : Nat} {v v' : Value} {k m : Nat} {xs ys : List Value} {tmp : Obj}
    (hv : Boxed W L t v) (hte : t ≠ e) (hrow : W.ownsRow n e size v k xs) (hn : n ≤ W.heap.size)
    (hown' : w1.ownsRow n e size v' m ys) (hgrow : (W.alloc tmp).grownBy w1 v.ownBlock) :
    Boxed w1 L t v ∧ Boxed (w1.setCell ⟨L, 0, none⟩ v') L t v' ∧ (w1.setCell ⟨L, 0, none⟩ v').ownsRow n e size v' m ys ∧ KeepsOthers W (w1.setCell ⟨L, 0, none⟩ v') ∧ KeepsBut L n W (w1.setCell ⟨L, 0, none⟩ v') := by
  have hv1 : Boxed w1 L t v := (hv.alloc tmp).kept hgrow (hv.not_row hte hrow)
  refine ⟨hv1, hv1.set v', hown'.kept (grownBy_setCell' w1 L v') (.inr (hv1.not_row hte hown').symm), ?_, ?_⟩
  · refine ((KeepsOthers.alloc W tmp).trans (KeepsOthers.of_grownBy hgrow fun j o ej hj => ?_)).trans (KeepsOthers.setCell _ _ _)
    rcases (hrow.alloc tmp).2 with ⟨rfl, _⟩ | ⟨g, cap, cur, rfl, _, hgb, _⟩
    · simp [Value.ownBlock] at ej
    · obtain rfl : g = j := by simpa [Value.ownBlock] using ej
      rw [hgb] at hj; cases hj; rfl
  · refine ((((KeepsBut.refl L n W).alloc hn tmp).grown hgrow (by simp; omega) fun j ej => ?_)).set v'
    rcases hrow.2 with ⟨rfl, _⟩ | ⟨g, cap, cur, rfl, hb, _, _⟩
    · simp [Value.ownBlock] at ej
    · obtain rfl : g = j := by simpa [Value.ownBlock] using ej
      exact hb
/-- append onto a row of one's own, as an operation of a region that draws its order, in a round of a loop over an iterator. -/
theorem stepIn_append_any {l m : Nat} {P : Program} {ops : Array Oper} {o : Oper} {a : Act} {K : Act → World → Prop} {Q : Exit → Act → World → Prop} {E : Prop} (w : World) (hgd : o.guard = none) (s x : Operand) (t : TypeId)
    (ho : o.op = .call { callee := .builtin .append, args := #[s, x], argTypes := #[t, t] })
    (base : Nat) (e : TypeId) (i : TypeInfo) (z : Value) (size bytes : Nat) (ht : P.underlying t = some (.slice e)) (hi : P.info? e = some i) (hz : i.zero = some z)
    (hsize : i.size = size) (hby : i.bytes = bytes) (hzs : z.cells.size = size) (hsz : 0 < size)
    (v : Value) (n : Nat) (xs : List Value) (hs : a.eval s = v) (hown : w.ownsRow base e size v n xs)
    (B : Nat) (A : Option Addr) (k c : Nat) (news : List Value) (hx : a.eval x = .slice A k c) (hr : Reads w B size A k news) (h1 : ∀ u ∈ news, u.oneCell' = true)
    (h63 : n + k ≤ maxLen) (hbytes : (n + k) * bytes ≤ 140737488355328) (hbase : base ≤ w.heap.size)
    (h : ∀ v' w', w'.ownsRow base e size v' (n + k) (xs ++ news) → w.grownBy w' v.ownBlock → K (a.put o.dst v') w') :
    if Region.wanted o (yielded ops a.tmps) = true then Oper.wpIn (Fence.wide.inRound l) m P o a w K Q else E := by
  have hw : Region.wanted o (yielded ops a.tmps) = true := by simp [Region.wanted, hgd]
  rw [if_pos hw]
  obtain ⟨v', w', hrun, h2, h3, h4⟩ := run_append_any (P := P) w base t o.type e i z size bytes ht hi hz hsize hby hzs hsz v n xs hown B A k c news hr h1 h63 hbytes hbase
  refine ⟨fun _ _ => trivial, ?_⟩
  rw [Fence.inRound_round, Oper.semAt_some _ _ _ (by rw [ho]; intro c h; cases h)]
  unfold execOp
  simp only [ho, resolve, invoke, builtin, Sem.run_bind, Sem.run_pure, Result.andThen_ok, List.map_toArray, List.map_cons, List.map_nil, hs, hx, hrun]
  exact h v' w' h2 h3
end Go.Proofs.YthacboofbbfmlaaGreatDoor
