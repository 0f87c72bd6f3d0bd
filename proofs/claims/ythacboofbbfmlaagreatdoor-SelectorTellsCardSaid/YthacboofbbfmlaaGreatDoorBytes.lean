/- Bytes that a call has gathered by itself: one more, and as a text. Conditions: as the theorems' premises say. -/
import Derived.Test.YthacboofbbfmlaaGreatDoorAppend
import Derived.Test.YthacboofbbfmlaaGreatDoorBlk
import Derived.Test.YthacboofbbfmlaaGreatDoorRows
import Derived.WalkKit
import Derived.Laws.IdiomStrings
import Derived.ProofKit
import Derived.OpenShut
import Derived.IntWalk
import Derived.Lib.Hide
import Derived.Outline
import Derived.WalkLawsBesides
namespace Go.Proofs.YthacboofbbfmlaaGreatDoor
open Go.ChangeShapes Go.WideShapes Go.ChangeAt Go.RowKit
def bv (c : UInt8) : Value := .int .u8 (c.toNat : Int)
/-- A slice value holds just these bytes, in a row of the call's own. -/
def Bys (w : World) (base : Nat) (v : Value) (l : List UInt8) : Prop := w.ownsRow base 5 1 v l.length (l.map bv)
theorem u8_info : (Tryz.prog.info? 5).map (fun i => (i.zero, i.size, i.bytes)) = some (some (.int .u8 0), 1, 1) := by kernel_rfl
theorem Bys.alloc {w : World} {base : Nat} {v : Value} {l : List UInt8} (h : Bys w base v l) (o : Obj) : Bys (w.alloc o) base v l := World.ownsRow.alloc h o
theorem Bys.nil (w : World) (base : Nat) (h : base ≤ w.heap.size) : Bys (w.alloc (.cells #[] 5)) base (.slice (some ⟨w.heap.size, 0, none⟩) 0 0) [] := World.ownsRow_made w #[] 0 h (Nat.zero_le _) rfl
theorem Bys.below {w w' : World} {base : Nat} {v : Value} {l : List UInt8} (h : Bys w base v l) (hb : Below w.heap.size w w') : Bys w' base v l := by
  refine ⟨h.1, ?_⟩
  rcases h.2 with h2 | ⟨g, cap, cur, h1, h2, h3, h4⟩
  · exact Or.inl h2
  · refine Or.inr ⟨g, cap, cur, h1, h2, ?_, h4⟩
    have hlt : g < w.heap.size := by
      rcases Nat.lt_or_ge g w.heap.size with hlt | hge
      · exact hlt
      · rw [Array.getElem?_eq_none hge] at h3; cases h3
    rw [hb.block g hlt]
    exact h3
/-- One more byte. -/
theorem wpList_push {ops : Array Oper} {rest : List Oper} {o : Oper} {a : Act} {Q : Exit → Act → World → Prop} (w0 : World) (hgd : o.guard = none) (s x : Operand)
    (ho : o.op = .call { callee := .builtin .append, args := #[s, x], argTypes := #[70, 70] })
    (base : Nat) (v : Value) (l : List UInt8) (c : UInt8) (cp : Nat) (hs : a.eval s = v) (hown : Bys w0 base v l) (hx : a.eval x = .slice (some ⟨w0.heap.size, 0, none⟩) 1 cp) (hl : l.length < 70000000000000) (hbase : base ≤ w0.heap.size)
    (h : ∀ v' w', Bys w' base v' (l ++ [c]) → (w0.alloc (.cells #[bv c] 5)).grownBy w' v.ownBlock → wpList Tryz.prog ops Q rest (a.put o.dst v') w') : wpList Tryz.prog ops Q (o :: rest) a (w0.alloc (.cells #[bv c] 5)) := by
  obtain ⟨i0, hi0, hz0, hz1, hz2⟩ := info_parts u8_info
  refine wpList_append_any _ hgd s x _ ho base 5 i0 _ 1 1 Tryz.underlying70 hi0 hz0 hz1 hz2 rfl (by omega) v l.length (l.map bv) hs (hown.alloc _) (w0.heap.size + 1) (some ⟨w0.heap.size, 0, none⟩) 1 cp [bv c] hx ?_ ?_ (by simp only [maxLen]; omega) (by omega) ?_ ?_
  · refine ⟨rfl, fun _ => ⟨_, rfl, Nat.lt_succ_self _, fun j u hu => ?_⟩⟩
    match j, hu with
    | 0, hu =>
      rw [add_zero_]
      exact (((Blk.new w0 5 #[bv c])).cell 0).trans hu
  · intro u hu
    simp only [List.mem_singleton] at hu
    subst hu
    rfl
  · rw [size_al]; omega
  · intro v' w' h2 h3 _
    refine h v' w' ?_ h3
    show w'.ownsRow base 5 1 v' (l ++ [c]).length ((l ++ [c]).map bv)
    rw [List.map_append, List.length_append]
    exact h2
/-- The same, the byte's value in the walk's own spelling. -/
theorem wpList_pushU {ops : Array Oper} {rest : List Oper} {o : Oper} {a : Act} {Q : Exit → Act → World → Prop} (w0 : World) (hgd : o.guard = none) (s x : Operand)
    (ho : o.op = .call { callee := .builtin .append, args := #[s, x], argTypes := #[70, 70] })
    (base : Nat) (v : Value) (l : List UInt8) (c : UInt8) (u : Value) (hu : Hid (bv c = u)) (cp : Nat) (hs : a.eval s = v) (hown : Bys w0 base v l) (hx : a.eval x = .slice (some ⟨w0.heap.size, 0, none⟩) 1 cp) (hl : l.length < 70000000000000) (hbase : base ≤ w0.heap.size)
    (h : ∀ v' w', Bys w' base v' (l ++ [c]) → (w0.alloc (.cells #[u] 5)).grownBy w' v.ownBlock → wpList Tryz.prog ops Q rest (a.put o.dst v') w') : wpList Tryz.prog ops Q (o :: rest) a (w0.alloc (.cells #[u] 5)) := by
  obtain rfl := hu.out
  exact wpList_push w0 hgd s x ho base v l c cp hs hown hx hl hbase h
theorem below_pushU {w w0 w' : World} {v : Value} {l : List UInt8} {u : Value} (hb : Below w.heap.size w w0) (hown : Bys w0 w.heap.size v l) (hg : (w0.alloc (.cells #[u] 5)).grownBy w' v.ownBlock) : Below w.heap.size w w' := by
  have hb2 := below_al hb (.cells #[u] 5)
  exact hb2.grown hg hb2.size (fun k hk => (hown.lt k hk).1)
theorem below_push {w w0 w' : World} {v : Value} {l : List UInt8} {c : UInt8} (hb : Below w.heap.size w w0) (hown : Bys w0 w.heap.size v l) (hg : (w0.alloc (.cells #[bv c] 5)).grownBy w' v.ownBlock) : Below w.heap.size w w' := by
  have hb2 := below_al hb (.cells #[bv c] 5)
  exact hb2.grown hg hb2.size (fun k hk => (hown.lt k hk).1)
/-- The text of bytes. -/
theorem bys_text {w : World} {base : Nat} {v : Value} {l : List UInt8} (h : Bys w base v l) : (convert 70 9 v).run Tryz.prog w = .ok (.string ⟨l.toArray⟩) w := by
  rcases h.2 with ⟨rfl, h0⟩ | ⟨g, cap, cur, rfl, hb, hg, hc, hm, hsz, ht⟩
  · obtain rfl : l = [] := List.eq_nil_of_length_eq_zero h0
    rw [run_convert_bytes_string w 70 9 5 none 0 0 Tryz.underlying70 Tryz.underlying5 Tryz.underlying9]
    simp [Conv.bytesToString, Sem.run_pure]
    rfl
  · refine run_convert_bytes_back w 70 9 5 ⟨g, 0, none⟩ cap l Tryz.underlying70 Tryz.underlying5 Tryz.underlying9 fun j hj => ?_
    rw [add_zero_]
    have hr := (Reads.of_own h).2 (by omega)
    obtain ⟨ad, e, _, hcc⟩ := hr
    injection e with e
    subst e
    have := hcc j (bv l[j]) (by rw [List.getElem?_map, List.getElem?_eq_getElem hj]; rfl)
    rwa [add_zero_] at this
end Go.Proofs.YthacboofbbfmlaaGreatDoor
