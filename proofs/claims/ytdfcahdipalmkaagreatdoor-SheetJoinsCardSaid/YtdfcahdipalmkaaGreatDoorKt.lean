/- Rows and blocks that lie as they lay, by the type of their cells; lists of structs, cell by cell. Conditions: none. -/
import Derived.Test.YtdfcahdipalmkaaGreatDoorBlk
import Derived.Maps.AppendAt
import Derived.Deep.AppendLies
import Derived.RegionTactic
import Derived.OwnWalk
import Derived.Test.YtdfcahdipalmkaaGreatDoorRows
import Derived.WalkKit
import Derived.Laws.IdiomStrings
import Derived.ProofKit
import Derived.OpenShut
import Derived.IntWalk
import Derived.Lib.Hide
import Derived.Outline
import Derived.WalkLawsBesides
import Derived.Deep.RegionLaw
import Derived.Test.YtdfcahdipalmkaaGreatDoorScanSpec
import Derived.RangeFuncNested
import Derived.RangeFuncBound
import Derived.RangeFuncCalls
import Derived.RangeFuncLeaves
import Derived.RangeFuncBox
import Derived.Shelf.Abstract
import Derived.Shelf.RegionOpen
import Derived.OwnWalkIn
import Derived.TacticsInMore
import Derived.LoopNIn
import Derived.LoopIn
/- append onto a row of the call's own, the source nil, empty or not. Conditions: as the theorems' premises say. -/
namespace Go.Proofs.YtdfcahdipalmkaaGreatDoor
open Go.RowKit
section
variable {P : Program} (w : World)

theorem run_append_of_nil (base : Nat) (t ty e : TypeId) (i : TypeInfo) (size : Nat) (ht : P.underlying t = some (.slice e)) (hi : P.info? e = some i)
    (v : Value) (n : Nat) (xs : List Value) (hown : w.ownsRow base e size v n xs) (c : Nat) : (Builtin.append_ #[t, t] ty #[v, .slice none 0 c]).run P w = .ok v w := by
  rcases hown.2 with ⟨rfl, rfl⟩ | ⟨g, cap, cur, rfl, _, _, hnc, _⟩
  · simp [Builtin.append_, run_underlying ht, sizeOf, typeInfo, hi, Builtin.lenOf, Builtin.firstCells]
  · simp [Builtin.append_, run_underlying ht, sizeOf, typeInfo, hi, Builtin.lenOf, Builtin.firstCells, hnc, storeCells]

theorem run_append_any (base : Nat) (t ty e : TypeId) (i : TypeInfo) (z : Value) (size bytes : Nat) (ht : P.underlying t = some (.slice e)) (hi : P.info? e = some i) (hz : i.zero = some z)
    (hsize : i.size = size) (hby : i.bytes = bytes) (hzs : z.cells.size = size) (hsz : 0 < size)
    (v : Value) (n : Nat) (xs : List Value) (hown : w.ownsRow base e size v n xs)
    (B : Nat) (A : Option Addr) (m c : Nat) (news : List Value) (hr : Reads w B size A m news) (h1 : ∀ u ∈ news, u.oneCell' = true)
    (h63 : n + m ≤ maxLen) (hbytes : (n + m) * bytes ≤ 140737488355328) (hbase : base ≤ w.heap.size) :
    ∃ v' w', (Builtin.append_ #[t, t] ty #[v, .slice A m c]).run P w = .ok v' w' ∧ w'.ownsRow base e size v' (n + m) (xs ++ news) ∧ w.grownBy w' v.ownBlock ∧
      (v'.ownBlock = v.ownBlock ∨ v'.ownBlock = some w.heap.size) := by
  rcases A with _ | ad
  · have hm : m = 0 := by
      rcases Nat.eq_zero_or_pos m with h0 | h0
      · exact h0
      · obtain ⟨ad, h, _⟩ := hr.2 h0
        cases h
    subst hm
    have hn : news = [] := List.eq_nil_of_length_eq_zero (by simpa using hr.1)
    subst hn
    exact ⟨v, w, run_append_of_nil w base t ty e i size ht hi v n xs hown c, by simpa using hown, World.grownBy.refl w _, .inl rfl⟩
  · have hcells : ∀ j u, news[j]? = some u → w.cell? (ad.add j) = some u := by
      intro j u hu
      rcases Nat.eq_zero_or_pos m with h0 | h0
      · subst h0
        have hn : news = [] := List.eq_nil_of_length_eq_zero (by simpa using hr.1)
        subst hn
        simp at hu
      · obtain ⟨ad', h, _, hc⟩ := hr.2 h0
        injection h with h
        subst h
        exact hc j u hu
    obtain ⟨v', w', hrun, h2, h3, _, h5⟩ := run_append_own_at (P := P) w base t ty e i z size bytes ht hi hz hsize hby hzs hsz v n xs hown ad m c news hr.1 hcells h1 h63 hbytes hbase
    exact ⟨v', w', hrun, h2, h3, h5⟩

theorem wp_append_any {o : Oper} {a : Act} {K : Act → World → Prop} {Q : Exit → Act → World → Prop} (s x : Operand) (t : TypeId)
    (ho : o.op = .call { callee := .builtin .append, args := #[s, x], argTypes := #[t, t] })
    (base : Nat) (e : TypeId) (i : TypeInfo) (z : Value) (size bytes : Nat) (ht : P.underlying t = some (.slice e)) (hi : P.info? e = some i) (hz : i.zero = some z)
    (hsize : i.size = size) (hby : i.bytes = bytes) (hzs : z.cells.size = size) (hsz : 0 < size)
    (v : Value) (n : Nat) (xs : List Value) (hs : a.eval s = v) (hown : w.ownsRow base e size v n xs)
    (B : Nat) (A : Option Addr) (m c : Nat) (news : List Value) (hx : a.eval x = .slice A m c) (hr : Reads w B size A m news) (h1 : ∀ u ∈ news, u.oneCell' = true)
    (h63 : n + m ≤ maxLen) (hbytes : (n + m) * bytes ≤ 140737488355328) (hbase : base ≤ w.heap.size)
    (h : ∀ v' w', w'.ownsRow base e size v' (n + m) (xs ++ news) → w.grownBy w' v.ownBlock → (v'.ownBlock = v.ownBlock ∨ v'.ownBlock = some w.heap.size) → K (a.put o.dst v') w') : o.wp P a w K Q := by
  obtain ⟨v', w', hrun, h2, h3, h4⟩ := run_append_any (P := P) w base t o.type e i z size bytes ht hi hz hsize hby hzs hsz v n xs hown B A m c news hr h1 h63 hbytes hbase
  unfold Oper.wp execOp
  simp only [ho, resolve, invoke, builtin, Sem.run_bind, Sem.run_pure, Result.andThen_ok, List.map_toArray, List.map_cons, List.map_nil, hs, hx, hrun]
  exact h v' w' h2 h3 h4

theorem wpList_append_any {ops : Array Oper} {rest : List Oper} {o : Oper} {a : Act} {Q : Exit → Act → World → Prop} (hgd : o.guard = none) (s x : Operand) (t : TypeId)
    (ho : o.op = .call { callee := .builtin .append, args := #[s, x], argTypes := #[t, t] })
    (base : Nat) (e : TypeId) (i : TypeInfo) (z : Value) (size bytes : Nat) (ht : P.underlying t = some (.slice e)) (hi : P.info? e = some i) (hz : i.zero = some z)
    (hsize : i.size = size) (hby : i.bytes = bytes) (hzs : z.cells.size = size) (hsz : 0 < size)
    (v : Value) (n : Nat) (xs : List Value) (hs : a.eval s = v) (hown : w.ownsRow base e size v n xs)
    (B : Nat) (A : Option Addr) (m c : Nat) (news : List Value) (hx : a.eval x = .slice A m c) (hr : Reads w B size A m news) (h1 : ∀ u ∈ news, u.oneCell' = true)
    (h63 : n + m ≤ maxLen) (hbytes : (n + m) * bytes ≤ 140737488355328) (hbase : base ≤ w.heap.size)
    (h : ∀ v' w', w'.ownsRow base e size v' (n + m) (xs ++ news) → w.grownBy w' v.ownBlock → (v'.ownBlock = v.ownBlock ∨ v'.ownBlock = some w.heap.size) → wpList P ops Q rest (a.put o.dst v') w') : wpList P ops Q (o :: rest) a w :=
  wpList_plain hgd fun _ hK => wp_append_any w s x t ho base e i z size bytes ht hi hz hsize hby hzs hsz v n xs hs hown B A m c news hx hr h1 h63 hbytes hbase fun v' w' h2 h3 h4 => hK _ _ (h v' w' h2 h3 h4)

theorem step_append_any {ops : Array Oper} {o : Oper} {a : Act} {K : Act → World → Prop} {Q : Exit → Act → World → Prop} {E : Prop} (hgd : o.guard = none) (s x : Operand) (t : TypeId)
    (ho : o.op = .call { callee := .builtin .append, args := #[s, x], argTypes := #[t, t] })
    (base : Nat) (e : TypeId) (i : TypeInfo) (z : Value) (size bytes : Nat) (ht : P.underlying t = some (.slice e)) (hi : P.info? e = some i) (hz : i.zero = some z)
    (hsize : i.size = size) (hby : i.bytes = bytes) (hzs : z.cells.size = size) (hsz : 0 < size)
    (v : Value) (n : Nat) (xs : List Value) (hs : a.eval s = v) (hown : w.ownsRow base e size v n xs)
    (B : Nat) (A : Option Addr) (m c : Nat) (news : List Value) (hx : a.eval x = .slice A m c) (hr : Reads w B size A m news) (h1 : ∀ u ∈ news, u.oneCell' = true)
    (h63 : n + m ≤ maxLen) (hbytes : (n + m) * bytes ≤ 140737488355328) (hbase : base ≤ w.heap.size)
    (h : ∀ v' w', w'.ownsRow base e size v' (n + m) (xs ++ news) → w.grownBy w' v.ownBlock → (v'.ownBlock = v.ownBlock ∨ v'.ownBlock = some w.heap.size) → K (a.put o.dst v') w') :
    if Region.wanted o (yielded ops a.tmps) = true then Oper.wp P o a w K Q else E := by
  have hw : Region.wanted o (yielded ops a.tmps) = true := by simp [Region.wanted, hgd]
  rw [if_pos hw]
  exact wp_append_any w s x t ho base e i z size bytes ht hi hz hsize hby hzs hsz v n xs hs hown B A m c news hx hr h1 h63 hbytes hbase h
end
end Go.Proofs.YtdfcahdipalmkaaGreatDoor
/- Bytes that a call has gathered by itself: one more, and as a text. Conditions: as the theorems' premises say. -/
namespace Go.Proofs.YtdfcahdipalmkaaGreatDoor
open Go.ChangeShapes Go.WideShapes Go.ChangeAt Go.RowKit
def bv (c : UInt8) : Value := .int .u8 (c.toNat : Int)
/-- A slice value holds just these bytes, in a row of the call's own. -/
def Bys (w : World) (base : Nat) (v : Value) (l : List UInt8) : Prop := w.ownsRow base 5 1 v l.length (l.map bv)
theorem u8_info : (Tryz.prog.info? 5).map (fun i => (i.zero, i.size, i.bytes)) = some (some (.int .u8 0), 1, 1) := by kernel_rfl
theorem Bys.alloc {w : World} {base : Nat} {v : Value} {l : List UInt8} (h : Bys w base v l) (o : Obj) : Bys (w.alloc o) base v l := World.ownsRow.alloc h o
theorem Bys.nil (w : World) (base : Nat) (h : base ≤ w.heap.size) : Bys (w.alloc (.cells #[] 5)) base (.slice (some ⟨w.heap.size, 0, none⟩) 0 0) [] := World.ownsRow_made w #[] 0 h (Nat.zero_le _) rfl
theorem Bys.below {w w' : World} {base : Nat} {v : Value} {l : List UInt8} (h : Bys w base v l) (hb : Below w.heap.size w w') : Bys w' base v l := by
  refine ⟨h.1, ?_⟩
  rcases h.2 with h2 | ⟨g, cap, cur, h1, h2, h3, h4⟩
  · exact Or.inl h2
  · refine Or.inr ⟨g, cap, cur, h1, h2, ?_, h4⟩
    have hlt : g < w.heap.size := by
      rcases Nat.lt_or_ge g w.heap.size with hlt | hge
      · exact hlt
      · rw [Array.getElem?_eq_none hge] at h3; cases h3
    rw [hb.block g hlt]
    exact h3
/-- One more byte. -/
theorem wpList_push {ops : Array Oper} {rest : List Oper} {o : Oper} {a : Act} {Q : Exit → Act → World → Prop} (w0 : World) (hgd : o.guard = none) (s x : Operand)
    (ho : o.op = .call { callee := .builtin .append, args := #[s, x], argTypes := #[91, 91] })
    (base : Nat) (v : Value) (l : List UInt8) (c : UInt8) (cp : Nat) (hs : a.eval s = v) (hown : Bys w0 base v l) (hx : a.eval x = .slice (some ⟨w0.heap.size, 0, none⟩) 1 cp) (hl : l.length < 70000000000000) (hbase : base ≤ w0.heap.size)
    (h : ∀ v' w', Bys w' base v' (l ++ [c]) → (w0.alloc (.cells #[bv c] 5)).grownBy w' v.ownBlock → wpList Tryz.prog ops Q rest (a.put o.dst v') w') : wpList Tryz.prog ops Q (o :: rest) a (w0.alloc (.cells #[bv c] 5)) := by
  obtain ⟨i0, hi0, hz0, hz1, hz2⟩ := info_parts u8_info
  refine wpList_append_any _ hgd s x _ ho base 5 i0 _ 1 1 Tryz.underlying91 hi0 hz0 hz1 hz2 rfl (by omega) v l.length (l.map bv) hs (hown.alloc _) (w0.heap.size + 1) (some ⟨w0.heap.size, 0, none⟩) 1 cp [bv c] hx ?_ ?_ (by simp only [maxLen]; omega) (by omega) ?_ ?_
  · refine ⟨rfl, fun _ => ⟨_, rfl, Nat.lt_succ_self _, fun j u hu => ?_⟩⟩
    match j, hu with
    | 0, hu =>
      rw [add_zero_]
      exact (((Blk.new w0 5 #[bv c])).cell 0).trans hu
  · intro u hu
    simp only [List.mem_singleton] at hu
    subst hu
    rfl
  · rw [size_al]; omega
  · intro v' w' h2 h3 _
    refine h v' w' ?_ h3
    show w'.ownsRow base 5 1 v' (l ++ [c]).length ((l ++ [c]).map bv)
    rw [List.map_append, List.length_append]
    exact h2
/-- The same, the byte's value in the walk's own spelling. -/
theorem wpList_pushU {ops : Array Oper} {rest : List Oper} {o : Oper} {a : Act} {Q : Exit → Act → World → Prop} (w0 : World) (hgd : o.guard = none) (s x : Operand)
    (ho : o.op = .call { callee := .builtin .append, args := #[s, x], argTypes := #[91, 91] })
    (base : Nat) (v : Value) (l : List UInt8) (c : UInt8) (u : Value) (hu : Hid (bv c = u)) (cp : Nat) (hs : a.eval s = v) (hown : Bys w0 base v l) (hx : a.eval x = .slice (some ⟨w0.heap.size, 0, none⟩) 1 cp) (hl : l.length < 70000000000000) (hbase : base ≤ w0.heap.size)
    (h : ∀ v' w', Bys w' base v' (l ++ [c]) → (w0.alloc (.cells #[u] 5)).grownBy w' v.ownBlock → wpList Tryz.prog ops Q rest (a.put o.dst v') w') : wpList Tryz.prog ops Q (o :: rest) a (w0.alloc (.cells #[u] 5)) := by
  obtain rfl := hu.out
  exact wpList_push w0 hgd s x ho base v l c cp hs hown hx hl hbase h
theorem below_pushU {w w0 w' : World} {v : Value} {l : List UInt8} {u : Value} (hb : Below w.heap.size w w0) (hown : Bys w0 w.heap.size v l) (hg : (w0.alloc (.cells #[u] 5)).grownBy w' v.ownBlock) : Below w.heap.size w w' := by
  have hb2 := below_al hb (.cells #[u] 5)
  exact hb2.grown hg hb2.size (fun k hk => (hown.lt k hk).1)
theorem below_push {w w0 w' : World} {v : Value} {l : List UInt8} {c : UInt8} (hb : Below w.heap.size w w0) (hown : Bys w0 w.heap.size v l) (hg : (w0.alloc (.cells #[bv c] 5)).grownBy w' v.ownBlock) : Below w.heap.size w w' := by
  have hb2 := below_al hb (.cells #[bv c] 5)
  exact hb2.grown hg hb2.size (fun k hk => (hown.lt k hk).1)
/-- The text of bytes. -/
theorem bys_text {w : World} {base : Nat} {v : Value} {l : List UInt8} (h : Bys w base v l) : (convert 91 9 v).run Tryz.prog w = .ok (.string ⟨l.toArray⟩) w := by
  rcases h.2 with ⟨rfl, h0⟩ | ⟨g, cap, cur, rfl, hb, hg, hc, hm, hsz, ht⟩
  · obtain rfl : l = [] := List.eq_nil_of_length_eq_zero h0
    rw [run_convert_bytes_string w 91 9 5 none 0 0 Tryz.underlying91 Tryz.underlying5 Tryz.underlying9]
    simp [Conv.bytesToString, Sem.run_pure]
    rfl
  · refine run_convert_bytes_back w 91 9 5 ⟨g, 0, none⟩ cap l Tryz.underlying91 Tryz.underlying5 Tryz.underlying9 fun j hj => ?_
    rw [add_zero_]
    have hr := (Reads.of_own h).2 (by omega)
    obtain ⟨ad, e, _, hcc⟩ := hr
    injection e with e
    subst e
    have := hcc j (bv l[j]) (by rw [List.getElem?_map, List.getElem?_eq_getElem hj]; rfl)
    rwa [add_zero_] at this
end Go.Proofs.YtdfcahdipalmkaaGreatDoor
/- Rows of structs that a call gathers by itself, whatever the struct: one more at the end. Conditions: as the theorems' premises say. -/
namespace Go.Proofs.YtdfcahdipalmkaaGreatDoor
open Go.RowKit
namespace RowG
section
variable {α : Type}
/-- A slice value holds just these, each by its cells, in a row of the call's own. -/
def Row (w : World) (base : Nat) (e : TypeId) (k : Nat) (enc : α → List Value) (v : Value) (l : List α) : Prop := w.ownsRow base e k v l.length (l.flatMap enc)
theorem Row.nil (w : World) (base : Nat) (e : TypeId) (k : Nat) (enc : α → List Value) : Row w base e k enc (.slice none 0 0) [] := World.ownsRow_nil _ _ _ _
theorem Row.alloc {w : World} {base k : Nat} {e : TypeId} {enc : α → List Value} {v : Value} {l : List α} (h : Row w base e k enc v l) (o : Obj) : Row (w.alloc o) base e k enc v l := World.ownsRow.alloc h o
theorem Row.drew {w : World} {base k : Nat} {e : TypeId} {enc : α → List Value} {v : Value} {l : List α} (h : Row w base e k enc v l) : Row w.drew base e k enc v l := h
theorem Row.below {w w' : World} {base k : Nat} {e : TypeId} {enc : α → List Value} {v : Value} {l : List α} (h : Row w base e k enc v l) (hb : Below w.heap.size w w') : Row w' base e k enc v l := by
  refine ⟨h.1, ?_⟩
  rcases h.2 with h2 | ⟨g, cap, cur, h1, h2, h3, h4⟩
  · exact Or.inl h2
  · refine Or.inr ⟨g, cap, cur, h1, h2, ?_, h4⟩
    have hlt : g < w.heap.size := by
      rcases Nat.lt_or_ge g w.heap.size with hlt | hge
      · exact hlt
      · rw [Array.getElem?_eq_none hge] at h3; cases h3
    rw [hb.block g hlt]
    exact h3
theorem Row.form {w : World} {base k : Nat} {e : TypeId} {enc : α → List Value} {v : Value} {l : List α} (h : Row w base e k enc v l) : ∃ A c, v = .slice A l.length c := by
  rcases h.2 with ⟨rfl, h0⟩ | ⟨g, cap, cur, rfl, _⟩
  · rw [h0]; exact ⟨_, _, rfl⟩
  · exact ⟨_, _, rfl⟩
theorem Row.reads {w : World} {base k : Nat} {e : TypeId} {enc : α → List Value} {A : Option Addr} {n c : Nat} {l : List α} (h : Row w base e k enc (.slice A n c) l) : Reads w w.heap.size k A l.length (l.flatMap enc) ∧ n = l.length := by
  have hn : n = l.length := by
    obtain ⟨_, _, h⟩ := Row.form h
    injection h
  subst hn
  exact ⟨Reads.of_own h, rfl⟩
theorem below_row {w w0 w1 w' : World} {k : Nat} {e : TypeId} {enc : α → List Value} {v : Value} {l : List α} (hb : Below w.heap.size w w1) (h : Row w0 w.heap.size e k enc v l) (hg : w1.grownBy w' v.ownBlock) : Below w.heap.size w w' :=
  hb.grown hg hb.size (fun j hj => (World.ownsRow.lt h j hj).1)
section
variable {P : Program} (w : World)
theorem run_more (t ty e : TypeId) (enc : α → List Value) (k bytes : Nat) (z : Value) (hinfo : (P.info? e).map (fun i => (i.zero, i.size, i.bytes)) = some (some z, k, bytes)) (ht : P.underlying t = some (.slice e)) (hz : z.cells.size = k) (hk : 0 < k)
    (henc : ∀ x, (enc x).length = k) (hone : ∀ x, ∀ u ∈ enc x, u.oneCell' = true) (base : Nat) (v : Value) (l : List α) (x : α) (hown : Row w base e k enc v l) (g cp : Nat)
    (hc : ∀ (j : Nat) (u : Value), (enc x)[j]? = some u → w.cell? ⟨g, j, none⟩ = some u) (hl : l.length + 1 ≤ maxLen) (hbytes : (l.length + 1) * bytes ≤ 140737488355328) (hbase : base ≤ w.heap.size) :
    ∃ v' w', (Builtin.append_ #[t, t] ty #[v, .slice (some ⟨g, 0, none⟩) 1 cp]).run P w = .ok v' w' ∧ Row w' base e k enc v' (l ++ [x]) ∧ w.grownBy w' v.ownBlock ∧ (v'.ownBlock = v.ownBlock ∨ v'.ownBlock = some w.heap.size) := by
  cases hi : P.info? e with
  | none => rw [hi] at hinfo; cases hinfo
  | some i =>
    rw [hi] at hinfo
    simp only [Option.map_some, Option.some.injEq, Prod.mk.injEq] at hinfo
    have hr : Reads w (g + 1) k (some ⟨g, 0, none⟩) 1 (enc x) := ⟨by rw [henc]; omega, fun _ => ⟨_, rfl, Nat.lt_succ_self _, fun j u hu => by
      rw [add_zero_]
      exact hc j u hu⟩⟩
    obtain ⟨v', w', hrun, h2, h3, h4⟩ := run_append_any (P := P) w base t ty e i z k bytes ht hi hinfo.1 hinfo.2.1 hinfo.2.2 hz hk v l.length (l.flatMap enc) hown (g + 1) (some ⟨g, 0, none⟩) 1 cp (enc x) hr (hone x) hl hbytes hbase
    refine ⟨v', w', hrun, ?_, h3, h4⟩
    unfold Row
    rw [List.length_append, List.flatMap_append]
    simpa using h2
theorem wp_more {o : Oper} {a : Act} {K : Act → World → Prop} {Q : Exit → Act → World → Prop} (s x : Operand) (t : TypeId)
    (ho : o.op = .call { callee := .builtin .append, args := #[s, x], argTypes := #[t, t] }) (v v2 : Value) (hs : a.eval s = v) (hx : a.eval x = v2) (v' : Value) (w' : World)
    (hrun : (Builtin.append_ #[t, t] o.type #[v, v2]).run P w = .ok v' w') (h : K (a.put o.dst v') w') : o.wp P a w K Q := by
  unfold Oper.wp execOp
  simp only [ho, resolve, invoke, builtin, Sem.run_bind, Sem.run_pure, Result.andThen_ok, List.map_toArray, List.map_cons, List.map_nil, hs, hx, hrun]
  exact h
theorem wpList_more {ops : Array Oper} {rest : List Oper} {o : Oper} {a : Act} {Q : Exit → Act → World → Prop} (hgd : o.guard = none) (s x : Operand) (t : TypeId)
    (ho : o.op = .call { callee := .builtin .append, args := #[s, x], argTypes := #[t, t] }) (e : TypeId) (enc : α → List Value) (k bytes : Nat) (z : Value) (hinfo : (P.info? e).map (fun i => (i.zero, i.size, i.bytes)) = some (some z, k, bytes)) (ht : P.underlying t = some (.slice e)) (hz : z.cells.size = k) (hk : 0 < k)
    (henc : ∀ x, (enc x).length = k) (hone : ∀ x, ∀ u ∈ enc x, u.oneCell' = true) (base : Nat) (v : Value) (l : List α) (y : α) (hs : a.eval s = v) (g cp : Nat) (hx : a.eval x = .slice (some ⟨g, 0, none⟩) 1 cp) (hown : Row w base e k enc v l)
    (hc : ∀ (j : Nat) (u : Value), (enc y)[j]? = some u → w.cell? ⟨g, j, none⟩ = some u) (hl : l.length + 1 ≤ maxLen) (hbytes : (l.length + 1) * bytes ≤ 140737488355328) (hbase : base ≤ w.heap.size)
    (h : ∀ v' w', Row w' base e k enc v' (l ++ [y]) → w.grownBy w' v.ownBlock → (v'.ownBlock = v.ownBlock ∨ v'.ownBlock = some w.heap.size) → wpList P ops Q rest (a.put o.dst v') w') : wpList P ops Q (o :: rest) a w := by
  obtain ⟨v', w', hrun, h2, h3, h4⟩ := run_more (P := P) w t o.type e enc k bytes z hinfo ht hz hk henc hone base v l y hown g cp hc hl hbytes hbase
  exact wpList_plain hgd fun _ hK => wp_more w s x t ho v _ hs hx v' w' hrun (hK _ _ (h v' w' h2 h3 h4))
theorem step_more {ops : Array Oper} {o : Oper} {a : Act} {K : Act → World → Prop} {Q : Exit → Act → World → Prop} {E : Prop} (hgd : o.guard = none) (s x : Operand) (t : TypeId)
    (ho : o.op = .call { callee := .builtin .append, args := #[s, x], argTypes := #[t, t] }) (e : TypeId) (enc : α → List Value) (k bytes : Nat) (z : Value) (hinfo : (P.info? e).map (fun i => (i.zero, i.size, i.bytes)) = some (some z, k, bytes)) (ht : P.underlying t = some (.slice e)) (hz : z.cells.size = k) (hk : 0 < k)
    (henc : ∀ x, (enc x).length = k) (hone : ∀ x, ∀ u ∈ enc x, u.oneCell' = true) (base : Nat) (v : Value) (l : List α) (y : α) (hs : a.eval s = v) (g cp : Nat) (hx : a.eval x = .slice (some ⟨g, 0, none⟩) 1 cp) (hown : Row w base e k enc v l)
    (hc : ∀ (j : Nat) (u : Value), (enc y)[j]? = some u → w.cell? ⟨g, j, none⟩ = some u) (hl : l.length + 1 ≤ maxLen) (hbytes : (l.length + 1) * bytes ≤ 140737488355328) (hbase : base ≤ w.heap.size)
    (h : ∀ v' w', Row w' base e k enc v' (l ++ [y]) → w.grownBy w' v.ownBlock → (v'.ownBlock = v.ownBlock ∨ v'.ownBlock = some w.heap.size) → K (a.put o.dst v') w') :
    if Region.wanted o (yielded ops a.tmps) = true then Oper.wp P o a w K Q else E := by
  have hw : Region.wanted o (yielded ops a.tmps) = true := by simp [Region.wanted, hgd]
  rw [if_pos hw]
  obtain ⟨v', w', hrun, h2, h3, h4⟩ := run_more (P := P) w t o.type e enc k bytes z hinfo ht hz hk henc hone base v l y hown g cp hc hl hbytes hbase
  exact wp_more w s x t ho v _ hs hx v' w' hrun (h v' w' h2 h3 h4)
end
end
/-- A new block's cells are a row's. -/
theorem new_cells (w : World) (e : TypeId) (cs : List Value) : ∀ (j : Nat) (u : Value), cs[j]? = some u → (w.alloc (.cells cs.toArray e)).cell? ⟨w.heap.size, j, none⟩ = some u := by
  intro j u hu
  refine ((Blk.new w e cs.toArray).cell j).trans ?_
  simpa using hu
end RowG
end Go.Proofs.YtdfcahdipalmkaaGreatDoor
/- Texts that a call has gathered by itself: one more. Conditions: as the theorems' premises say. -/
namespace Go.Proofs.YtdfcahdipalmkaaGreatDoor
open Go.ChangeShapes Go.WideShapes Go.ChangeAt Go.RowKit
theorem strs_len' (xs : List (List UInt8)) : (strs xs).length = xs.length := by unfold strs; simp
/-- A slice value holds just these texts, in a row of the call's own. -/
def Txs (w : World) (base : Nat) (v : Value) (l : List (List UInt8)) : Prop := w.ownsRow base 9 1 v l.length (strs l)
theorem str_info : (Tryz.prog.info? 9).map (fun i => (i.zero, i.size, i.bytes)) = some (some (.string ⟨#[]⟩), 1, 16) := by kernel_rfl
theorem own_below {w w' : World} {base : Nat} {e : TypeId} {size : Nat} {v : Value} {n : Nat} {xs : List Value} (h : w.ownsRow base e size v n xs) (hb : Below w.heap.size w w') : w'.ownsRow base e size v n xs := by
  refine ⟨h.1, ?_⟩
  rcases h.2 with h2 | ⟨g, cap, cur, h1, h2, h3, h4⟩
  · exact Or.inl h2
  · refine Or.inr ⟨g, cap, cur, h1, h2, ?_, h4⟩
    have hlt : g < w.heap.size := by
      rcases Nat.lt_or_ge g w.heap.size with hlt | hge
      · exact hlt
      · rw [Array.getElem?_eq_none hge] at h3; cases h3
    rw [hb.block g hlt]
    exact h3
theorem Txs.nil (w : World) (base : Nat) (h : base ≤ w.heap.size) : Txs (w.alloc (.cells #[] 9)) base (.slice (some ⟨w.heap.size, 0, none⟩) 0 0) [] := World.ownsRow_made w #[] 0 h (Nat.zero_le _) rfl
theorem Txs.one (w : World) (base : Nat) (h : base ≤ w.heap.size) (x : List UInt8) : Txs (w.alloc (.cells #[.string (toB x)] 9)) base (.slice (some ⟨w.heap.size, 0, none⟩) 1 1) [x] :=
  ⟨rfl, Or.inr ⟨w.heap.size, 1, #[.string (toB x)], rfl, h, Blk.new w _ _, Nat.le_refl _, by simp [maxLen], rfl, rfl⟩⟩
theorem strs_one (l : List (List UInt8)) : ∀ u ∈ strs l, u.oneCell' = true := by
  intro u hu
  obtain ⟨x, _, rfl⟩ := List.mem_map.1 hu
  rfl
theorem own_form' {w : World} {base : Nat} {e : TypeId} {size : Nat} {v : Value} {n : Nat} {xs : List Value} (h : w.ownsRow base e size v n xs) : ∃ A c, v = .slice A n c := by
  rcases h.2 with ⟨rfl, rfl⟩ | ⟨g, cap, cur, rfl, _⟩
  · exact ⟨_, _, rfl⟩
  · exact ⟨_, _, rfl⟩
/-- Some more texts, of whatever slice. -/
theorem wpList_texts {ops : Array Oper} {rest : List Oper} {o : Oper} {a : Act} {Q : Exit → Act → World → Prop} (w : World) (hgd : o.guard = none) (s x : Operand)
    (ho : o.op = .call { callee := .builtin .append, args := #[s, x], argTypes := #[49, 49] })
    (base : Nat) (v : Value) (l m : List (List UInt8)) (hs : a.eval s = v) (hown : Txs w base v l) (B : Nat) (A : Option Addr) (cp : Nat) (hx : a.eval x = .slice A m.length cp) (hr : Reads w B 1 A m.length (strs m)) (hl : l.length + m.length < 8000000000000) (hbase : base ≤ w.heap.size)
    (h : ∀ v' w', Txs w' base v' (l ++ m) → w.grownBy w' v.ownBlock → wpList Tryz.prog ops Q rest (a.put o.dst v') w') : wpList Tryz.prog ops Q (o :: rest) a w := by
  obtain ⟨i0, hi0, hz0, hz1, hz2⟩ := info_parts str_info
  refine wpList_append_any _ hgd s x _ ho base 9 i0 _ 1 16 Tryz.underlying49 hi0 hz0 hz1 hz2 rfl (by omega) v l.length (strs l) hs hown B A m.length cp (strs m) hx hr (strs_one m) (by simp only [maxLen]; omega) (by omega) hbase ?_
  intro v' w' h2 h3 _
  refine h v' w' ?_ h3
  show w'.ownsRow base 9 1 v' (l ++ m).length (strs (l ++ m))
  unfold strs
  rw [List.map_append, List.length_append]
  exact h2
/-- One more text, just laid. -/
theorem wpList_textU {ops : Array Oper} {rest : List Oper} {o : Oper} {a : Act} {Q : Exit → Act → World → Prop} (w0 : World) (hgd : o.guard = none) (s x : Operand)
    (ho : o.op = .call { callee := .builtin .append, args := #[s, x], argTypes := #[49, 49] })
    (base : Nat) (v : Value) (l : List (List UInt8)) (t : List UInt8) (u : Value) (hu : Hid (Value.string (toB t) = u)) (cp : Nat) (hs : a.eval s = v) (hown : Txs w0 base v l) (hx : a.eval x = .slice (some ⟨w0.heap.size, 0, none⟩) 1 cp) (hl : l.length < 7000000000000) (hbase : base ≤ w0.heap.size)
    (h : ∀ v' w', Txs w' base v' (l ++ [t]) → (w0.alloc (.cells #[u] 9)).grownBy w' v.ownBlock → wpList Tryz.prog ops Q rest (a.put o.dst v') w') : wpList Tryz.prog ops Q (o :: rest) a (w0.alloc (.cells #[u] 9)) := by
  obtain rfl := hu.out
  refine wpList_texts _ hgd s x ho base v l [t] hs (World.ownsRow.alloc hown _) (w0.heap.size + 1) (some ⟨w0.heap.size, 0, none⟩) cp hx ?_ (by simp; omega) (by rw [size_al]; omega) h
  refine ⟨rfl, fun _ => ⟨_, rfl, Nat.lt_succ_self _, fun j u hu => ?_⟩⟩
  match j, hu with
  | 0, hu =>
    rw [add_zero_]
    exact (((Blk.new w0 9 #[.string (toB t)])).cell 0).trans hu
theorem below_textU {w w0 w' : World} {v : Value} {l : List (List UInt8)} {u : Value} (hb : Below w.heap.size w w0) (hown : Txs w0 w.heap.size v l) (hg : (w0.alloc (.cells #[u] 9)).grownBy w' v.ownBlock) : Below w.heap.size w w' := by
  have hb2 := below_al hb (.cells #[u] 9)
  exact hb2.grown hg hb2.size (fun k hk => (hown.lt k hk).1)
theorem below_texts {w w0 w' : World} {v : Value} {l : List (List UInt8)} (hb : Below w.heap.size w w0) (hown : Txs w0 w.heap.size v l) (hg : w0.grownBy w' v.ownBlock) : Below w.heap.size w w' :=
  hb.grown hg hb.size (fun k hk => (hown.lt k hk).1)
end Go.Proofs.YtdfcahdipalmkaaGreatDoor
/- What lies below a number, but for one block: kept from world to world; and operations of a round that no defer stands in. Conditions: as the theorems' premises say. -/
namespace Go.Proofs.YtdfcahdipalmkaaGreatDoor
open Go.RowKit
/-- Whatever lies below n, but block L, lies as it lay. -/
structure KeepsBut (L n : Nat) (w w' : World) : Prop where
  os : w'.os = w.os
  tape : w'.tape = w.tape
  output : w'.output = w.output
  size : w.heap.size ≤ w'.heap.size
  block : ∀ k, k < n → k ≠ L → w'.heap[k]? = w.heap[k]?
section
variable {L n : Nat} {a b c w w' : World}
theorem KeepsBut.refl (L n : Nat) (w : World) : KeepsBut L n w w := ⟨rfl, rfl, rfl, Nat.le_refl _, fun _ _ _ => rfl⟩
theorem KeepsBut.trans (h : KeepsBut L n a b) (k : KeepsBut L n b c) : KeepsBut L n a c :=
  ⟨k.os.trans h.os, k.tape.trans h.tape, k.output.trans h.output, Nat.le_trans h.size k.size, fun i hi hn => (k.block i hi hn).trans (h.block i hi hn)⟩
theorem KeepsBut.of_below (L : Nat) (h : Below n a b) : KeepsBut L n a b := ⟨h.os, h.tape, h.output, h.size, fun k hk _ => h.block k hk⟩
theorem KeepsBut.drew (h : KeepsBut L n a w) : KeepsBut L n a w.drew := ⟨h.os, h.tape, h.output, h.size, h.block⟩
theorem KeepsBut.alloc (h : KeepsBut L n a w) (hn : n ≤ w.heap.size) (o : Obj) : KeepsBut L n a (w.alloc o) := h.trans (.of_below L ((Below.refl n w).alloc hn o))
theorem KeepsBut.set (h : KeepsBut L n a w) (v : Value) : KeepsBut L n a (w.setCell ⟨L, 0, none⟩ v) :=
  h.trans ⟨rfl, rfl, rfl, by simp, fun k _ hk => Below.heap_setCell w _ v k hk⟩
theorem KeepsBut.grown {row : Option Nat} (h : KeepsBut L n a w) (hg : w.grownBy w' row) (hn : n ≤ w.heap.size) (hr : ∀ k, row = some k → n ≤ k) : KeepsBut L n a w' :=
  h.trans (.of_below L ((Below.refl n w).grown hg hn hr))
theorem KeepsBut.below {m : Nat} (h : KeepsBut L n a b) (hm : m ≤ n) (hL : m ≤ L) : Below m a b :=
  ⟨h.os, h.tape, h.output, h.size, fun k hk => h.block k (by omega) (by omega)⟩
theorem KeepsBut.cell {o : Nat} {k : Nat} (h : KeepsBut L n a b) (hk : k < n) (hL : k ≠ L) : b.cell? ⟨k, o, none⟩ = a.cell? ⟨k, o, none⟩ := World.cell?_of_block (w := a) (a := ⟨k, o, none⟩) (h.block k hk hL)
theorem keepsBut_t (h : KeepsBut L n a b) (k : KeepsBut L n b c) : KeepsBut L n a c := h.trans k
theorem keepsBut_b {w : World} (hn : n ≤ w.heap.size) (W : World) (l : Nat) (o o' : Obj) (hl : w.heap.size ≤ l) (h : W.heap[l]? = some o) (h1 : o.isCells = false) (h2 : o.isWalk = false) : KeepsBut L n W (W.putObj l o') :=
  .of_below L (belowK_b hn W l o o' hl h h1 h2)
theorem ownFrom_keepsBut {β : Type} {B : Nat} {w₀ : World} (hn : n ≤ w₀.heap.size) (hB : n ≤ B) : OwnFrom B (fun (_ : β) W => KeepsBut L n w₀ W) :=
  fun _ _ _ _ hs hg hr => hs.grown hg (Nat.le_trans hn hs.size) (fun k e => Nat.le_trans hB (hr k e).1)
end
/-- A cell that lies below, in another block. -/
theorem boxed_keepsBut {L n B : Nat} {t : TypeId} {v : Value} {w w' : World} (h : Boxed w B t v) (hk : KeepsBut L n w w') (hB : B < n) (hL : B ≠ L) : Boxed w' B t v := (hk.block B hB hL).trans h
theorem boxed_below {n B : Nat} {t : TypeId} {v : Value} {w w' : World} (h : Boxed w B t v) (hk : Below n w w') (hB : B < n) : Boxed w' B t v := (hk.block B hB).trans h
/-- A row of one's own, where nothing that lay has turned. -/
theorem ownsRow_below {w w' : World} {base : Nat} {e : TypeId} {size : Nat} {v : Value} {n : Nat} {xs : List Value} (h : w.ownsRow base e size v n xs) (hb : Below w.heap.size w w') : w'.ownsRow base e size v n xs := by
  refine ⟨h.1, ?_⟩
  rcases h.2 with h2 | ⟨g, cap, cur, h1, h2, h3, h4⟩
  · exact Or.inl h2
  · refine Or.inr ⟨g, cap, cur, h1, h2, ?_, h4⟩
    have hlt : g < w.heap.size := by
      rcases Nat.lt_or_ge g w.heap.size with hlt | hge
      · exact hlt
      · rw [Array.getElem?_eq_none hge] at h3; cases h3
    rw [hb.block g hlt]
    exact h3
theorem ownsRow_base {W : World} {base base' : Nat} {e : TypeId} {size : Nat} {v : Value} {k : Nat} {xs : List Value} (h : W.ownsRow base e size v k xs) (hb : base' ≤ base) : W.ownsRow base' e size v k xs := by
  refine ⟨h.1, ?_⟩
  rcases h.2 with h2 | ⟨g, cap, cur, h1, h2, h3⟩
  · exact Or.inl h2
  · exact Or.inr ⟨g, cap, cur, h1, Nat.le_trans hb h2, h3⟩
/-- 'out = append(out, ..)' in a loop's body: what lies behind the store. -/
theorem boxed_appended {W w1 : World} {n L : Nat} {t e : TypeId} {size : Nat} {v v' : Value} {k m : Nat} {xs ys : List Value} {tmp : Obj}
    (hv : Boxed W L t v) (hte : t ≠ e) (hrow : W.ownsRow n e size v k xs) (hn : n ≤ W.heap.size)
    (hown' : w1.ownsRow n e size v' m ys) (hgrow : (W.alloc tmp).grownBy w1 v.ownBlock) :
    Boxed w1 L t v ∧ Boxed (w1.setCell ⟨L, 0, none⟩ v') L t v' ∧ (w1.setCell ⟨L, 0, none⟩ v').ownsRow n e size v' m ys ∧ KeepsOthers W (w1.setCell ⟨L, 0, none⟩ v') ∧ KeepsBut L n W (w1.setCell ⟨L, 0, none⟩ v') := by
  have hv1 : Boxed w1 L t v := (hv.alloc tmp).kept hgrow (hv.not_row hte hrow)
  refine ⟨hv1, hv1.set v', hown'.kept (grownBy_setCell' w1 L v') (.inr (hv1.not_row hte hown').symm), ?_, ?_⟩
  · refine ((KeepsOthers.alloc W tmp).trans (KeepsOthers.of_grownBy hgrow fun j o ej hj => ?_)).trans (KeepsOthers.setCell _ _ _)
    rcases (hrow.alloc tmp).2 with ⟨rfl, _⟩ | ⟨g, cap, cur, rfl, _, hgb, _⟩
    · simp [Value.ownBlock] at ej
    · obtain rfl : g = j := by simpa [Value.ownBlock] using ej
      rw [hgb] at hj; cases hj; rfl
  · refine ((((KeepsBut.refl L n W).alloc hn tmp).grown hgrow (by simp; omega) fun j ej => ?_)).set v'
    rcases hrow.2 with ⟨rfl, _⟩ | ⟨g, cap, cur, rfl, hb, _, _⟩
    · simp [Value.ownBlock] at ej
    · obtain rfl : g = j := by simpa [Value.ownBlock] using ej
      exact hb
/-- append onto a row of one's own, as an operation of a region that draws its order, in a round of a loop over an iterator. -/
theorem stepIn_append_any {l m : Nat} {P : Program} {ops : Array Oper} {o : Oper} {a : Act} {K : Act → World → Prop} {Q : Exit → Act → World → Prop} {E : Prop} (w : World) (hgd : o.guard = none) (s x : Operand) (t : TypeId)
    (ho : o.op = .call { callee := .builtin .append, args := #[s, x], argTypes := #[t, t] })
    (base : Nat) (e : TypeId) (i : TypeInfo) (z : Value) (size bytes : Nat) (ht : P.underlying t = some (.slice e)) (hi : P.info? e = some i) (hz : i.zero = some z)
    (hsize : i.size = size) (hby : i.bytes = bytes) (hzs : z.cells.size = size) (hsz : 0 < size)
    (v : Value) (n : Nat) (xs : List Value) (hs : a.eval s = v) (hown : w.ownsRow base e size v n xs)
    (B : Nat) (A : Option Addr) (k c : Nat) (news : List Value) (hx : a.eval x = .slice A k c) (hr : Reads w B size A k news) (h1 : ∀ u ∈ news, u.oneCell' = true)
    (h63 : n + k ≤ maxLen) (hbytes : (n + k) * bytes ≤ 140737488355328) (hbase : base ≤ w.heap.size)
    (h : ∀ v' w', w'.ownsRow base e size v' (n + k) (xs ++ news) → w.grownBy w' v.ownBlock → K (a.put o.dst v') w') :
    if Region.wanted o (yielded ops a.tmps) = true then Oper.wpIn (Fence.wide.inRound l) m P o a w K Q else E := by
  have hw : Region.wanted o (yielded ops a.tmps) = true := by simp [Region.wanted, hgd]
  rw [if_pos hw]
  obtain ⟨v', w', hrun, h2, h3, h4⟩ := run_append_any (P := P) w base t o.type e i z size bytes ht hi hz hsize hby hzs hsz v n xs hown B A k c news hr h1 h63 hbytes hbase
  refine ⟨fun _ _ => trivial, ?_⟩
  rw [Fence.inRound_round, Oper.semAt_some _ _ _ (by rw [ho]; intro c h; cases h)]
  unfold execOp
  simp only [ho, resolve, invoke, builtin, Sem.run_bind, Sem.run_pure, Result.andThen_ok, List.map_toArray, List.map_cons, List.map_nil, hs, hx, hrun]
  exact h v' w' h2 h3
end Go.Proofs.YtdfcahdipalmkaaGreatDoor
namespace Go.Proofs.YtdfcahdipalmkaaGreatDoor
open Go.ChangeShapes Go.WideShapes Go.ChangeAt Go.RowKit
namespace Sel
open RowG (Row)
/-- Blocks of a type lie as they lay. -/
def KT (w w' : World) (e : TypeId) : Prop := ∀ (j : Nat) (cur : Array Value) (fr : Nat × Nat), w.heap[j]? = some (.cells cur e fr) → w'.heap[j]? = w.heap[j]?
theorem KT.refl (w : World) (e : TypeId) : KT w w e := fun _ _ _ _ => rfl
theorem KT.trans {a b c : World} {e : TypeId} (h : KT a b e) (k : KT b c e) : KT a c e := fun j cur fr hj => by
  have h1 := h j cur fr hj
  rw [k j cur fr (h1.trans hj), h1]
theorem KT.below {w w' : World} (h : Below w.heap.size w w') (e : TypeId) : KT w w' e := fun j _ _ hj => h.block j (Array.getElem?_eq_some_iff.1 hj).1
theorem KT.drewN (w : World) (n : Nat) (e : TypeId) : KT w (w.drewN n) e := fun _ _ _ _ => rfl
theorem KT.set {w : World} {g : Nat} {t e : TypeId} {cs : Array Value} (h : Blk w g t cs) (hne : t ≠ e) (i : Nat) (u : Value) : KT w (w.setCell ⟨g, i, none⟩ u) e := fun j cur fr hj => by
  refine Below.heap_setCell w ⟨g, i, none⟩ u j ?_
  rintro rfl
  unfold Blk at h
  rw [h] at hj
  injection hj with hj
  injection hj with _ hj
  exact hne hj
theorem KT.grown {α : Type} {w w' : World} {base k : Nat} {t e : TypeId} {enc : α → List Value} {v : Value} {l : List α} (h : Row w base t k enc v l) (hg : w.grownBy w' v.ownBlock) (hne : t ≠ e) : KT w w' e := fun j cur fr hj => by
  refine hg.block j (Array.getElem?_eq_some_iff.1 hj).1 ?_
  intro he
  rcases h.2 with ⟨rfl, _⟩ | ⟨b, cap, cur2, rfl, _, h5, _⟩
  · simp [Value.ownBlock] at he
  · have : j = b := by simpa [Value.ownBlock] using he
    subst this
    rw [h5] at hj
    injection hj with hj
    injection hj with _ hj
    exact hne hj
theorem row_kt {α : Type} {w w' : World} {base k : Nat} {e : TypeId} {enc : α → List Value} {v : Value} {l : List α} (h : Row w base e k enc v l) (hk : KT w w' e) : Row w' base e k enc v l := by
  refine ⟨h.1, ?_⟩
  rcases h.2 with h2 | ⟨g, cap, cur, h1, h2, h3, h4⟩
  · exact Or.inl h2
  · exact Or.inr ⟨g, cap, cur, h1, h2, (hk g cur _ h3).trans h3, h4⟩
theorem blk_kt {w w' : World} {g : Nat} {e : TypeId} {cs : Array Value} (h : Blk w g e cs) (hk : KT w w' e) : Blk w' g e cs := (hk g cs _ h).trans h
/-- Another row of the type, elsewhere. -/
def Dj (u v : Value) : Prop := ∀ b, u.ownBlock = some b → v.ownBlock ≠ some b
theorem Dj.symm {u v : Value} (h : Dj u v) : Dj v u := fun b hv hu => h b hu hv
theorem row_other {α : Type} {w w' : World} {base k : Nat} {e : TypeId} {enc : α → List Value} {u : Value} {l : List α} {r : Option Nat} (h : Row w base e k enc u l) (hg : w.grownBy w' r) (hd : ∀ b, u.ownBlock = some b → r ≠ some b) : Row w' base e k enc u l := by
  refine ⟨h.1, ?_⟩
  rcases h.2 with h2 | ⟨g, cap, cur, rfl, h2, h3, h4⟩
  · exact Or.inl h2
  · exact Or.inr ⟨g, cap, cur, rfl, h2, (hg.block g (Array.getElem?_eq_some_iff.1 h3).1 (fun e => hd g rfl e.symm)).trans h3, h4⟩
/-- What has grown lies apart from what lay apart. -/
theorem Dj.grown {α : Type} {w : World} {base k : Nat} {e : TypeId} {enc : α → List Value} {u v v' : Value} {l : List α} (h : Dj u v) (hu : Row w base e k enc u l) (ho : v'.ownBlock = v.ownBlock ∨ v'.ownBlock = some w.heap.size) : Dj u v' := fun b hb => by
  rcases ho with e | e
  · rw [e]; exact h b hb
  · rw [e]
    intro e2
    injection e2 with e2
    have := (World.ownsRow.lt hu b hb).2
    omega
theorem row_max {α : Type} {w : World} {base k n c : Nat} {e : TypeId} {enc : α → List Value} {A : Option Addr} {l : List α} (h : Row w base e k enc (.slice A n c) l) : l.length ≤ maxLen := by
  rcases h.2 with ⟨-, h0⟩ | ⟨b, cap, cur, -, -, -, h4, h5, -⟩
  · omega
  · omega
theorem flat_len {α : Type} {enc : α → List Value} {k : Nat} (henc : ∀ x, (enc x).length = k) (l : List α) : (l.flatMap enc).length = l.length * k := by
  induction l with
  | nil => simp
  | cons x t ih => rw [List.flatMap_cons, List.length_append, henc, ih, List.length_cons, Nat.succ_mul]; omega
theorem flat_at {α : Type} {enc : α → List Value} {k : Nat} (henc : ∀ x, (enc x).length = k) : ∀ (l : List α) (i : Nat) (x : α) (j : Nat), l[i]? = some x → j < k → (l.flatMap enc)[i * k + j]? = (enc x)[j]? := by
  intro l
  induction l with
  | nil => intro i x j h; cases h
  | cons y t ih =>
    intro i x j h hj
    rw [List.flatMap_cons]
    cases i with
    | zero =>
      rw [List.getElem?_cons_zero] at h
      obtain rfl := Option.some.inj h
      rw [Nat.zero_mul, Nat.zero_add, List.getElem?_append_left (by rw [henc]; exact hj)]
    | succ i =>
      rw [List.getElem?_cons_succ] at h
      rw [List.getElem?_append_right (by rw [henc, Nat.succ_mul]; omega), henc, show (i + 1) * k + j - k = i * k + j by rw [Nat.succ_mul]; omega]
      exact ih i x j h hj
theorem setRow_blk {w : World} {g : Nat} {t : TypeId} {old cells : Array Value} (h : Blk w g t old) : Blk (w.setRow g cells) g t cells := by
  unfold World.setRow Blk
  unfold Blk at h
  simp [Array.getElem?_modify, h]
theorem below_setRow {w E : World} (h : Below w.heap.size w E) {g : Nat} (hg : w.heap.size ≤ g) (cs : Array Value) : Below w.heap.size w (E.setRow g cs) := by
  refine ⟨h.os, h.tape, h.output, by unfold World.setRow; simpa using h.size, fun b hb => ?_⟩
  unfold World.setRow
  rw [Array.getElem?_modify, if_neg (by omega)]
  exact h.block b hb
theorem row_setRow {α : Type} {w : World} {base k g : Nat} {e t : TypeId} {enc : α → List Value} {v : Value} {l : List α} {old cs : Array Value} (h : Row w base e k enc v l) (K : Blk w g t old) (ht : e ≠ t) : Row (w.setRow g cs) base e k enc v l := by
  refine ⟨h.1, ?_⟩
  rcases h.2 with h2 | ⟨g', cap, cur, h1, h2, h3, h4⟩
  · exact Or.inl h2
  · refine Or.inr ⟨g', cap, cur, h1, h2, ?_, h4⟩
    unfold World.setRow
    rw [Array.getElem?_modify, if_neg ?_]
    · exact h3
    · rintro rfl
      unfold Blk at K
      rw [K] at h3
      injection h3 with h3
      injection h3 with _ h3
      exact ht h3.symm
theorem below_setRow2 {w E : World} {B : Nat} (h : Below B w E) {g : Nat} (hg : B ≤ g) (cs : Array Value) : Below B w (E.setRow g cs) := by
  refine ⟨h.os, h.tape, h.output, by unfold World.setRow; simpa using h.size, fun b hb => ?_⟩
  unfold World.setRow
  rw [Array.getElem?_modify, if_neg (by omega)]
  exact h.block b hb
theorem setRow_size (w : World) (g : Nat) (cs : Array Value) : (w.setRow g cs).heap.size = w.heap.size := by unfold World.setRow; simp
theorem blk_setRow {w : World} {g h : Nat} {t : TypeId} {old cs : Array Value} (K : Blk w h t old) (hne : h ≠ g) : Blk (w.setRow g cs) h t old := by
  unfold World.setRow Blk
  unfold Blk at K
  rw [Array.getElem?_modify, if_neg (fun e => hne e.symm)]
  exact K
theorem blk_setOther {w : World} {h : Nat} {t : TypeId} {old : Array Value} {p : Addr} (K : Blk w h t old) (hne : h ≠ p.block) (u : Value) : Blk (w.setCell p u) h t old := by
  unfold Blk at K ⊢
  rw [Below.heap_setCell w p u h (fun e => hne e)]
  exact K
theorem blk5 {w : World} {g : Nat} {t : TypeId} {a b c d e : Value} (h : Blk w g t #[a, b, c, d, e]) : w.cell? ⟨g, 0, none⟩ = some a ∧ w.cell? ⟨g, 1, none⟩ = some b ∧ w.cell? ⟨g, 2, none⟩ = some c ∧ w.cell? ⟨g, 3, none⟩ = some d ∧ w.cell? ⟨g, 4, none⟩ = some e := ⟨h.cell 0, h.cell 1, h.cell 2, h.cell 3, h.cell 4⟩
theorem fz5 {w : World} {g : Nat} {t : TypeId} {a b c d e : Value} (h : Blk w g t #[a, b, c, d, e]) : w.frozen? ⟨g, 0, none⟩ = false ∧ w.frozen? ⟨g, 1, none⟩ = false ∧ w.frozen? ⟨g, 2, none⟩ = false ∧ w.frozen? ⟨g, 3, none⟩ = false ∧ w.frozen? ⟨g, 4, none⟩ = false := ⟨h.frozen 0, h.frozen 1, h.frozen 2, h.frozen 3, h.frozen 4⟩
theorem below_set5 {w E : World} {B g : Nat} (h : Below B w E) (hg : B ≤ g) (a b c d e : Value) : Below B w (((((E.setCell ⟨g, 0, none⟩ a).setCell ⟨g, 1, none⟩ b).setCell ⟨g, 2, none⟩ c).setCell ⟨g, 3, none⟩ d).setCell ⟨g, 4, none⟩ e) :=
  ((((h.setCell hg _).setCell hg _).setCell hg _).setCell hg _).setCell hg _
theorem blk_set5 {w : World} {g : Nat} {t : TypeId} {a0 b0 c0 d0 e0 : Value} (K : Blk w g t #[a0, b0, c0, d0, e0]) (a b c d e : Value) : Blk (((((w.setCell ⟨g, 0, none⟩ a).setCell ⟨g, 1, none⟩ b).setCell ⟨g, 2, none⟩ c).setCell ⟨g, 3, none⟩ d).setCell ⟨g, 4, none⟩ e) g t #[a, b, c, d, e] :=
  ((((K.set_ 0 a).set_ 1 b).set_ 2 c).set_ 3 d).set_ 4 e
theorem kt_set5 {w : World} {g : Nat} {t e : TypeId} {cs : Array Value} (h : Blk w g t cs) (hne : t ≠ e) (a b c d u : Value) : KT w (((((w.setCell ⟨g, 0, none⟩ a).setCell ⟨g, 1, none⟩ b).setCell ⟨g, 2, none⟩ c).setCell ⟨g, 3, none⟩ d).setCell ⟨g, 4, none⟩ u) e :=
  ((((KT.set h hne 0 a).trans (KT.set (h.set_ 0 a) hne 1 b)).trans (KT.set ((h.set_ 0 a).set_ 1 b) hne 2 c)).trans (KT.set (((h.set_ 0 a).set_ 1 b).set_ 2 c) hne 3 d)).trans (KT.set ((((h.set_ 0 a).set_ 1 b).set_ 2 c).set_ 3 d) hne 4 u)
theorem blk_below {w w' : World} {B h : Nat} {t : TypeId} {cs : Array Value} (K : Blk w h t cs) (hb : Below B w w') (hlt : h < B) : Blk w' h t cs := (hb.block h hlt).trans K
end Sel
end Go.Proofs.YtdfcahdipalmkaaGreatDoor
