/- What (*pile).put, and Stack, of package block answer. Conditions: the items lie in memory as they are read. -/
import Derived.Test.YtfamhjmdffaphaaBlockE
namespace Go.Proofs.Ytfamhjmdffaphaa
open Go.ChangeShapes Go.WideShapes Go.ChangeAt Go.RowKit
structure It where
  t : Int
  h : Int
  b : Int
def flatS (l : List It) : List Value := l.flatMap fun x => [.int .i64 x.t, .int .i64 x.h, .int .i64 x.b]
theorem flatS_len (l : List It) : (flatS l).length = l.length * 3 := by
  induction l with
  | nil => rfl
  | cons x l ih => simp [flatS] at ih ⊢; omega
theorem flatS_at (l : List It) : ∀ (k : Nat) (x : It), l[k]? = some x → (flatS l)[k * 3]? = some (.int .i64 x.t) ∧ (flatS l)[k * 3 + 1]? = some (.int .i64 x.h) ∧ (flatS l)[k * 3 + 2]? = some (.int .i64 x.b) := by
  induction l with
  | nil => intro k x h; simp at h
  | cons y l ih =>
    intro k x h
    cases k with
    | zero => simp at h; subst h; exact ⟨rfl, rfl, rfl⟩
    | succ k =>
      obtain ⟨a, b, c⟩ := ih k x (by simpa using h)
      have e : ∀ j, (flatS (y :: l))[(k + 1) * 3 + j]? = (flatS l)[k * 3 + j]? := by
        intro j
        rw [show (k + 1) * 3 + j = (k * 3 + j) + 1 + 1 + 1 by omega]
        rfl
      exact ⟨(e 0).trans a, (e 1).trans b, (e 2).trans c⟩
theorem it_of {w : World} {B : Nat} {A : Option Addr} {n : Nat} {l : List It} (h : Reads w B 3 A n (flatS l)) {k : Nat} {x : It} (hp : l[k]? = some x) :
    ∃ ad, A = some ad ∧ ad.block < B ∧ w.cell? (ad.add (k * 3)) = some (.int .i64 x.t) ∧ w.cell? ⟨(ad.add (k * 3)).block, (ad.add (k * 3)).off + 1, none⟩ = some (.int .i64 x.h) ∧ w.cell? ⟨(ad.add (k * 3)).block, (ad.add (k * 3)).off + 2, none⟩ = some (.int .i64 x.b) := by
  have hn : 0 < n := by
    have h1 := h.1
    rw [flatS_len] at h1
    have := (List.getElem?_eq_some_iff.1 hp).1
    omega
  obtain ⟨ad, rfl, hb, hc⟩ := h.2 hn
  obtain ⟨a, b, c⟩ := flatS_at l k x hp
  refine ⟨ad, rfl, hb, hc _ _ a, ?_, ?_⟩
  · have := hc _ _ b; rwa [← add_of_add, add_one] at this
  · have := hc _ _ c; rwa [← add_of_add, add_one] at this
theorem len_S {w : World} {B : Nat} {A : Option Addr} {n : Nat} {l : List It} (h : Reads w B 3 A n (flatS l)) : l.length = n := by
  have := h.1
  rw [flatS_len] at this
  omega
/-- A pile in memory. -/
def PilS (w : World) (B g : Nat) (bs : List Int) (en : Int) (cut : Bool) : Prop := ∃ v, Blk w g 52 #[v, .int .i64 en, .bool cut] ∧ I64s w B v bs
theorem wpList_one {ops : Array Oper} {rest : List Oper} {o : Oper} {a : Act} {Q : Exit → Act → World → Prop} (w : World) (hgd : o.guard = none) (s x : Operand)
    (ho : o.op = .call { callee := .builtin .append, args := #[s, x], argTypes := #[39, 39] })
    (base : Nat) (v : Value) (l : List Int) (i : Int) (hs : a.eval s = v) (hown : I64s w base v l) (g cp : Nat) (hgq : w.heap.size = g) (hx : a.eval x = .slice (some ⟨g, 0, none⟩) 1 cp) (hl : l.length < 400000000) (hbase : base ≤ w.heap.size)
    (hk : ∀ v' w', I64s w' base v' (l ++ [i]) → (w.alloc (.cells #[.int .i64 i] 2)).grownBy w' v.ownBlock → wpList Try.prog ops Q rest (a.put o.dst v') w') :
    wpList Try.prog ops Q (o :: rest) a (w.alloc (.cells #[.int .i64 i] 2)) := by
  subst hgq
  obtain ⟨i0, hi0, hz0, hz1, hz2⟩ := info_parts info_I64
  refine wpList_append_any _ hgd s x _ ho base 2 i0 _ 1 8 Try.underlying39 hi0 hz0 hz1 hz2 rfl (by omega) v l.length (l.map (Value.int .i64)) hs (World.ownsRow.alloc hown _) (w.heap.size + 1) (some ⟨w.heap.size, 0, none⟩) 1 cp [.int .i64 i] hx (reads_blk (Blk.new w 2 #[.int .i64 i]) (Nat.lt_succ_self _) rfl) ?_ (by simp only [maxLen]; omega) (by omega) (by rw [size_al]; omega) ?_
  · intro u hu
    simp only [List.mem_cons, List.not_mem_nil, or_false] at hu
    subst hu
    rfl
  intro v' w' h2 h3 _
  refine hk v' w' ?_ h3
  show w'.ownsRow base 2 1 v' (l ++ [i]).length ((l ++ [i]).map (Value.int .i64))
  rw [List.map_append, List.length_append]
  exact h2
theorem size_set' (w : World) (p : Addr) (v : Value) : (w.setCell p v).heap.size = w.heap.size := by simp
set_option maxHeartbeats 8000000 in
set_option maxRecDepth 100000 in
theorem put_any (B g : Nat) (bs : List Int) (en : Int) (cut : Bool) (high below : Int) (w : World) (h : PilS w B g bs en cut) (hBg : B ≤ g) (hlen : bs.length < 400000000) :
    Calls Try.prog 23 #[.pointer (some ⟨g, 0, none⟩), .int .i64 high, .int .i64 below] w fun e w' => e = .returned (.tuple #[]) ∧
      PilS w' B g (bs ++ [add2 en below]) (add2 (add2 en below) high) ((cut || !addOk en below) || !addOk (add2 en below) high) ∧ Below B w w' := by
  obtain ⟨v, K, hY⟩ := h
  have hz := K.lt
  have a1 := fun w => add_any en below w
  have a2 := fun w => add_any (add2 en below) high w
  generalize add2 en below = p1 at *
  generalize addOk en below = o1 at *
  generalize add2 p1 high = p2 at *
  generalize addOk p1 high = o2 at *
  have k1 : w.cell? ⟨g, 1, none⟩ = some (.int .i64 en) := K.cell 1
  have k0 : w.cell? ⟨g, 0, none⟩ = some v := K.cell 0
  have n1 := numberB_any g p1 o1 cut w (K.cell 2) (K.frozen 2)
  have K1 := K.set_ 2 (.bool (cut || !o1))
  have nv := own_blk_ne hY K (by decide)
  have hY1 : I64s (w.setCell ⟨g, 2, none⟩ (.bool (cut || !o1))) B v bs := ownsRow_setCell_other hY (a := ⟨g, 2, none⟩) nv _
  have hB1 := (show Below B w w from Below.refl _ _).setCell (p := ⟨g, 2, none⟩) hBg (.bool (cut || !o1))
  go_enter Try.func23, Try.ntmps23
  go_wp2_with (first
    | (go_at_call 20; (first | (with_reducible refine (a1 _).mono ?_) | (with_reducible refine (a2 _).mono ?_)); rintro e w' ⟨rfl, rfl⟩)
    | (go_at_call 22; (with_reducible refine n1.mono ?_); rintro e w' ⟨rfl, rfl⟩)
    | (at_builtin; refine wpList_one (w.setCell ⟨g, 2, none⟩ (.bool (cut || !o1))) rfl (.tmp 21) (.tmp 23) rfl B v bs p1 rfl hY1 w.heap.size _ (size_set' _ _ _) rfl (by omega) (by rw [size_set']; omega) ?_; intro v' w' hY' hg
       have hB' := (hB1.alloc (by rw [size_set']; omega) (.cells #[.int .i64 p1] 2)).grown hg (by rw [size_al, size_set']; omega) (fun k hk => (hY1.lt k hk).1)
       have K' := (K1.alloc _).grown hg (fun e => nv e.symm)
       obtain ⟨A', c', hv⟩ := own_form' hY'
       rw [List.length_append, List.length_singleton] at hv
       subst hv
       have kc : w'.cell? ⟨g, 0, none⟩ = some v := K'.cell 0
       have kf := K'.frozen 0
       have K2 := K'.set_ 0 (.slice A' (bs.length + 1) c')
       have nv' := own_blk_ne hY' K' (by decide)
       have hY2 : I64s (w'.setCell ⟨g, 0, none⟩ (.slice A' (bs.length + 1) c')) B _ (bs ++ [p1]) := ownsRow_setCell_other hY' (a := ⟨g, 0, none⟩) nv' _
       have n2 := numberB_any g p2 o2 (cut || !o1) _ (K2.cell 2) (K2.frozen 2)
       have K3 := K2.set_ 2 (.bool ((cut || !o1) || !o2))
       have hY3 : I64s ((w'.setCell ⟨g, 0, none⟩ (.slice A' (bs.length + 1) c')).setCell ⟨g, 2, none⟩ (.bool ((cut || !o1) || !o2))) B _ (bs ++ [p1]) := ownsRow_setCell_other hY2 (a := ⟨g, 2, none⟩) nv' _
       have k31 := K3.cell 1
       have k3f := K3.frozen 1
       have K4 := K3.set_ 1 (.int .i64 p2)
       have hY4 := ownsRow_setCell_other hY3 (a := ⟨g, 1, none⟩) nv' (.int .i64 p2)
       have hB4 := ((hB'.setCell (p := ⟨g, 0, none⟩) hBg (.slice A' (bs.length + 1) c')).setCell (p := ⟨g, 2, none⟩) hBg (.bool ((cut || !o1) || !o2))).setCell (p := ⟨g, 1, none⟩) hBg (.int .i64 p2)
       clear hg)
    | (go_at_call 22; (with_reducible refine n2.mono ?_); rintro e w' ⟨rfl, rfl⟩))
  go_end0
  exact ⟨rfl, ⟨_, K4, hY4⟩, hB4⟩
end Go.Proofs.Ytfamhjmdffaphaa
