/- A block that is known whole. Conditions: as the theorems' premises say. -/
import Derived.Below
import Derived.ChangeSame
import Derived.Laws.OwnMore
import Derived.Deep.AppendLies
import Derived.Deep.Draws
import Derived.Deep.OwnRows
import Derived.OwnWalk
import Derived.Laws.AppendOwn
import Derived.Lib.Hide
import Derived.Laws.Rows
/- Small words on worlds, slices that are read, and a row's last step, for the texts of this seat. Conditions: none. -/
namespace Go.Proofs.YtdfcahdipalmkaaGreatDoor
open Go.RowKit Go.WideShapes Go.ChangeShapes
theorem ret_int {k : IntKind} {a b : Int} (h : a = b) : Ending.returned (.int k a) = .returned (.int k b) := by rw [h]
theorem bcell {W w1 : World} (hb : Below W.heap.size W w1) : (∀ b o, b < W.heap.size → w1.cell? ⟨b, o, none⟩ = W.cell? ⟨b, o, none⟩) ∧ (∀ b o, b < W.heap.size → w1.frozen? ⟨b, o, none⟩ = W.frozen? ⟨b, o, none⟩) :=
  ⟨fun b o h => hb.cell (p := ⟨b, o, none⟩) h, fun b o h => hb.frozen (p := ⟨b, o, none⟩) h⟩
theorem block_of_add (a : Addr) (n : Nat) : (a.add n).block = a.block := by unfold Addr.add; split <;> rfl
theorem add_of_add (a : Addr) (i j : Nat) : (a.add i).add j = a.add (i + j) := by
  unfold Addr.add
  by_cases hi : i = 0 <;> by_cases hj : j = 0 <;> simp [hi, hj, Nat.add_assoc]

def Reads (w : World) (B size : Nat) (A : Option Addr) (n : Nat) (xs : List Value) : Prop :=
  xs.length = n * size ∧ (0 < n → ∃ ad, A = some ad ∧ ad.block < B ∧ ∀ j u, xs[j]? = some u → w.cell? (ad.add j) = some u)

section
variable {w w' : World} {B B' size n : Nat} {A : Option Addr} {xs : List Value}
theorem Reads.none_ : Reads w B size A 0 [] := ⟨by simp, fun h => absurd h (by omega)⟩
theorem Reads.at_ {k : Nat} (h : Reads w B 1 A n xs) (hk : k < n) : ∃ ad u, A = some ad ∧ ad.block < B ∧ xs[k]? = some u ∧ w.cell? (ad.add k) = some u := by
  obtain ⟨ad, e, hb, hc⟩ := h.2 (by omega)
  have hl : k < xs.length := by have := h.1; omega
  exact ⟨ad, xs[k], e, hb, List.getElem?_eq_getElem hl, hc k _ (List.getElem?_eq_getElem hl)⟩
theorem Reads.keep (h : Reads w B size A n xs) (hk : ∀ p : Addr, p.block < B → w'.cell? p = w.cell? p) : Reads w' B size A n xs :=
  ⟨h.1, fun hn => by
    obtain ⟨ad, e, hb, hc⟩ := h.2 hn
    exact ⟨ad, e, hb, fun j u hu => (hk _ (by rw [block_of_add]; exact hb)).trans (hc j u hu)⟩⟩
theorem Reads.more (h : Reads w B size A n xs) (hB : B ≤ B') : Reads w B' size A n xs :=
  ⟨h.1, fun hn => by
    obtain ⟨ad, e, hb, hc⟩ := h.2 hn
    exact ⟨ad, e, by omega, hc⟩⟩
theorem Reads.below (h : Reads w B size A n xs) (hb : Below B w w') : Reads w' B size A n xs := h.keep fun _ hp => hb.cell hp
theorem Reads.drew (h : Reads w B size A n xs) : Reads w.drew B size A n xs := h
theorem Reads.drewN (h : Reads w B size A n xs) (k : Nat) : Reads (w.drewN k) B size A n xs := h
theorem Reads.alloc (h : Reads w B size A n xs) (hB : B ≤ w.heap.size) (o : Obj) : Reads (w.alloc o) B size A n xs := h.keep fun p hp => World.cell?_alloc_lt w o p (by omega)
theorem Reads.setCell (h : Reads w B size A n xs) {p : Addr} (hB : B ≤ p.block) (u : Value) : Reads (w.setCell p u) B size A n xs :=
  h.keep fun q hq => World.cell?_setCell_other w p q u (fun e => by subst e; omega)
theorem Reads.of_own {base : Nat} {e : TypeId} {c : Nat} (h : w.ownsRow base e size (.slice A n c) n xs) : Reads w w.heap.size size A n xs := by
  refine ⟨h.1, fun hn => ?_⟩
  obtain ⟨g, cap, hv, _, hlt⟩ := h.form hn
  have hA : A = some ⟨g, 0, none⟩ := by injection hv
  subst hA
  exact ⟨_, rfl, hlt, h.cells (g := g) rfl⟩
end
section
variable {H : Type} {enc : TypeId × Value → H} {P : Program}
theorem post_of_below {f : Func} {s : ChangeSpec} {apart fresh handsOn again : Bool} {W W' : World} {args : Array Value} {v : Value} {ds gs : List (DataW H)} {before pa pv : List MemPlace}
    (hW : DataW.Whole enc P f.params.toList s.vars apart W args.toList ds gs before)
    (hres : ∀ (b : Nat) (sp : Nat → Bool) (hd : Bool), DataW.TrodAll enc P W' b sp hd f.resultTypes.toList (v.resultList f.resultTypes.size) (s.fn H (ds ++ gs)).results [])
    (hargs : ∀ sp : Nat → Bool, (∀ p ∈ before, sp p.block = true) → DataW.TrodAll enc P W' 0 sp true f.params.toList args.toList (s.fn H (ds ++ gs)).args pa)
    (hvars : ∀ sp : Nat → Bool, (∀ p ∈ before, sp p.block = true) → DataW.TrodVars enc P W' sp s.vars (s.fn H (ds ++ gs)).vars pv)
    (hps : before = pa ++ pv) (hb : Below W.heap.size W W')
    (hok : ∀ (j : Nat) (t : TypeId) (r : Value), f.resultTypes[j]? = some t → (v.resultList f.resultTypes.size)[j]? = some r → Value.okWide P W' .any 0 t r) :
    s.post enc P f apart fresh handsOn again W args v W' := by
  have hlt : ∀ p ∈ before, p.block < W.heap.size := fun p hp => hW.lt p hp
  have hold : ∀ p ∈ before, (fun b => decide (b < W.heap.size)) p.block = true := fun p hp => by simpa using hlt p hp
  refine ⟨ds, gs, before, [], pa, pv, hW, hres _ _ _, hargs _ hold, hvars _ hold, World.keptBut_mono (fun p hp => ⟨hp, ?_⟩) (hb.frame (· ∈ before)), fun _ => ?_⟩
  · rw [hps, List.mem_append] at hp
    exact Or.inr hp
  · obtain ⟨_, _, _, _, _, hz, hn⟩ := hW
    refine ⟨hok, _, _, ([] ++ pa) ++ pv, ⟨[] ++ pa, pv, trodAll_append (hargs _ (fun _ _ => rfl)) (hres _ _ _), hvars _ (fun _ _ => rfl), rfl, ?_, ?_⟩, ?_⟩
    · intro b off hp
      have hin : MemPlace.cell b off ∈ before := by rw [hps]; simpa using hp
      rw [hb.frozen (hlt _ hin)]
      exact hz b off hin
    · intro ha
      have := hn ha
      rw [hps] at this
      simpa using this
    · intro p hp _
      rw [hps]
      simpa using hp
end
end Go.Proofs.YtdfcahdipalmkaaGreatDoor
namespace Go.Proofs.YtdfcahdipalmkaaGreatDoor
open Go.RowKit
def Blk (w : World) (g : Nat) (t : TypeId) (cs : Array Value) : Prop := w.heap[g]? = some (.cells cs t (0, 0))

section
variable {w w' : World} {g : Nat} {t : TypeId} {cs : Array Value}
theorem Blk.lt (h : Blk w g t cs) : g < w.heap.size := by
  rcases Nat.lt_or_ge g w.heap.size with hlt | hge
  · exact hlt
  · unfold Blk at h; rw [Array.getElem?_eq_none hge] at h; cases h
theorem Blk.cell (h : Blk w g t cs) (i : Nat) : w.cell? ⟨g, i, none⟩ = cs[i]? := cell_of_row w g i cs t (0, 0) h
theorem Blk.frozen (h : Blk w g t cs) (i : Nat) : w.frozen? ⟨g, i, none⟩ = false := by
  unfold Blk at h
  simp [World.frozen?, h]
theorem Blk.new (w : World) (t : TypeId) (cs : Array Value) : Blk (w.alloc (.cells cs t)) w.heap.size t cs := heap_alloc_new w _
theorem Blk.drew (h : Blk w g t cs) : Blk w.drew g t cs := h
theorem Blk.drewN (h : Blk w g t cs) (n : Nat) : Blk (w.drewN n) g t cs := h
theorem Blk.alloc (h : Blk w g t cs) (o : Obj) : Blk (w.alloc o) g t cs := (Below.heap_alloc w o g h.lt).trans h
theorem Blk.set_ (h : Blk w g t cs) (i : Nat) (u : Value) : Blk (w.setCell ⟨g, i, none⟩ u) g t (cs.setIfInBounds i u) := by
  unfold Blk at h ⊢
  simp [World.setCell, Array.getElem?_modify, h]
theorem Blk.far (h : Blk w g t cs) {p : Addr} (hp : g ≠ p.block) (u : Value) : Blk (w.setCell p u) g t cs := (Below.heap_setCell w p u g hp).trans h
theorem Blk.below {B : Nat} (h : Blk w g t cs) (hb : Below B w w') (hg : g < B) : Blk w' g t cs := (hb.block g hg).trans h
theorem Blk.grown {row : Option Nat} (h : Blk w g t cs) (hb : w.grownBy w' row) (hg : some g ≠ row) : Blk w' g t cs := (hb.block g h.lt hg).trans h
theorem Blk.ne_ {g' : Nat} {t' : TypeId} {cs' : Array Value} (h : Blk w g t cs) (h' : Blk w g' t' cs') (hne : t ≠ t') : g ≠ g' := by
  rintro rfl
  unfold Blk at h h'
  rw [h] at h'
  injection h' with h'
  injection h' with _ ht
  exact hne ht
theorem own_blk_ne {base : Nat} {e : TypeId} {size n : Nat} {v : Value} {xs : List Value} (h : w.ownsRow base e size v n xs) (hg : Blk w g t cs) (hne : e ≠ t) : v.ownBlock ≠ some g := by
  rcases h.2 with ⟨rfl, _⟩ | ⟨g', cap, cur, rfl, _, hh, _⟩
  · simp [Value.ownBlock]
  · intro he
    have : g' = g := by simpa [Value.ownBlock] using he
    subst this
    exact Blk.ne_ (t := e) hh hg hne rfl
end
theorem Blk.next {E wk : World} {g : Nat} {t : TypeId} {cs : Array Value} (h : Blk E g t cs) (hb : Below E.heap.size E wk) : Blk wk g t cs := h.below hb h.lt
theorem blk4 {w : World} {g : Nat} {t : TypeId} {a b c d : Value} (h : Blk w g t #[a, b, c, d]) :
    w.cell? ⟨g, 0, none⟩ = some a ∧ w.cell? ⟨g, 1, none⟩ = some b ∧ w.cell? ⟨g, 2, none⟩ = some c ∧ w.cell? ⟨g, 3, none⟩ = some d := ⟨h.cell 0, h.cell 1, h.cell 2, h.cell 3⟩
theorem below_next {w E wk : World} (h : Below w.heap.size w E) (hb : Below E.heap.size E wk) : Below w.heap.size w wk := h.trans (hb.mono h.size)
theorem below_al {w E : World} (h : Below w.heap.size w E) (o : Obj) : Below w.heap.size w (E.alloc o) := h.alloc h.size o
theorem below_dr {w E : World} (h : Below w.heap.size w E) (n : Nat) : Below w.heap.size w (E.drewN n) := ⟨h.os, h.tape, h.output, h.size, h.block⟩
theorem size_al (w : World) (o : Obj) : (w.alloc o).heap.size = w.heap.size + 1 := by simp
/-! Blocks of four cells, known whole, in a world of which 'Below' is known: carried over a call that makes memory. -/
theorem held1 {w W W' : World} {g0 : Nat} {t0 : TypeId} {a0 b0 c0 d0 : Value}
    (h : W.cell? ⟨g0, 0, none⟩ = some a0 ∧ W.cell? ⟨g0, 1, none⟩ = some b0 ∧ W.cell? ⟨g0, 2, none⟩ = some c0 ∧ W.cell? ⟨g0, 3, none⟩ = some d0 ∧ Below w.heap.size w W ∧ Blk W g0 t0 #[a0, b0, c0, d0]) (hb : Below W.heap.size W W') :
    W'.cell? ⟨g0, 0, none⟩ = some a0 ∧ W'.cell? ⟨g0, 1, none⟩ = some b0 ∧ W'.cell? ⟨g0, 2, none⟩ = some c0 ∧ W'.cell? ⟨g0, 3, none⟩ = some d0 ∧ Below w.heap.size w W' ∧ Blk W' g0 t0 #[a0, b0, c0, d0] := by
  obtain ⟨-, -, -, -, hB, K0⟩ := h
  have N0 := K0.next hb
  obtain ⟨p0, q0, r0, s0⟩ := blk4 N0
  exact ⟨p0, q0, r0, s0, below_next hB hb, N0⟩
theorem held2 {w W W' : World} {g0 g1 : Nat} {t0 t1 : TypeId} {a0 b0 c0 d0 a1 b1 c1 d1 : Value}
    (h : W.cell? ⟨g0, 0, none⟩ = some a0 ∧ W.cell? ⟨g0, 1, none⟩ = some b0 ∧ W.cell? ⟨g0, 2, none⟩ = some c0 ∧ W.cell? ⟨g0, 3, none⟩ = some d0 ∧ W.cell? ⟨g1, 0, none⟩ = some a1 ∧ W.cell? ⟨g1, 1, none⟩ = some b1 ∧ W.cell? ⟨g1, 2, none⟩ = some c1 ∧ W.cell? ⟨g1, 3, none⟩ = some d1 ∧ Below w.heap.size w W ∧ Blk W g0 t0 #[a0, b0, c0, d0] ∧ Blk W g1 t1 #[a1, b1, c1, d1]) (hb : Below W.heap.size W W') :
    W'.cell? ⟨g0, 0, none⟩ = some a0 ∧ W'.cell? ⟨g0, 1, none⟩ = some b0 ∧ W'.cell? ⟨g0, 2, none⟩ = some c0 ∧ W'.cell? ⟨g0, 3, none⟩ = some d0 ∧ W'.cell? ⟨g1, 0, none⟩ = some a1 ∧ W'.cell? ⟨g1, 1, none⟩ = some b1 ∧ W'.cell? ⟨g1, 2, none⟩ = some c1 ∧ W'.cell? ⟨g1, 3, none⟩ = some d1 ∧ Below w.heap.size w W' ∧ Blk W' g0 t0 #[a0, b0, c0, d0] ∧ Blk W' g1 t1 #[a1, b1, c1, d1] := by
  obtain ⟨-, -, -, -, -, -, -, -, hB, K0, K1⟩ := h
  have N0 := K0.next hb
  obtain ⟨p0, q0, r0, s0⟩ := blk4 N0
  have N1 := K1.next hb
  obtain ⟨p1, q1, r1, s1⟩ := blk4 N1
  exact ⟨p0, q0, r0, s0, p1, q1, r1, s1, below_next hB hb, N0, N1⟩
theorem held3 {w W W' : World} {g0 g1 g2 : Nat} {t0 t1 t2 : TypeId} {a0 b0 c0 d0 a1 b1 c1 d1 a2 b2 c2 d2 : Value}
    (h : W.cell? ⟨g0, 0, none⟩ = some a0 ∧ W.cell? ⟨g0, 1, none⟩ = some b0 ∧ W.cell? ⟨g0, 2, none⟩ = some c0 ∧ W.cell? ⟨g0, 3, none⟩ = some d0 ∧ W.cell? ⟨g1, 0, none⟩ = some a1 ∧ W.cell? ⟨g1, 1, none⟩ = some b1 ∧ W.cell? ⟨g1, 2, none⟩ = some c1 ∧ W.cell? ⟨g1, 3, none⟩ = some d1 ∧ W.cell? ⟨g2, 0, none⟩ = some a2 ∧ W.cell? ⟨g2, 1, none⟩ = some b2 ∧ W.cell? ⟨g2, 2, none⟩ = some c2 ∧ W.cell? ⟨g2, 3, none⟩ = some d2 ∧ Below w.heap.size w W ∧ Blk W g0 t0 #[a0, b0, c0, d0] ∧ Blk W g1 t1 #[a1, b1, c1, d1] ∧ Blk W g2 t2 #[a2, b2, c2, d2]) (hb : Below W.heap.size W W') :
    W'.cell? ⟨g0, 0, none⟩ = some a0 ∧ W'.cell? ⟨g0, 1, none⟩ = some b0 ∧ W'.cell? ⟨g0, 2, none⟩ = some c0 ∧ W'.cell? ⟨g0, 3, none⟩ = some d0 ∧ W'.cell? ⟨g1, 0, none⟩ = some a1 ∧ W'.cell? ⟨g1, 1, none⟩ = some b1 ∧ W'.cell? ⟨g1, 2, none⟩ = some c1 ∧ W'.cell? ⟨g1, 3, none⟩ = some d1 ∧ W'.cell? ⟨g2, 0, none⟩ = some a2 ∧ W'.cell? ⟨g2, 1, none⟩ = some b2 ∧ W'.cell? ⟨g2, 2, none⟩ = some c2 ∧ W'.cell? ⟨g2, 3, none⟩ = some d2 ∧ Below w.heap.size w W' ∧ Blk W' g0 t0 #[a0, b0, c0, d0] ∧ Blk W' g1 t1 #[a1, b1, c1, d1] ∧ Blk W' g2 t2 #[a2, b2, c2, d2] := by
  obtain ⟨-, -, -, -, -, -, -, -, -, -, -, -, hB, K0, K1, K2⟩ := h
  have N0 := K0.next hb
  obtain ⟨p0, q0, r0, s0⟩ := blk4 N0
  have N1 := K1.next hb
  obtain ⟨p1, q1, r1, s1⟩ := blk4 N1
  have N2 := K2.next hb
  obtain ⟨p2, q2, r2, s2⟩ := blk4 N2
  exact ⟨p0, q0, r0, s0, p1, q1, r1, s1, p2, q2, r2, s2, below_next hB hb, N0, N1, N2⟩
theorem add_one (p : Addr) (i : Nat) : p.add (i + 1) = ⟨p.block, p.off + (i + 1), none⟩ := by unfold Addr.add; rw [if_neg (by omega)]
theorem fz4 {w : World} {g : Nat} {t : TypeId} {cs : Array Value} (h : Blk w g t cs) :
    w.frozen? ⟨g, 0, none⟩ = false ∧ w.frozen? ⟨g, 1, none⟩ = false ∧ w.frozen? ⟨g, 2, none⟩ = false ∧ w.frozen? ⟨g, 3, none⟩ = false := ⟨h.frozen 0, h.frozen 1, h.frozen 2, h.frozen 3⟩
theorem below_set {w E : World} (h : Below w.heap.size w E) {p : Addr} (hp : w.heap.size ≤ p.block) (v : Value) : Below w.heap.size w (E.setCell p v) := h.setCell hp v
theorem below_set4 {w E : World} (h : Below w.heap.size w E) {g : Nat} (hg : w.heap.size ≤ g) (a b c d : Value) : Below w.heap.size w ((((E.setCell ⟨g, 0, none⟩ a).setCell ⟨g, 1, none⟩ b).setCell ⟨g, 2, none⟩ c).setCell ⟨g, 3, none⟩ d) :=
  below_set (below_set (below_set (below_set h hg a) hg b) hg c) hg d
theorem add_zero_ (g k : Nat) : (⟨g, 0, none⟩ : Addr).add k = ⟨g, k, none⟩ := by
  unfold Addr.add
  split
  · subst_vars; rfl
  · simp
end Go.Proofs.YtdfcahdipalmkaaGreatDoor
