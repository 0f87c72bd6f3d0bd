/- sheet's Decls. Conditions: the text is not too long; the tables are laid. -/
import Derived.Test.YtdfcahdipalmkaaGreatDoorShtMath2
import Derived.Test.YtdfcahdipalmkaaGreatDoorSelO
import Derived.Test.YtdfcahdipalmkaaGreatDoorValRead
import Derived.Test.YtdfcahdipalmkaaGreatDoorValHc
import Derived.Test.YtdfcahdipalmkaaGreatDoorValMayW
import Derived.Test.YtdfcahdipalmkaaGreatDoorScanWordsC
import Derived.Test.YtdfcahdipalmkaaGreatDoorScanLowC
import Derived.Test.YtdfcahdipalmkaaGreatDoorScanTrimC
import Derived.Deep.Onto
import Derived.Deep.RegionHeld3
import Derived.Deep.Cut
import Derived.Deep.CutRange
import Derived.Deep.DeepCutAuto
import Derived.Deep.RegionLaw
import Derived.Test.YtdfcahdipalmkaaGreatDoorScanStripC
/- Declarations and rules that lie in memory: those that a call has laid, and those that are read. Conditions: none. -/
namespace Go.Proofs.YtdfcahdipalmkaaGreatDoor
open Go.ChangeShapes Go.WideShapes Go.ChangeAt Go.RowKit Go.Shelf
namespace Sht
open Sel
open RowG (Row)
def dcC (d : Dcl) : List Value := [.int .i64 d.p, .int .i64 d.k, .int .i64 d.n, .bool d.s]
theorem dcC_len (d : Dcl) : (dcC d).length = 4 := rfl
theorem dcC_one (d : Dcl) : ∀ u ∈ dcC d, u.oneCell' = true := by
  intro u hu
  unfold dcC at hu
  simp only [List.mem_cons, List.not_mem_nil, or_false] at hu
  rcases hu with rfl | rfl | rfl | rfl <;> rfl
theorem info_dcl : (Tryz.prog.info? 54).map (fun i => (i.zero, i.size, i.bytes)) = some (some (.agg #[.int .i64 0, .int .i64 0, .int .i64 0, .bool false]), 4, 32) := by kernel_rfl
theorem flat_all {α : Type} {enc : α → List Value} (h : ∀ x, ∀ u ∈ enc x, u.oneCell' = true) (l : List α) : ∀ u ∈ l.flatMap enc, u.oneCell' = true := by
  intro u hu
  obtain ⟨x, -, hx⟩ := List.mem_flatMap.1 hu
  exact h x u hx
/-- Declarations that the call itself has laid. -/
def DcL (w : World) (base : Nat) (v : Value) (ds : List Dcl) : Prop := Row w base 54 4 dcC v ds
def DcR (w : World) (B : Nat) (A : Option Addr) (n : Nat) (ds : List Dcl) : Prop := ds.length = n ∧ Reads w B 4 A n (ds.flatMap dcC)
theorem DcL.reads {w : World} {base n c : Nat} {A : Option Addr} {ds : List Dcl} (h : DcL w base (.slice A n c) ds) : DcR w w.heap.size A n ds := by
  obtain ⟨h1, h2⟩ := RowG.Row.reads h
  rw [← h2] at h1
  exact ⟨h2.symm, h1⟩
theorem DcR.below {w w' : World} {B B' n : Nat} {A : Option Addr} {ds : List Dcl} (h : DcR w B A n ds) (hb : Below B w w') (hB : B ≤ B') : DcR w' B' A n ds := ⟨h.1, (Reads.below h.2 hb).more hB⟩
theorem DcR.at_ {w : World} {B n k : Nat} {A : Option Addr} {ds : List Dcl} {d : Dcl} (h : DcR w B A n ds) (hk : ds[k]? = some d) :
    ∃ ad : Addr, A = some ad ∧ ad.block < B ∧ w.cell? (ad.add (k * 4)) = some (.int .i64 d.p) ∧ w.cell? ⟨(ad.add (k * 4)).block, (ad.add (k * 4)).off + 1, none⟩ = some (.int .i64 d.k) ∧
      w.cell? ⟨(ad.add (k * 4)).block, (ad.add (k * 4)).off + 2, none⟩ = some (.int .i64 d.n) ∧ w.cell? ⟨(ad.add (k * 4)).block, (ad.add (k * 4)).off + 3, none⟩ = some (.bool d.s) := by
  have hkl := (List.getElem?_eq_some_iff.1 hk).1
  have hn := h.1
  obtain ⟨ad, e, hb, hc⟩ := h.2.2 (by omega)
  have f0 := flat_at dcC_len ds k d 0 hk (by decide)
  have f1 := flat_at dcC_len ds k d 1 hk (by decide)
  have f2 := flat_at dcC_len ds k d 2 hk (by decide)
  have f3 := flat_at dcC_len ds k d 3 hk (by decide)
  refine ⟨ad, e, hb, hc _ _ f0, ?_, ?_, ?_⟩
  · have := hc _ _ f1; rwa [← add_of_add, add_one] at this
  · have := hc _ _ f2; rwa [← add_of_add, add_one] at this
  · have := hc _ _ f3; rwa [← add_of_add, add_one] at this
/-- An append of a whole list of structs onto a row of the call's own. -/
theorem wpList_rows {α : Type} {P : Program} {w : World} {ops : Array Oper} {rest : List Oper} {o : Oper} {a : Act} {Q : Exit → Act → World → Prop} (hgd : o.guard = none) (s x : Operand) (t : TypeId)
    (ho : o.op = .call { callee := .builtin .append, args := #[s, x], argTypes := #[t, t] }) (e : TypeId) (enc : α → List Value) (k bytes : Nat) (z : Value) (hinfo : (P.info? e).map (fun i => (i.zero, i.size, i.bytes)) = some (some z, k, bytes)) (ht : P.underlying t = some (.slice e)) (hz : z.cells.size = k) (hk : 0 < k)
    (hone : ∀ x, ∀ u ∈ enc x, u.oneCell' = true) (base : Nat) (v : Value) (l news : List α) (hs : a.eval s = v) (hown : Row w base e k enc v l)
    (B : Nat) (A : Option Addr) (m c : Nat) (hx : a.eval x = .slice A m c) (hr : Reads w B k A m (news.flatMap enc)) (hm : news.length = m) (hl : l.length + m ≤ maxLen) (hbytes : (l.length + m) * bytes ≤ 140737488355328) (hbase : base ≤ w.heap.size)
    (h : ∀ v' w', Row w' base e k enc v' (l ++ news) → w.grownBy w' v.ownBlock → (v'.ownBlock = v.ownBlock ∨ v'.ownBlock = some w.heap.size) → wpList P ops Q rest (a.put o.dst v') w') : wpList P ops Q (o :: rest) a w := by
  cases hi : P.info? e with
  | none => rw [hi] at hinfo; cases hinfo
  | some i =>
    rw [hi] at hinfo
    simp only [Option.map_some, Option.some.injEq, Prod.mk.injEq] at hinfo
    refine wpList_append_any w hgd s x t ho base e i z k bytes ht hi hinfo.1 hinfo.2.1 hinfo.2.2 hz hk v l.length (l.flatMap enc) hs hown B A m c (news.flatMap enc) hx hr (flat_all hone news) hl hbytes hbase ?_
    intro v' w' h2 h3 h4
    refine h v' w' ?_ h3 h4
    unfold RowG.Row
    rw [List.length_append, List.flatMap_append, hm]
    exact h2
/-! ### rules -/
/-- What the cells of a rule hold. -/
structure RC where
  A : Option Addr
  n : Nat
  c : Nat
  K : Option Addr
  m : Nat
  d : Nat
def rcC (x : RC) : List Value := [.slice x.A x.n x.c, .slice x.K x.m x.d]
theorem rcC_len (c : RC) : (rcC c).length = 2 := rfl
theorem rcC_one (c : RC) : ∀ u ∈ rcC c, u.oneCell' = true := by
  intro u hu
  unfold rcC at hu
  simp only [List.mem_cons, List.not_mem_nil, or_false] at hu
  rcases hu with rfl | rfl <;> rfl
theorem info_rul : (Tryz.prog.info? 65).map (fun i => (i.zero, i.size, i.bytes)) = some (some (.agg #[.slice none 0 0, .slice none 0 0]), 2, 48) := by kernel_rfl
def RUm (w : World) (base : Nat) (c : RC) (r : Rul) : Prop := XsL w base (.slice c.A c.n c.c) r.sels ∧ DcL w base (.slice c.K c.m c.d) r.decls
/-- Rules that the call itself has laid. -/
def RuL (w : World) (base : Nat) (v : Value) (rs : List Rul) : Prop := ∃ cs : List RC, Row w base 65 2 rcC v cs ∧ cs.length = rs.length ∧ ∀ (i : Nat) (c : RC) (r : Rul), cs[i]? = some c → rs[i]? = some r → RUm w base c r
theorem RUm.kt {w w' : World} {base : Nat} {c : RC} {r : Rul} (h : RUm w base c r) (k0 : KT w w' 68) (k1 : KT w w' 70) (k2 : KT w w' 9) (k3 : KT w w' 4) (k4 : KT w w' 54) : RUm w' base c r := ⟨h.1.kt k0 k1 k2 k3, row_kt h.2 k4⟩
theorem RuL.kt {w w' : World} {base : Nat} {v : Value} {rs : List Rul} (h : RuL w base v rs) (k : KT w w' 65) (k0 : KT w w' 68) (k1 : KT w w' 70) (k2 : KT w w' 9) (k3 : KT w w' 4) (k4 : KT w w' 54) : RuL w' base v rs := by
  obtain ⟨cs, h1, h2, h3⟩ := h
  exact ⟨cs, row_kt h1 k, h2, fun i c x a b => (h3 i c x a b).kt k0 k1 k2 k3 k4⟩
theorem RuL.next {w w' : World} {base : Nat} {v : Value} {rs : List Rul} (h : RuL w base v rs) (hb : Below w.heap.size w w') : RuL w' base v rs := h.kt (.below hb _) (.below hb _) (.below hb _) (.below hb _) (.below hb _) (.below hb _)
theorem RuL.less {w : World} {base b : Nat} {v : Value} {rs : List Rul} (h : RuL w base v rs) (hb : b ≤ base) : RuL w b v rs := by
  obtain ⟨cs, h1, h2, h3⟩ := h
  exact ⟨cs, row_less h1 hb, h2, fun i c x a d => ⟨(h3 i c x a d).1.less hb, row_less (h3 i c x a d).2 hb⟩⟩
theorem RuL.nil (w : World) (base : Nat) : RuL w base (.slice none 0 0) [] := ⟨[], RowG.Row.nil _ _ _ _ _, rfl, fun i c p h => by simp at h⟩
theorem RuL.form {w : World} {base : Nat} {v : Value} {rs : List Rul} (h : RuL w base v rs) : ∃ A c, v = .slice A rs.length c := by
  obtain ⟨cs, h1, h2, -⟩ := h
  rw [← h2]
  exact h1.form
theorem RuL.more {w w' : World} {base : Nat} {v' : Value} {rs : List Rul} {cs : List RC} {c : RC} {r : Rul} (h3 : ∀ (i : Nat) (c : RC) (x : Rul), cs[i]? = some c → rs[i]? = some x → RUm w base c x) (h2 : cs.length = rs.length) (hrow : Row w' base 65 2 rcC v' (cs ++ [c])) (k0 : KT w w' 68) (k1 : KT w w' 70) (k2 : KT w w' 9) (k3 : KT w w' 4) (k4 : KT w w' 54) (hc : RUm w base c r) : RuL w' base v' (rs ++ [r]) := by
  refine ⟨cs ++ [c], hrow, by rw [List.length_append, List.length_append, h2]; rfl, fun i d q hd hq => ?_⟩
  by_cases hi : i < cs.length
  · rw [List.getElem?_append_left hi] at hd
    rw [List.getElem?_append_left (by omega)] at hq
    exact (h3 i d q hd hq).kt k0 k1 k2 k3 k4
  · rw [List.getElem?_append_right (by omega)] at hd hq
    by_cases e : i = cs.length
    · subst e
      rw [Nat.sub_self] at hd
      rw [h2, Nat.sub_self] at hq
      have hd : c = d := by simpa using hd
      have hq : r = q := by simpa using hq
      subst hd
      subst hq
      exact hc.kt k0 k1 k2 k3 k4
    · rw [List.getElem?_eq_none (by simp; omega)] at hd
      cases hd
/-- A rule that lies in memory. -/
def RuR (w : World) (B : Nat) (c : RC) (r : Rul) : Prop := XsR w B c.A c.n r.sels ∧ DcR w B c.K c.m r.decls
theorem RuR.below {w w' : World} {B B' : Nat} {c : RC} {r : Rul} (h : RuR w B c r) (hb : Below B w w') (hB : B ≤ B') : RuR w' B' c r := ⟨h.1.below hb hB, h.2.below hb hB⟩
theorem RUm.reads {w : World} {base : Nat} {c : RC} {r : Rul} (h : RUm w base c r) : RuR w w.heap.size c r := ⟨h.1.reads, h.2.reads⟩
/-- Rules that lie in memory. -/
def RsR (w : World) (B : Nat) (A : Option Addr) (n : Nat) (rs : List Rul) : Prop := ∃ cs : List RC, Reads w B 2 A n (cs.flatMap rcC) ∧ cs.length = rs.length ∧ ∀ (i : Nat) (c : RC) (r : Rul), cs[i]? = some c → rs[i]? = some r → RuR w B c r
theorem RsR.below {w w' : World} {B B' n : Nat} {A : Option Addr} {rs : List Rul} (h : RsR w B A n rs) (hb : Below B w w') (hB : B ≤ B') : RsR w' B' A n rs := by
  obtain ⟨cs, h1, h2, h3⟩ := h
  exact ⟨cs, (h1.below hb).more hB, h2, fun i c p a b => (h3 i c p a b).below hb hB⟩
theorem RsR.len {w : World} {B n : Nat} {A : Option Addr} {rs : List Rul} (h : RsR w B A n rs) : rs.length = n := by
  obtain ⟨cs, h1, h2, -⟩ := h
  have := h1.1
  rw [flat_len rcC_len] at this
  omega
theorem RuL.reads {w : World} {base n c : Nat} {A : Option Addr} {rs : List Rul} (h : RuL w base (.slice A n c) rs) : RsR w w.heap.size A n rs := by
  obtain ⟨cs, h1, h2, h3⟩ := h
  obtain ⟨h4, h5⟩ := h1.reads
  rw [← h5] at h4
  exact ⟨cs, h4, h2, fun i c p hc hp => (h3 i c p hc hp).reads⟩
theorem RsR.at_ {w : World} {B n k : Nat} {A : Option Addr} {rs : List Rul} {r : Rul} (h : RsR w B A n rs) (hk : rs[k]? = some r) :
    ∃ (ad : Addr) (c : RC), A = some ad ∧ ad.block < B ∧ w.cell? (ad.add (k * 2)) = some (.slice c.A c.n c.c) ∧ w.cell? ⟨(ad.add (k * 2)).block, (ad.add (k * 2)).off + 1, none⟩ = some (.slice c.K c.m c.d) ∧ RuR w B c r := by
  have hl := h.len
  obtain ⟨cs, h1, h2, h3⟩ := h
  have hkl := (List.getElem?_eq_some_iff.1 hk).1
  obtain ⟨c, hc⟩ : ∃ c, cs[k]? = some c := ⟨_, List.getElem?_eq_getElem (by omega)⟩
  obtain ⟨ad, e, hb, hcl⟩ := h1.2 (by omega)
  have f0 := flat_at rcC_len cs k c 0 hc (by decide)
  have f1 := flat_at rcC_len cs k c 1 hc (by decide)
  refine ⟨ad, c, e, hb, hcl _ _ f0, ?_, h3 k c r hc hk⟩
  have := hcl _ _ f1; rwa [← add_of_add, add_one] at this
end Sht
end Go.Proofs.YtdfcahdipalmkaaGreatDoor
/- What package sheet asks of package value. Conditions: the tables are laid. -/
namespace Go.Proofs.YtdfcahdipalmkaaGreatDoor
namespace Val
theorem may_w : MayC := may_any partsW.words_any
theorem read_w : ReadC := read_of trim_any Go.Proofs.YtdfcahdipalmkaaGreatDoor.lower_any partsW.words_any may_w
theorem print_w : PrintC := print_any partsW.words_any number_any color_any
end Val
end Go.Proofs.YtdfcahdipalmkaaGreatDoor
/- What a short name stands for, and which value each side has. Conditions: none. -/
namespace Go.Proofs.YtdfcahdipalmkaaGreatDoor
open Go.ChangeShapes Go.WideShapes Go.ChangeAt Go.RowKit Go.Shelf
namespace Sht
open Sel
open RowG (Row)
def four (a b c d : Int) : Value := .agg #[.int .i64 a, .int .i64 b, .int .i64 c, .int .i64 d]
/-- The four properties of a short name. -/
def shV (p : Int) : Value := if p = 0 then four 0 0 0 0 else four p (p + 1) (p + 2) (p + 3)
def whV (n : Nat) : Value := four (whichL n 0 : Nat) (whichL n 1 : Nat) (whichL n 2 : Nat) (whichL n 3 : Nat)
theorem idx4_0 (w : World) : (Instr.index 48 (.agg #[.int .i64 0, .int .i64 0, .int .i64 0, .int .i64 0, .int .i64 0, .int .i64 1, .int .i64 0, .int .i64 1, .int .i64 0, .int .i64 1, .int .i64 2, .int .i64 1, .int .i64 0, .int .i64 1, .int .i64 2, .int .i64 3]) (.int .i64 0)).run Tryz.prog w = .ok (.agg #[.int .i64 0, .int .i64 0, .int .i64 0, .int .i64 0]) w := by kernel_rfl
theorem idx4_1 (w : World) : (Instr.index 48 (.agg #[.int .i64 0, .int .i64 0, .int .i64 0, .int .i64 0, .int .i64 0, .int .i64 1, .int .i64 0, .int .i64 1, .int .i64 0, .int .i64 1, .int .i64 2, .int .i64 1, .int .i64 0, .int .i64 1, .int .i64 2, .int .i64 3]) (.int .i64 1)).run Tryz.prog w = .ok (.agg #[.int .i64 0, .int .i64 1, .int .i64 0, .int .i64 1]) w := by kernel_rfl
theorem idx4_2 (w : World) : (Instr.index 48 (.agg #[.int .i64 0, .int .i64 0, .int .i64 0, .int .i64 0, .int .i64 0, .int .i64 1, .int .i64 0, .int .i64 1, .int .i64 0, .int .i64 1, .int .i64 2, .int .i64 1, .int .i64 0, .int .i64 1, .int .i64 2, .int .i64 3]) (.int .i64 2)).run Tryz.prog w = .ok (.agg #[.int .i64 0, .int .i64 1, .int .i64 2, .int .i64 1]) w := by kernel_rfl
theorem idx4_3 (w : World) : (Instr.index 48 (.agg #[.int .i64 0, .int .i64 0, .int .i64 0, .int .i64 0, .int .i64 0, .int .i64 1, .int .i64 0, .int .i64 1, .int .i64 0, .int .i64 1, .int .i64 2, .int .i64 1, .int .i64 0, .int .i64 1, .int .i64 2, .int .i64 3]) (.int .i64 3)).run Tryz.prog w = .ok (.agg #[.int .i64 0, .int .i64 1, .int .i64 2, .int .i64 3]) w := by kernel_rfl
set_option maxRecDepth 100000 in
set_option maxHeartbeats 8000000 in
theorem shared_any (n : Nat) (h1 : 1 ≤ n) (h2 : n ≤ 4) (w : World) : Calls Tryz.prog 106 #[.int .i64 n] w fun e w' => e = .returned (whV n) ∧ Below w.heap.size w w' := by
  have h : n = 1 ∨ n = 2 ∨ n = 3 ∨ n = 4 := by omega
  rcases h with rfl | rfl | rfl | rfl
  · have i := idx4_0
    go_enter Tryz.func106, Tryz.ntmps106
    go_wp2
    obtain ⟨r0, r1, r2, r3⟩ := blk4 (Blk.new w 46 #[.int .i64 0, .int .i64 0, .int .i64 0, .int .i64 0])
    refine bodyPost_ret (v := four 0 0 0 0) (by simp [results, Tryz.results106, go_sem, four, r0, r1, r2, r3]) rfl ⟨rfl, ?_⟩
    exact below_al (Below.refl _ _) _
  · have i := idx4_1
    go_enter Tryz.func106, Tryz.ntmps106
    go_wp2
    obtain ⟨r0, r1, r2, r3⟩ := blk4 (Blk.new w 46 #[.int .i64 0, .int .i64 1, .int .i64 0, .int .i64 1])
    refine bodyPost_ret (v := four 0 1 0 1) (by simp [results, Tryz.results106, go_sem, four, r0, r1, r2, r3]) rfl ⟨rfl, ?_⟩
    exact below_al (Below.refl _ _) _
  · have i := idx4_2
    go_enter Tryz.func106, Tryz.ntmps106
    go_wp2
    obtain ⟨r0, r1, r2, r3⟩ := blk4 (Blk.new w 46 #[.int .i64 0, .int .i64 1, .int .i64 2, .int .i64 1])
    refine bodyPost_ret (v := four 0 1 2 1) (by simp [results, Tryz.results106, go_sem, four, r0, r1, r2, r3]) rfl ⟨rfl, ?_⟩
    exact below_al (Below.refl _ _) _
  · have i := idx4_3
    go_enter Tryz.func106, Tryz.ntmps106
    go_wp2
    obtain ⟨r0, r1, r2, r3⟩ := blk4 (Blk.new w 46 #[.int .i64 0, .int .i64 1, .int .i64 2, .int .i64 3])
    refine bodyPost_ret (v := four 0 1 2 3) (by simp [results, Tryz.results106, go_sem, four, r0, r1, r2, r3]) rfl ⟨rfl, ?_⟩
    exact below_al (Below.refl _ _) _
theorem tl_ne {l m : List UInt8} (h : ¬ l = m) : ((toB l).toList == m) = false := by
  rw [toB_toL, beq_eq_false_iff_ne]
  exact h
theorem tl_eq (l m : List UInt8) (h : l = m) : ((toB l).toList == m) = true := by
  rw [toB_toL, h]
  exact beq_self_eq_true m
set_option maxRecDepth 100000 in
set_option maxHeartbeats 8000000 in
theorem shortFor_any (l : List UInt8) (w : World) : Calls Tryz.prog 62 #[.string (toB l)] w fun e w' => e = .returned (.tuple #[shV (shortL l), .bool (!decide (shortL l = 0))]) ∧ Below w.heap.size w w' := by
  by_cases e1 : l = marginT
  · subst e1
    have y1 : ((toB marginT).toList == [109, 97, 114, 103, 105, 110]) = true := tl_eq _ _ rfl
    go_enter Tryz.func62, Tryz.ntmps62
    go_wp2
    obtain ⟨r0, r1, r2, r3⟩ := blk4 (Blk.new w 46 #[.int .i64 4, .int .i64 5, .int .i64 6, .int .i64 7])
    refine bodyPost_ret (v := .tuple #[four 4 5 6 7, .bool true]) (by simp [results, Tryz.results62, go_sem, four, r0, r1, r2, r3]) rfl ⟨rfl, ?_⟩
    exact below_al (Below.refl _ _) _
  · have n1 : ((toB l).toList == [109, 97, 114, 103, 105, 110]) = false := tl_ne e1
    by_cases e2 : l = paddingT
    · subst e2
      have y2 : ((toB paddingT).toList == [112, 97, 100, 100, 105, 110, 103]) = true := tl_eq _ _ rfl
      go_enter Tryz.func62, Tryz.ntmps62
      go_wp2
      obtain ⟨r0, r1, r2, r3⟩ := blk4 (Blk.new w 46 #[.int .i64 8, .int .i64 9, .int .i64 10, .int .i64 11])
      refine bodyPost_ret (v := .tuple #[four 8 9 10 11, .bool true]) (by simp [results, Tryz.results62, go_sem, four, r0, r1, r2, r3]) rfl ⟨rfl, ?_⟩
      exact below_al (Below.refl _ _) _
    · have n2 : ((toB l).toList == [112, 97, 100, 100, 105, 110, 103]) = false := tl_ne e2
      by_cases e3 : l = borderT
      · subst e3
        have y3 : ((toB borderT).toList == [98, 111, 114, 100, 101, 114, 45, 119, 105, 100, 116, 104]) = true := tl_eq _ _ rfl
        go_enter Tryz.func62, Tryz.ntmps62
        go_wp2
        obtain ⟨r0, r1, r2, r3⟩ := blk4 (Blk.new w 46 #[.int .i64 12, .int .i64 13, .int .i64 14, .int .i64 15])
        refine bodyPost_ret (v := .tuple #[four 12 13 14 15, .bool true]) (by simp [results, Tryz.results62, go_sem, four, r0, r1, r2, r3]) rfl ⟨rfl, ?_⟩
        exact below_al (Below.refl _ _) _
      · have n3 : ((toB l).toList == [98, 111, 114, 100, 101, 114, 45, 119, 105, 100, 116, 104]) = false := tl_ne e3
        have hS : shortL l = 0 := by unfold shortL; rw [if_neg e1, if_neg e2, if_neg e3]
        rw [hS]
        clear e1 e2 e3 hS
        go_enter Tryz.func62, Tryz.ntmps62
        go_wp2
        obtain ⟨r0, r1, r2, r3⟩ := blk4 (Blk.new w 46 #[.int .i64 0, .int .i64 0, .int .i64 0, .int .i64 0])
        refine bodyPost_ret (v := .tuple #[four 0 0 0 0, .bool false]) (by simp [results, Tryz.results62, go_sem, four, r0, r1, r2, r3]) rfl ⟨rfl, ?_⟩
        exact below_al (Below.refl _ _) _
end Sht
end Go.Proofs.YtdfcahdipalmkaaGreatDoor
/- readSides and readDecls. Conditions: texts are not too long; the tables are laid. -/
namespace Go.Proofs.YtdfcahdipalmkaaGreatDoor
open Go.ChangeShapes Go.WideShapes Go.ChangeAt Go.RowKit Go.Shelf
namespace Sht
open Sel
open RowG (Row)
/-- The k-th cell of four. -/
theorem four_at {w : World} {g : Nat} {t : TypeId} {a b c d : Int} (h : Blk w g t #[.int .i64 a, .int .i64 b, .int .i64 c, .int .i64 d]) (k : Nat) (f : Nat → Int) (hf : f 0 = a ∧ f 1 = b ∧ f 2 = c ∧ f 3 = d) (hk : k < 4) : w.cell? ⟨g, k, none⟩ = some (.int .i64 (f k)) := by
  obtain ⟨x0, x1, x2, x3⟩ := blk4 h
  obtain ⟨f0, f1, f2, f3⟩ := hf
  have : k = 0 ∨ k = 1 ∨ k = 2 ∨ k = 3 := by omega
  rcases this with rfl | rfl | rfl | rfl
  · rw [f0]; exact x0
  · rw [f1]; exact x1
  · rw [f2]; exact x2
  · rw [f3]; exact x3
set_option maxRecDepth 100000 in
set_option maxHeartbeats 16000000 in
theorem readSides_any (p : Int) (_hp : p = 4 ∨ p = 8 ∨ p = 12) (A : Option Addr) (n c : Nat) (ws : List (List UInt8)) (s : Bool) (hn : n ≤ 1000000) (hl : ∀ x ∈ ws, x.length ≤ 1000000) (w : World) (hT : Val.Tabs w) (hr : Reads w w.heap.size 1 A n (ws.flatMap txC)) :
    Calls Tryz.prog 63 #[four p (p + 1) (p + 2) (p + 3), .slice A n c, .bool s] w fun e w' => (∃ v, e = .returned v ∧ DcL w' w.heap.size v (sidesF p ws s)) ∧ Below w.heap.size w w' := by
  have hlen : ws.length = n := by have := hr.1; rw [flat_len txC_len] at this; omega
  have hB := below_al (Below.refl w.heap.size w) (.cells #[.int .i64 p, .int .i64 (p + 1), .int .i64 (p + 2), .int .i64 (p + 3)] 46)
  unfold four
  by_cases g1 : 1 ≤ n ∧ n ≤ 4
  · obtain ⟨R, hR⟩ : ∃ R, R = sidesF p ws s := ⟨_, rfl⟩
    rw [← hR]
    rw [sidesF, if_pos (by omega)] at hR
    have HR := Lib.hid hR
    have HL := Lib.hid hlen
    have HTL := Lib.hid hl
    clear hR hlen hl
    have cs := shared_any n g1.1 g1.2 (w.alloc (.cells #[.int .i64 p, .int .i64 (p + 1), .int .i64 (p + 2), .int .i64 (p + 3)] 46))
    unfold whV four at cs
    have K3 := Blk.new w 46 #[.int .i64 p, .int .i64 (p + 1), .int .i64 (p + 2), .int .i64 (p + 3)]
    have g2 : ¬ ((n : Int) < 1) := by omega
    have g3 : ¬ (4 < (n : Int)) := by omega
    go_enter Tryz.func63, Tryz.ntmps63
    go_wp2_with (go_at_call 106; (with_reducible refine cs.mono ?_); rintro e w1 ⟨rfl, hb1⟩)
    have hB1 := below_next hB hb1
    have KA := (K3.next hb1).alloc (.cells #[.int .i64 (whichL n 0 : Nat), .int .i64 (whichL n 1 : Nat), .int .i64 (whichL n 2 : Nat), .int .i64 (whichL n 3 : Nat)] 46)
    have KW := Blk.new w1 46 #[.int .i64 (whichL n 0 : Nat), .int .i64 (whichL n 1 : Nat), .int .i64 (whichL n 2 : Nat), .int .i64 (whichL n 3 : Nat)]
    have hBA := below_al hB1 (.cells #[.int .i64 (whichL n 0 : Nat), .int .i64 (whichL n 1 : Nat), .int .i64 (whichL n 2 : Nat), .int .i64 (whichL n 3 : Nat)] 46)
    have hTA := hT.at_ hBA
    have hrA := (hr.below hBA).more hBA.size
    have zA := KA.lt
    have zW := KW.lt
    clear hr hT hb1 K3 hB hB1 cs
    generalize w1.heap.size = g7 at *
    generalize (w1.alloc (.cells #[.int .i64 (whichL n 0 : Nat), .int .i64 (whichL n 1 : Nat), .int .i64 (whichL n 2 : Nat), .int .i64 (whichL n 3 : Nat)] 46)) = wA at *
    go_loopw [8, 23] (fun vp iv wr => ∃ (k : Nat) (ds : List Dcl), k ≤ 4 ∧ iv = .int .i64 k ∧ Hid (sideGo p ws s k = some ds) ∧ Hid (ds.length = k) ∧ DcL wr wA.heap.size vp ds ∧ Below wA.heap.size wA wr) (fun _ iv _ => 4 - (intOf iv).toNat)
    case atStart => exact ⟨0, [], by omega, rfl, rfl, rfl, RowG.Row.nil _ _ _ _ _, Below.refl _ _⟩
    case round =>
      obtain ⟨k, ds, hk, rfl, HA, HD, hP, hB1⟩ := hrel
      have hBr := below_next hBA hB1
      by_cases hlt : k < 4
      · obtain ⟨j, hj⟩ : ∃ j, whichL n k = j := ⟨_, rfl⟩
        have hjn : j < n := by rw [← hj]; exact which_lt g1.1 g1.2 hlt
        obtain ⟨t, htk⟩ : ∃ t, ws[j]? = some t := ⟨_, List.getElem?_eq_getElem (by rw [HL.out]; exact hjn)⟩
        have htl : t.length ≤ 1000000 := HTL.out t (List.mem_of_getElem? htk)
        have e3 := four_at (KA.below hB1 zA) k (fun k => p + (k : Int)) ⟨by simp, rfl, rfl, rfl⟩ hlt
        have e7 := four_at (KW.below hB1 zW) k (fun k => ((whichL n k : Nat) : Int)) ⟨rfl, rfl, rfl, rfl⟩ hlt
        simp only [hj] at e3 e7
        obtain ⟨ad, hAd, zd, e0⟩ := tx_of (hrA.below hB1) htk
        subst hAd
        have cr := fun w0 (hS : Below wr.heap.size wr w0) => Val.read_w (p + k) (toB t) w0 (by rw [toB_size]; unfold mostB; omega) (hTA.at_ (below_next hB1 hS))
        have hT1 : Hid (sideGo p ws s (k + 1) = match readF (p + k) t with | none => none | some v => some (ds ++ [⟨p + k, v.1, v.2, s⟩])) := by
          show _ = _
          rw [sideGo, HA.out]
          simp only
          rw [HL.out, hj, List.getD_eq_getElem?_getD, htk]
          rfl
        have hki : (k : Int) < 4 := by omega
        have hki0 : (0 : Int) ≤ (k : Int) := Int.natCast_nonneg _
        have hji : (j : Int) < (n : Int) := by omega
        have hji0 : (0 : Int) ≤ (j : Int) := Int.natCast_nonneg _
        have z1 : w.heap.size < wr.heap.size := by have := hB1.size; omega
        have z2 : g7 < wr.heap.size := by have := hB1.size; omega
        have z3 : ad.block < wr.heap.size := by have := hB1.size; omega
        rw [show (toB t).data.toList = t from rfl] at cr
        obtain ⟨q, hq⟩ : ∃ q, p + (k : Int) = q := ⟨_, rfl⟩
        rw [hq] at hT1 e3
        rw [hq] at cr
        clear HA htk hj
        cases hs : readF q t with
        | none =>
          rw [hs] at cr hT1
          simp only [vO, vV, Option.isSome] at cr
          obtain rfl : R = [] := by rw [HR.out]; have h4 := sideGo_none hT1.out (4 - (k + 1)); rw [show k + 1 + (4 - (k + 1)) = 4 by omega] at h4; rw [h4]; rfl
          clear HR hT1 hs
          have kS : ∀ W', Below wr.heap.size wr W' → W'.cell? ⟨w.heap.size, k, none⟩ = some (.int .i64 q) ∧ W'.cell? ⟨g7, k, none⟩ = some (.int .i64 j) ∧ W'.cell? (ad.add j) = some (.string (toB t)) := fun W' h => ⟨(h.cell (p := ⟨w.heap.size, k, none⟩) z1).trans e3, (h.cell (p := ⟨g7, k, none⟩) z2).trans e7, (h.cell (p := ad.add j) (by rw [block_of_add]; exact z3)).trans e0⟩
          go_upto_region 8 with (fail)
          go_cut [10, 11] from 26 to 38 (fun s10 s11 wx => ∃ gb : Nat, s10 = .pointer (some ⟨gb, 0, none⟩) ∧ s11 = .bool false ∧ Below wr.heap.size wr wx ∧ wr.heap.size ≤ gb ∧ Blk wx gb 52 #[.int .i64 0, .int .i64 0])
          case first =>
            have QA : Blk ((wr.alloc (.cells #[.int .i64 0, .int .i64 0] 52)).drew) wr.heap.size 52 #[.int .i64 0, .int .i64 0] := (Blk.new wr _ _).drew
            go_region_held3 (fun W' => W'.cell? ⟨w.heap.size, k, none⟩ = some (.int .i64 q) ∧ W'.cell? ⟨g7, k, none⟩ = some (.int .i64 j) ∧ W'.cell? (ad.add j) = some (.string (toB t)))
              (first | (with_reducible assumption) | (refine kS _ ?_; repeat (first | (with_reducible assumption) | (with_reducible exact Below.refl _ _) | (with_reducible refine Below.drew ?_) | (with_reducible refine below_al ?_ _) | (with_reducible refine below_set2 ?_ (by omega) _ _))))
              (first
                | (go_at_call 66; (with_reducible refine (cr wr.drew (Below.refl _ _).drew).mono ?_); rintro e w4 ⟨rfl, hb4⟩
                   have S4 := below_next (Below.refl _ wr).drew hb4
                   have e4 := S4.size)
                | (go_at_call 66; (with_reducible refine (cr ((wr.alloc (.cells #[.int .i64 0, .int .i64 0] 52)).drew) (below_al (Below.refl _ _) _).drew).mono ?_); rintro e w4 ⟨rfl, hb4⟩
                   have S4 := below_next (below_al (Below.refl _ wr) (.cells #[.int .i64 0, .int .i64 0] 52)).drew hb4
                   have e4 := S4.size
                   have Q4 := QA.next hb4
                   obtain ⟨q0, q1⟩ := blk2 Q4
                   obtain ⟨f0, f1⟩ := fz2 Q4))
            all_goals (go_wp2_with (fail); go_meet)
            all_goals first
              | exact ⟨w4.heap.size, rfl, rfl, below_al S4 _, e4, Blk.new _ _ _⟩
              | exact ⟨wr.heap.size, rfl, rfl, below_set2 S4 (Nat.le_refl _) _ _, Nat.le_refl _, blk_set2 Q4 _ _⟩
          case rest =>
            obtain ⟨gb, rfl, rfl, hbx, hgb, hBlk⟩ := hcut
            go_wp2
            exact bodyPost_ret (v := .slice none 0 0) (by simp [results, Tryz.results63, go_sem]) rfl ⟨⟨_, rfl, RowG.Row.nil _ _ _ _ _⟩, below_next hBr hbx⟩
        | some v =>
          obtain ⟨a, b⟩ := v
          rw [hs] at cr hT1
          simp only [vO, vV, Option.isSome] at cr
          simp only at hT1
          clear hs
          have kS : ∀ W', Below wr.heap.size wr W' → W'.cell? ⟨w.heap.size, k, none⟩ = some (.int .i64 q) ∧ W'.cell? ⟨g7, k, none⟩ = some (.int .i64 j) ∧ W'.cell? (ad.add j) = some (.string (toB t)) := fun W' h => ⟨(h.cell (p := ⟨w.heap.size, k, none⟩) z1).trans e3, (h.cell (p := ⟨g7, k, none⟩) z2).trans e7, (h.cell (p := ad.add j) (by rw [block_of_add]; exact z3)).trans e0⟩
          go_upto_region 8 with (fail)
          go_cut [10, 11] from 26 to 38 (fun s10 s11 wx => ∃ gb : Nat, s10 = .pointer (some ⟨gb, 0, none⟩) ∧ s11 = .bool true ∧ Below wr.heap.size wr wx ∧ wr.heap.size ≤ gb ∧ Blk wx gb 52 #[.int .i64 a, .int .i64 b])
          case first =>
            have QA : Blk ((wr.alloc (.cells #[.int .i64 0, .int .i64 0] 52)).drew) wr.heap.size 52 #[.int .i64 0, .int .i64 0] := (Blk.new wr _ _).drew
            go_region_held3 (fun W' => W'.cell? ⟨w.heap.size, k, none⟩ = some (.int .i64 q) ∧ W'.cell? ⟨g7, k, none⟩ = some (.int .i64 j) ∧ W'.cell? (ad.add j) = some (.string (toB t)))
              (first | (with_reducible assumption) | (refine kS _ ?_; repeat (first | (with_reducible assumption) | (with_reducible exact Below.refl _ _) | (with_reducible refine Below.drew ?_) | (with_reducible refine below_al ?_ _) | (with_reducible refine below_set2 ?_ (by omega) _ _))))
              (first
                | (go_at_call 66; (with_reducible refine (cr wr.drew (Below.refl _ _).drew).mono ?_); rintro e w4 ⟨rfl, hb4⟩
                   have S4 := below_next (Below.refl _ wr).drew hb4
                   have e4 := S4.size)
                | (go_at_call 66; (with_reducible refine (cr ((wr.alloc (.cells #[.int .i64 0, .int .i64 0] 52)).drew) (below_al (Below.refl _ _) _).drew).mono ?_); rintro e w4 ⟨rfl, hb4⟩
                   have S4 := below_next (below_al (Below.refl _ wr) (.cells #[.int .i64 0, .int .i64 0] 52)).drew hb4
                   have e4 := S4.size
                   have Q4 := QA.next hb4
                   obtain ⟨q0, q1⟩ := blk2 Q4
                   obtain ⟨f0, f1⟩ := fz2 Q4))
            all_goals (go_wp2_with (fail); go_meet)
            all_goals first
              | exact ⟨w4.heap.size, rfl, rfl, below_al S4 _, e4, Blk.new _ _ _⟩
              | exact ⟨wr.heap.size, rfl, rfl, below_set2 S4 (Nat.le_refl _) _ _, Nat.le_refl _, blk_set2 Q4 _ _⟩
          case rest =>
            obtain ⟨gb, rfl, rfl, hbx, hgb, hBlk⟩ := hcut
            obtain ⟨q0, q1⟩ := blk2 hBlk
            have x3 := (hbx.cell (p := ⟨w.heap.size, k, none⟩) z1).trans e3
            have hgl := hBlk.lt
            have hPx := RowG.Row.below hP hbx
            have hBx := below_next hB1 hbx
            obtain ⟨Ap, cp, hvp⟩ := RowG.Row.form hPx
            rw [HD.out] at hvp
            subst hvp
            clear e3 e7 e0 kS cr
            go_upto_region 11 with (fail)
            go_region_law (refine RowG.step_more (w := (wc.alloc (.cells #[.int .i64 q, .int .i64 a, .int .i64 b, .bool s] 54)).drew) (by rfl) (.tmp 41) (.tmp 48) 36 (by rfl) 54 dcC 4 32 _ info_dcl Tryz.underlying36 rfl (by decide) dcC_len dcC_one wA.heap.size _ ds ⟨q, a, b, s⟩ (by rfl) wc.heap.size _ (by rfl) (hPx.alloc _).drew (RowG.new_cells wc 54 (dcC ⟨q, a, b, s⟩)) (by rw [HD.out]; simp only [maxLen]; omega) (by rw [HD.out]; omega) (below_al hBx _).size ?_; intro v7 w7 hrow7 hg7 ho7)
            all_goals
              have hB7 := (below_al hBx (.cells #[.int .i64 q, .int .i64 a, .int .i64 b, .bool s] 54)).drew.grown hg7 (below_al hBx _).size (fun j hj => (World.ownsRow.lt hPx j hj).1)
              go_wp2
              go_roundw
              case rel => exact ⟨k + 1, ds ++ [Dcl.mk q a b s], by omega, by go_num, hT1, by show _ = _; rw [List.length_append, HD.out]; rfl, hrow7, hB7⟩
              case measure => simp [intOf]; omega
      · obtain rfl : k = 4 := by omega
        obtain rfl : R = ds := by rw [HR.out, HA.out]; rfl
        obtain ⟨Ap, cp, hvp⟩ := RowG.Row.form hP
        subst hvp
        go_wp2
        exact bodyPost_ret (v := .slice Ap R.length cp) (by simp [results, Tryz.results63, go_sem]) rfl ⟨⟨_, rfl, row_less hP hBA.size⟩, hBr⟩
  · have hR : sidesF p ws s = [] := by unfold sidesF; rw [if_neg (by omega)]
    rw [hR]
    by_cases g2 : n < 1
    · go_enter Tryz.func63, Tryz.ntmps63
      go_wp2
      exact bodyPost_ret (v := .slice none 0 0) (by simp [results, Tryz.results63, go_sem]) rfl ⟨⟨_, rfl, RowG.Row.nil _ _ _ _ _⟩, hB⟩
    · have g3 : 4 < (n : Int) := by omega
      have g4 : ¬ (n : Int) < 1 := by omega
      go_enter Tryz.func63, Tryz.ntmps63
      go_wp2
      exact bodyPost_ret (v := .slice none 0 0) (by simp [results, Tryz.results63, go_sem]) rfl ⟨⟨_, rfl, RowG.Row.nil _ _ _ _ _⟩, hB⟩
end Sht
end Go.Proofs.YtdfcahdipalmkaaGreatDoor
/- readDecls. Conditions: the text is not too long; the tables are laid. -/
namespace Go.Proofs.YtdfcahdipalmkaaGreatDoor
open Go.ChangeShapes Go.WideShapes Go.ChangeAt Go.RowKit Go.Shelf
namespace Sht
open Sel
open RowG (Row)
theorem strongL_is (l : List UInt8) : strongL l = (Lib.trimSuffix l strongT, Lib.hasSuffix l strongT) := by
  unfold strongL
  rw [Val.cutEnd_is]
  cases h : Lib.hasSuffix l strongT with
  | true => rfl
  | false =>
    rw [if_neg (by decide)]
    unfold Lib.trimSuffix
    rw [h]
    rfl
theorem strongL_len (l : List UInt8) : (strongL l).1.length ≤ l.length := by
  rw [strongL_is]
  exact Lib.trimSuffix_le _ _
theorem words_len (l : List UInt8) : ∀ x ∈ wordsF l, x.length ≤ l.length := by
  intro x hx
  unfold wordsF at hx
  exact (parts_small isBlank l).2 x (List.mem_filter.1 hx).1
theorem words_many (l : List UInt8) : (wordsF l).length ≤ l.length + 1 := by
  unfold wordsF
  exact Nat.le_trans (List.length_filter_le _ _) (parts_small isBlank l).1
theorem dcl_one (w : World) {base : Nat} (hb : base ≤ w.heap.size) (p k n : Int) (s : Bool) : DcL (w.alloc (.cells #[.int .i64 p, .int .i64 k, .int .i64 n, .bool s] 54)) base (.slice (some ⟨w.heap.size, 0, none⟩) 1 1) [⟨p, k, n, s⟩] :=
  ⟨rfl, Or.inr ⟨w.heap.size, 1, #[.int .i64 p, .int .i64 k, .int .i64 n, .bool s], rfl, hb, Blk.new w _ _, Nat.le_refl _, by decide, rfl, rfl⟩⟩
set_option maxRecDepth 100000 in
set_option maxHeartbeats 16000000 in
theorem readDecls_any (l : List UInt8) (hl : l.length ≤ 100000) (w : World) (hT : Val.Tabs w) :
    Calls Tryz.prog 32 #[.string (toB l)] w fun e w' => (∃ v, e = .returned v ∧ DcL w' w.heap.size v (declF l)) ∧ Below w.heap.size w w' := by
  have c1 := ccut_any (toB l) ⟨#[58]⟩ w hT.len (by rw [toB_size]; unfold mostB; omega)
  change Calls _ _ #[.string (toB l), .string ⟨#[58]⟩] w (fun e w' => e = .returned (.tuple #[.string (toB (Lib.cut l [58]).1), .string (toB (Lib.cut l [58]).2.1), .bool (Lib.cut l [58]).2.2]) ∧ ∃ q, w.drewN q = w') at c1
  have hcl := cut_len l [58]
  obtain ⟨R, hR⟩ : ∃ R, R = declF l := ⟨_, rfl⟩
  rw [← hR]
  unfold declF at hR
  generalize Lib.cut l [58] = ct at *
  obtain ⟨hd, bh, is⟩ := ct
  simp only at hcl hR c1
  cases is with
  | false =>
    rw [if_neg (by decide)] at hR
    subst hR
    go_enter Tryz.func32, Tryz.ntmps32
    go_wp2_with (go_at_call 50; (with_reducible refine c1.mono ?_); rintro e w1 ⟨rfl, q, rfl⟩)
    exact bodyPost_ret (v := .slice none 0 0) (by simp [results, Tryz.results32, go_sem]) rfl ⟨⟨_, rfl, RowG.Row.nil _ _ _ _ _⟩, below_dr (Below.refl _ _) _⟩
  | true =>
    rw [if_pos rfl] at hR
    have hq1 : (lowL (trimL hd)).length ≤ 100000 := by rw [low_len]; have := trim_len hd; omega
    have hq2 : (lowL (trimL bh)).length ≤ 100000 := by rw [low_len]; have := trim_len bh; omega
    have t1 := fun w => trim_any (toB hd) w (by rw [toB_size]; unfold mostB; omega)
    have t2 := fun w => trim_any (toB bh) w (by rw [toB_size]; unfold mostB; omega)
    have l1 := fun w => Go.Proofs.YtdfcahdipalmkaaGreatDoor.lower_any (toB (trimL hd)) w (by rw [toB_size]; have := trim_len hd; unfold mostB; omega)
    have l2 := fun w => Go.Proofs.YtdfcahdipalmkaaGreatDoor.lower_any (toB (trimL bh)) w (by rw [toB_size]; have := trim_len bh; unfold mostB; omega)
    change ∀ w, Calls Tryz.prog 59 #[.string (toB hd)] w (fun e w' => e = .returned (.string (toB (trimL hd))) ∧ Below w.heap.size w w') at t1
    change ∀ w, Calls Tryz.prog 59 #[.string (toB bh)] w (fun e w' => e = .returned (.string (toB (trimL bh))) ∧ Below w.heap.size w w') at t2
    change ∀ w, Calls Tryz.prog 60 #[.string (toB (trimL hd))] w (fun e w' => e = .returned (.string (toB (lowL (trimL hd)))) ∧ Below w.heap.size w w') at l1
    change ∀ w, Calls Tryz.prog 60 #[.string (toB (trimL bh))] w (fun e w' => e = .returned (.string (toB (lowL (trimL bh)))) ∧ Below w.heap.size w w') at l2
    generalize lowL (trimL hd) = nm at *
    generalize lowL (trimL bh) = tx at *
    generalize trimL hd = th at *
    generalize trimL bh = tb at *
    have cS := fun w => Tryz.strings_CutSuffix (toB tx) ⟨#[33, 105, 109, 112, 111, 114, 116, 97, 110, 116]⟩ w (by rw [toB_size]; omega)
    have hsx := strongL_len tx
    unfold textD at hR
    rw [strongL_is] at hR hsx
    change ∀ w, Calls Tryz.prog 61 #[.string (toB tx), .string ⟨#[33, 105, 109, 112, 111, 114, 116, 97, 110, 116]⟩] w (fun e w' => e = .returned (.tuple #[.string (toB (Lib.trimSuffix tx strongT)), .bool (Lib.hasSuffix tx strongT)]) ∧ w' = w) at cS
    generalize Lib.trimSuffix tx strongT = sx at *
    generalize Lib.hasSuffix tx strongT = sb at *
    simp only at hsx
    have cF := fun w => shortFor_any nm w
    by_cases h0 : shortL nm = 0
    · rw [if_pos h0] at hR
      rw [h0] at cF
      unfold shV four at cF
      rw [if_pos rfl] at cF
      cases hv : readF (propP nm) sx with
      | none =>
        rw [hv] at hR
        subst hR
        have cP := fun w => Val.prop_any (toB nm) w (by rw [toB_size]; unfold mostB; omega)
        have cR := fun w hT => Val.read_w (propP nm) (toB sx) w (by rw [toB_size]; unfold mostB; omega) hT
        change ∀ w, Calls Tryz.prog 65 #[.string (toB nm)] w (fun e w' => e = .returned (.int .i64 (propP nm)) ∧ Below w.heap.size w w') at cP
        rw [show (toB sx).data.toList = sx from rfl, hv] at cR
        simp only [vO, vV, Option.isSome] at cR
        generalize propP nm = pn at *
        clear hv h0
        go_enter Tryz.func32, Tryz.ntmps32
        go_wp2_with (first
          | (go_at_call 50; (with_reducible refine c1.mono ?_); rintro e w1 ⟨rfl, q, rfl⟩
             have hB := below_dr (Below.refl w.heap.size w) q)
          | (go_at_call 59; (with_reducible refine (t1 _).mono ?_); rintro e w2 ⟨rfl, hb2⟩
             replace hB := below_next hB hb2)
          | (go_at_call 60; (with_reducible refine (l1 _).mono ?_); rintro e w3 ⟨rfl, hb3⟩
             replace hB := below_next hB hb3)
          | (go_at_call 59; (with_reducible refine (t2 _).mono ?_); rintro e w4 ⟨rfl, hb4⟩
             replace hB := below_next hB hb4)
          | (go_at_call 60; (with_reducible refine (l2 _).mono ?_); rintro e w5 ⟨rfl, hb5⟩
             replace hB := below_next hB hb5)
          | (go_at_call 61; (with_reducible refine (cS _).mono ?_); rintro e w6 ⟨rfl, rfl⟩)
          | (go_at_call 62; (with_reducible refine (cF _).mono ?_); rintro e w7 ⟨rfl, hb7⟩
             replace hB := below_al (below_next hB hb7) (.cells #[.int .i64 0, .int .i64 0, .int .i64 0, .int .i64 0] 46))
          | (go_at_call 65; (with_reducible refine (cP _).mono ?_); rintro e w8 ⟨rfl, hb8⟩
             replace hB := below_next hB hb8)
          | (go_at_call 66; (with_reducible refine (cR _ (hT.at_ hB)).mono ?_); rintro e w9 ⟨rfl, hb9⟩
             replace hB := below_next hB hb9))
        exact bodyPost_ret (v := .slice none 0 0) (by simp [results, Tryz.results32, go_sem]) rfl ⟨⟨_, rfl, RowG.Row.nil _ _ _ _ _⟩, below_al hB _⟩
      | some v =>
        obtain ⟨a, b⟩ := v
        rw [hv] at hR
        simp only at hR
        subst hR
        have cP := fun w => Val.prop_any (toB nm) w (by rw [toB_size]; unfold mostB; omega)
        have cR := fun w hT => Val.read_w (propP nm) (toB sx) w (by rw [toB_size]; unfold mostB; omega) hT
        change ∀ w, Calls Tryz.prog 65 #[.string (toB nm)] w (fun e w' => e = .returned (.int .i64 (propP nm)) ∧ Below w.heap.size w w') at cP
        rw [show (toB sx).data.toList = sx from rfl, hv] at cR
        simp only [vO, vV, Option.isSome] at cR
        generalize propP nm = pn at *
        clear hv h0
        go_enter Tryz.func32, Tryz.ntmps32
        go_wp2_with (first
          | (go_at_call 50; (with_reducible refine c1.mono ?_); rintro e w1 ⟨rfl, q, rfl⟩
             have hB := below_dr (Below.refl w.heap.size w) q)
          | (go_at_call 59; (with_reducible refine (t1 _).mono ?_); rintro e w2 ⟨rfl, hb2⟩
             replace hB := below_next hB hb2)
          | (go_at_call 60; (with_reducible refine (l1 _).mono ?_); rintro e w3 ⟨rfl, hb3⟩
             replace hB := below_next hB hb3)
          | (go_at_call 59; (with_reducible refine (t2 _).mono ?_); rintro e w4 ⟨rfl, hb4⟩
             replace hB := below_next hB hb4)
          | (go_at_call 60; (with_reducible refine (l2 _).mono ?_); rintro e w5 ⟨rfl, hb5⟩
             replace hB := below_next hB hb5)
          | (go_at_call 61; (with_reducible refine (cS _).mono ?_); rintro e w6 ⟨rfl, rfl⟩)
          | (go_at_call 62; (with_reducible refine (cF _).mono ?_); rintro e w7 ⟨rfl, hb7⟩
             replace hB := below_al (below_next hB hb7) (.cells #[.int .i64 0, .int .i64 0, .int .i64 0, .int .i64 0] 46))
          | (go_at_call 65; (with_reducible refine (cP _).mono ?_); rintro e w8 ⟨rfl, hb8⟩
             replace hB := below_next hB hb8)
          | (go_at_call 66; (with_reducible refine (cR _ (hT.at_ hB)).mono ?_); rintro e w9 ⟨rfl, hb9⟩
             replace hB := below_next hB hb9))
        exact bodyPost_ret (v := .slice (some ⟨w9.heap.size + 1, 0, none⟩) 1 1) (by simp [results, Tryz.results32, go_sem]) rfl ⟨⟨_, rfl, by
          have := dcl_one (w9.alloc (.cells #[.int .i64 a, .int .i64 b] 52)) (base := w.heap.size) (by rw [size_al]; have := hB.size; omega) pn a b sb
          rw [size_al] at this
          exact this⟩, below_al (below_al hB _) _⟩
    · rw [if_neg h0] at hR
      obtain ⟨p, hp⟩ : ∃ p, shortL nm = p := ⟨_, rfl⟩
      have hpc := short_cases nm
      rw [hp] at cF hR h0 hpc
      have hpc : p = 4 ∨ p = 8 ∨ p = 12 := by omega
      unfold shV at cF
      rw [if_neg h0, decide_eq_false h0] at cF
      unfold four at cF
      simp only [Bool.not_false] at cF
      subst hR
      have hw1 := words_len sx
      have hw2 := words_many sx
      have cW := fun w => partsW.words_any (toB sx) w (by rw [toB_size]; unfold mostB; omega)
      rw [show (toB sx).data.toList = sx from rfl, strs_flat] at cW
      have cR := fun A n c hn => readSides_any p hpc A n c (wordsF sx) sb hn (fun x hx => by have := hw1 x hx; omega)
      unfold four at cR
      have hwn : ∀ (W : World) (A : Option Addr) (n : Nat), Reads W W.heap.size 1 A n ((wordsF sx).flatMap txC) → n ≤ 1000000 := by
        intro W A n h
        have := h.1
        rw [flat_len txC_len] at this
        omega
      generalize sidesF p (wordsF sx) sb = R at *
      generalize wordsF sx = ws at *
      clear hp hw1 hw2 h0 hpc
      go_enter Tryz.func32, Tryz.ntmps32
      go_upto_region 8 with (first
        | (go_at_call 50; (with_reducible refine c1.mono ?_); rintro e w1 ⟨rfl, q, rfl⟩
           have hB := below_dr (Below.refl w.heap.size w) q)
        | (go_at_call 59; (with_reducible refine (t1 _).mono ?_); rintro e w2 ⟨rfl, hb2⟩
           replace hB := below_next hB hb2)
        | (go_at_call 60; (with_reducible refine (l1 _).mono ?_); rintro e w3 ⟨rfl, hb3⟩
           replace hB := below_next hB hb3)
        | (go_at_call 59; (with_reducible refine (t2 _).mono ?_); rintro e w4 ⟨rfl, hb4⟩
           replace hB := below_next hB hb4)
        | (go_at_call 60; (with_reducible refine (l2 _).mono ?_); rintro e w5 ⟨rfl, hb5⟩
           replace hB := below_next hB hb5)
        | (go_at_call 61; (with_reducible refine (cS _).mono ?_); rintro e w6 ⟨rfl, rfl⟩)
        | (go_at_call 62; (with_reducible refine (cF _).mono ?_); rintro e w7 ⟨rfl, hb7⟩
           have K7 := Blk.new w7 46 #[.int .i64 p, .int .i64 (p + 1), .int .i64 (p + 2), .int .i64 (p + 3)]
           have z7 := K7.lt
           replace hB := below_al (below_next hB hb7) (.cells #[.int .i64 p, .int .i64 (p + 1), .int .i64 (p + 2), .int .i64 (p + 3)] 46)))
      generalize w7.heap.size = g7 at *
      generalize (w7.alloc (.cells #[.int .i64 p, .int .i64 (p + 1), .int .i64 (p + 2), .int .i64 (p + 3)] 46)) = wE at *
      have kS : ∀ W', Below wE.heap.size wE W' → W'.cell? ⟨g7, 0, none⟩ = some (.int .i64 p) ∧ W'.cell? ⟨g7, 1, none⟩ = some (.int .i64 (p + 1)) ∧ W'.cell? ⟨g7, 2, none⟩ = some (.int .i64 (p + 2)) ∧ W'.cell? ⟨g7, 3, none⟩ = some (.int .i64 (p + 3)) := fun W' h => blk4 (K7.below h z7)
      go_region_held3 (fun W' => W'.cell? ⟨g7, 0, none⟩ = some (.int .i64 p) ∧ W'.cell? ⟨g7, 1, none⟩ = some (.int .i64 (p + 1)) ∧ W'.cell? ⟨g7, 2, none⟩ = some (.int .i64 (p + 2)) ∧ W'.cell? ⟨g7, 3, none⟩ = some (.int .i64 (p + 3)))
        (first | (with_reducible assumption) | (refine kS _ ?_; repeat (first | (with_reducible assumption) | (with_reducible exact Below.refl _ _) | (with_reducible refine Below.drew ?_) | (with_reducible refine below_al ?_ _))))
        (first
          | (go_at_call 64; (with_reducible refine (cW _).mono ?_); rintro e w8 ⟨A8, n8, c8, rfl, hr8, hb8⟩
             have S8 := below_next (Below.refl _ wE).drew hb8)
          | (go_at_call 63; (with_reducible refine (cR _ _ _ (hwn _ _ _ hr8) _ (hT.at_ (below_next hB S8)) hr8).mono ?_); rintro e w9 ⟨⟨v9, rfl, hv9⟩, hb9⟩
             have S9 := below_next S8 hb9))
      go_wp2
      exact bodyPost_ret (v := v9) (by simp [results, Tryz.results32, go_sem]) rfl ⟨⟨v9, rfl, row_less hv9 (below_next hB S8).size⟩, below_next hB S9⟩
end Sht
end Go.Proofs.YtdfcahdipalmkaaGreatDoor
namespace Go.Proofs.YtdfcahdipalmkaaGreatDoor
open Go.ChangeShapes Go.WideShapes Go.ChangeAt Go.RowKit Go.Shelf
namespace Sht
open Sel
open RowG (Row)
theorem sides_len (p : Int) (ws : List (List UInt8)) (s : Bool) : (sidesF p ws s).length ≤ 4 := by
  unfold sidesF
  split
  · cases h : sideGo p ws s 4 with
    | none => exact Nat.zero_le _
    | some l => rw [Option.getD_some, sideGo_len h]; exact Nat.le_refl _
  · exact Nat.zero_le _
theorem decl_len (l : List UInt8) : (declF l).length ≤ 4 := by
  unfold declF textD
  split
  · split
    · split
      · exact Nat.zero_le _
      · show 1 ≤ 4; omega
    · exact sides_len _ _ _
  · exact Nat.zero_le _
theorem acc_len (ts : List (List UInt8)) (k : Nat) : ((ts.take k).flatMap declF).length ≤ 4 * k := by
  induction k with
  | zero => simp
  | succ k ih =>
    rw [List.take_add_one, List.flatMap_append, List.length_append]
    cases ts[k]? with
    | none => show _ + 0 ≤ _; omega
    | some t =>
      have := decl_len t
      simp only [Option.toList_some, List.flatMap_cons, List.flatMap_nil, List.append_nil]
      omega
set_option maxRecDepth 100000 in
set_option maxHeartbeats 16000000 in
/-- sheet.Decls. -/
theorem decls_any (l : List UInt8) (hl : l.length ≤ 100000) (w : World) (hT : Val.Tabs w) :
    Calls Tryz.prog 16 #[.string (toB l)] w fun e w' => (∃ v, e = .returned v ∧ DcL w' w.heap.size v (declsF l)) ∧ Below w.heap.size w w' := by
  have cs := partsS.split_any (toB l) 59 w (by rw [toB_size]; unfold mostB; omega)
  change Calls Tryz.prog 31 #[.string (toB l), .int .u8 59] w (fun e w' => ∃ A n c, e = .returned (.slice A n c) ∧ Reads w' w'.heap.size 1 A n (strs (splitF 59 l)) ∧ Below w.heap.size w w') at cs
  rw [strs_flat] at cs
  obtain ⟨hs1, hs2⟩ := split_small 59 l
  obtain ⟨R, hR⟩ : ∃ R, R = declsF l := ⟨_, rfl⟩
  rw [← hR]
  unfold declsF at hR
  have HR := Lib.hid hR
  have HTL : Hid (∀ x ∈ splitF 59 l, x.length ≤ 100000) := fun x hx => Nat.le_trans (hs2 x hx) hl
  have hM : (splitF 59 l).length ≤ 100001 := by omega
  clear hR hs1 hs2
  generalize splitF 59 l = ts at *
  go_enter Tryz.func16, Tryz.ntmps16
  go_wp2_with (go_at_call 31; (with_reducible refine cs.mono ?_); rintro e w1 ⟨A1, M, c1, rfl, hrt, hb1⟩)
  have hMl : ts.length = M := by have := hrt.1; rw [flat_len txC_len] at this; omega
  have hM5 : M ≤ 100001 := by omega
  have HM := Lib.hid hMl
  clear hMl hM cs
  go_loopw [3, 9] (fun vp iv wr => ∃ (k : Nat) (ds : List Dcl), k ≤ M ∧ iv = .int .i64 k ∧ Hid (ds = (ts.take k).flatMap declF) ∧ DcL wr w1.heap.size vp ds ∧ Below w1.heap.size w1 wr) (fun _ iv _ => M - (intOf iv).toNat)
  case atStart => exact ⟨0, [], Nat.zero_le _, rfl, rfl, Row.nil _ _ _ _ _, Below.refl _ _⟩
  case round =>
    obtain ⟨k, ds, hk, rfl, HA, hP, hB1⟩ := hrel
    have hBr := below_next hb1 hB1
    obtain ⟨Ap, cp, hvp⟩ := RowG.Row.form hP
    generalize hdn : ds.length = dn at *
    subst hvp
    have hd4 : dn ≤ 4 * k := by rw [← hdn, HA.out]; exact acc_len ts k
    by_cases hlt : k < M
    · obtain ⟨t, htk⟩ : ∃ t, ts[k]? = some t := ⟨_, List.getElem?_eq_getElem (by rw [HM.out]; exact hlt)⟩
      have htl : t.length ≤ 100000 := HTL.out t (List.mem_of_getElem? htk)
      have cr := readDecls_any t htl wr (hT.at_ hBr)
      have hki : (k : Int) < (M : Int) := by omega
      have HT1 : Hid (ds ++ declF t = (ts.take (k + 1)).flatMap declF) := by
        show _ = _
        rw [List.take_add_one, htk, List.flatMap_append, ← HA.out]
        simp
      obtain ⟨ad, hAd, -, e0⟩ := tx_of (hrt.below hB1) htk
      subst hAd
      have hq4 := decl_len t
      clear HA htk
      generalize declF t = qs at *
      go_wp2_with (first
        | (go_at_call 32; (with_reducible refine cr.mono ?_); rintro e w4 ⟨⟨vi, rfl, hri⟩, hb4⟩
           obtain ⟨Ai, ci, rfl⟩ := RowG.Row.form hri
           generalize hni : qs.length = ni at *
           have hP4 := RowG.Row.below hP hb4
           have hB4 := below_next hB1 hb4
           have hrd := DcL.reads hri)
        | (refine wpList_rows (by rfl) _ _ 36 (by rfl) 54 dcC 4 32 _ info_dcl Tryz.underlying36 rfl (by decide) dcC_one w1.heap.size _ ds qs (by rfl) hP4 w4.heap.size Ai ni _ (by rfl) hrd.2 hrd.1 (by simp only [maxLen]; omega) (by omega) hB4.size ?_
           intro v7 w7 hrow7 hg7 ho7
           have hB8 : Below w1.heap.size w1 w7 := hB4.grown hg7 hB4.size (fun j hj => (World.ownsRow.lt hP4 j hj).1)))
      go_roundw
      case rel => exact ⟨k + 1, ds ++ qs, by omega, by go_num, HT1, hrow7, hB8⟩
      case measure => simp [intOf]; omega
    · obtain rfl : k = M := by omega
      have hfin : R = ds := by
        have h1 := HA.out
        rw [List.take_of_length_le (by rw [HM.out]; exact Nat.le_refl _)] at h1
        rw [HR.out, h1]
      clear HR HA
      go_wp2
      exact bodyPost_ret (v := .slice Ap dn cp) (by simp [results, Tryz.results16, go_sem]) rfl ⟨⟨_, rfl, by rw [hfin]; exact row_less hP hb1.size⟩, hBr⟩
end Sht
end Go.Proofs.YtdfcahdipalmkaaGreatDoor
