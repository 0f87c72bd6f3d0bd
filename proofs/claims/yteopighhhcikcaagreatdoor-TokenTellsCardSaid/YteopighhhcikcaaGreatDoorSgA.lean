/- strings.byteStringReplacer: what build makes of pairs whose first is one byte. Conditions: as the theorems' premises say. -/
import Derived.Test.YteopighhhcikcaaGreatDoorTokE
import Derived.Test.YteopighhhcikcaaGreatDoorTokMath2
import Derived.Laws.Tables
import Derived.Laws.Rows
namespace Go.Proofs.YteopighhhcikcaaGreatDoor
open Go.ChangeShapes Go.WideShapes Go.ChangeAt Go.RowKit
namespace Sg
open Rep (TxAt)
open RowG (Row)
open Tok (Lf)
abbrev Pr := UInt8 × List UInt8
def flat : List Pr → List (List UInt8)
  | [] => []
  | p :: r => [p.1] :: p.2 :: flat r
theorem flat_len (ps : List Pr) : (flat ps).length = 2 * ps.length := by
  induction ps with
  | nil => rfl
  | cons p r ih => show (flat r).length + 1 + 1 = _; rw [ih, List.length_cons]; omega
theorem flat_at (ps : List Pr) : ∀ (j : Nat) (p : Pr), ps[j]? = some p → (flat ps)[2 * j]? = some [p.1] ∧ (flat ps)[2 * j + 1]? = some p.2 := by
  induction ps with
  | nil => intro j p h; cases h
  | cons x r ih =>
    intro j p h
    cases j with
    | zero =>
      rw [List.getElem?_cons_zero] at h
      obtain rfl := Option.some.inj h
      exact ⟨rfl, rfl⟩
    | succ j =>
      rw [List.getElem?_cons_succ] at h
      exact ih j p h
/-- What is put for a byte. -/
def look : List Pr → UInt8 → Option (List UInt8)
  | [], _ => none
  | p :: r, c => if p.1 = c then some p.2 else look r c
theorem look_none {ps : List Pr} {c : UInt8} (h : c ∉ ps.map (·.1)) : look ps c = none := by
  induction ps with
  | nil => rfl
  | cons p r ih =>
    unfold look
    rw [if_neg (fun e => h (by rw [← e]; exact List.mem_cons_self))]
    exact ih (fun e => h (List.mem_cons_of_mem _ e))
/-- Bytes lie in a block of bytes. -/
def LfT (w : World) (g : Nat) (l : List UInt8) : Prop := Lf w g 0 l ∧ ∃ cs fr, w.heap[g]? = some (.cells cs 5 fr)
theorem LfT.next {w w' : World} {g : Nat} {l : List UInt8} (h : LfT w g l) (hb : Below w.heap.size w w') : LfT w' g l := by
  obtain ⟨h1, cs, fr, h2⟩ := h
  exact ⟨h1.next hb, cs, fr, (hb.block g h1.1).trans h2⟩
theorem LfT.ne {w : World} {g G : Nat} {l : List UInt8} {t : TypeId} {cs : Array Value} (h : LfT w g l) (K : Blk w G t cs) (ht : 5 ≠ t) : g ≠ G := by
  rintro rfl
  obtain ⟨-, cs2, fr, h2⟩ := h
  unfold Blk at K
  rw [h2] at K
  injection K with K
  injection K with _ K
  exact ht K
theorem LfT.far {w : World} {g : Nat} {l : List UInt8} (h : LfT w g l) {p : Addr} (hp : g ≠ p.block) (v : Value) : LfT (w.setCell p v) g l := by
  obtain ⟨h1, cs, fr, h2⟩ := h
  exact ⟨h1.far hp v, cs, fr, (Below.heap_setCell w p v g hp).trans h2⟩
theorem LfT.grown {α : Type} {w w' : World} {g base k : Nat} {e : TypeId} {enc : α → List Value} {v : Value} {r : List α} {l : List UInt8} (h : LfT w g l) (hr : Row w base e k enc v r) (ht : 5 ≠ e) (hg : w.grownBy w' v.ownBlock) : LfT w' g l := by
  obtain ⟨h1, cs, fr, h2⟩ := h
  have hne : some g ≠ v.ownBlock := by
    intro he
    rcases hr.2 with ⟨rfl, _⟩ | ⟨g', cap', cur', rfl, _, h5, _⟩
    · simp [Value.ownBlock] at he
    · have : g = g' := by simpa [Value.ownBlock] using he
      subst this
      rw [h2] at h5
      injection h5 with h5
      injection h5 with _ h5
      exact ht h5
  have hb := hg.block g h1.1 hne
  refine ⟨⟨Nat.lt_of_lt_of_le h1.1 hg.size, fun j c hc => ?_⟩, cs, fr, hb.trans h2⟩
  exact (World.cell?_of_block (w := w) (a := ⟨g, 0 + j, none⟩) hb).trans (h1.2 j c hc)
/-- A text as bytes. -/
theorem run_bytesT (p : List UInt8) (w : World) : ∃ w1 c, (convert 9 74 (.string (toB p))).run Tryz.prog w = .ok (.slice (some ⟨w.heap.size, 0, none⟩) p.length c) w1 ∧ p.length ≤ c ∧ LfT w1 w.heap.size p ∧ Below w.heap.size w w1 ∧ w1.heap.size = w.heap.size + 1 := by
  have h := run_bytes_of_string (P := Tryz.prog) w 9 74 5 (toB p) Tryz.underlying9 Tryz.underlying74 Tryz.underlying5
  obtain ⟨w1, c, hrun, hc, hL, hB, hz⟩ := Tok.run_bytes p w
  rw [toB_size] at h
  have e := hrun.symm.trans h
  injection e with e1 e2
  refine ⟨w1, c, hrun, hc, ⟨hL, ?_⟩, hB, hz⟩
  rw [e2]
  exact ⟨_, _, heap_alloc_new w.drew _⟩
def RepOk (w : World) (rep : Nat → Value) (ps : List Pr) : Prop := ∀ c : UInt8, match look ps c with
  | none => rep c.toNat = .slice none 0 0
  | some n => ∃ g cap, rep c.toNat = .slice (some ⟨g, 0, none⟩) n.length cap ∧ n.length ≤ cap ∧ LfT w g n
/-- The cells of a byteStringReplacer. -/
def bsC (rep : Nat → Value) (tr : Value) : Array Value := ((List.range 256).map rep ++ [tr]).toArray
theorem bsC_at (rep : Nat → Value) (tr : Value) {i : Nat} (h : i < 256) : (bsC rep tr)[i]? = some (rep i) := by
  unfold bsC
  rw [List.getElem?_toArray, List.getElem?_append_left (by simpa using h), List.getElem?_map, List.getElem?_range h]
  rfl
theorem bsC_tr (rep : Nat → Value) (tr : Value) : (bsC rep tr)[256]? = some tr := by
  unfold bsC
  rw [List.getElem?_toArray, List.getElem?_append_right (by simp)]
  simp
def updV (rep : Nat → Value) (i : Nat) (v : Value) : Nat → Value := fun j => if j = i then v else rep j
theorem bsC_set (rep : Nat → Value) (tr v : Value) {i : Nat} (h : i < 256) : (bsC rep tr).setIfInBounds i v = bsC (updV rep i v) tr := by
  unfold bsC
  rw [List.setIfInBounds_toArray, List.set_append_left _ _ (by simpa using h)]
  congr 2
  apply List.ext_getElem?
  intro j
  rw [List.getElem?_set]
  by_cases hj : j < 256
  · by_cases e : i = j
    · subst e
      rw [if_pos rfl, if_pos (by simpa using hj), List.getElem?_map, List.getElem?_range hj]
      simp [updV]
    · rw [if_neg e, List.getElem?_map, List.getElem?_map, List.getElem?_range hj]
      simp [updV, Ne.symm e]
  · by_cases e : i = j
    · subst e
      rw [if_pos rfl, if_neg (by simpa using hj)]
      simp [hj]
    · rw [if_neg e]
      simp [hj]
theorem bsC_setT (rep : Nat → Value) (tr v : Value) : (bsC rep tr).setIfInBounds 256 v = bsC rep v := by
  unfold bsC
  rw [List.setIfInBounds_toArray, List.set_append_right _ _ (by simp)]
  simp
theorem RepOk.next {w w' : World} {rep : Nat → Value} {ps : List Pr} (h : RepOk w rep ps) (hk : ∀ g l, LfT w g l → LfT w' g l) : RepOk w' rep ps := by
  intro c
  have hc := h c
  cases hl : look ps c with
  | none => rw [hl] at hc; exact hc
  | some n =>
    rw [hl] at hc
    obtain ⟨g, cap, h1, h2, h3⟩ := hc
    exact ⟨g, cap, h1, h2, hk _ _ h3⟩
theorem RepOk.cons {w : World} {rep : Nat → Value} {ps : List Pr} {p : Pr} (h : RepOk w rep ps) {g cap : Nat} (hc : p.2.length ≤ cap) (hL : LfT w g p.2) : RepOk w (updV rep p.1.toNat (.slice (some ⟨g, 0, none⟩) p.2.length cap)) (p :: ps) := by
  intro c
  unfold look
  by_cases e : p.1 = c
  · rw [if_pos e]
    subst e
    exact ⟨g, cap, by unfold updV; rw [if_pos rfl], hc, hL⟩
  · rw [if_neg e]
    have hne : c.toNat ≠ p.1.toNat := fun q => e (UInt8.toNat_inj.1 q.symm)
    have := h c
    have hu : updV rep p.1.toNat (.slice (some ⟨g, 0, none⟩) p.2.length cap) c.toNat = rep c.toNat := by unfold updV; rw [if_neg hne]
    rw [hu]
    exact this
theorem repOk_nil (w : World) : RepOk w (fun _ => .slice none 0 0) [] := fun _ => rfl
theorem zero_bs (w : World) : (zeroValue 195).run Tryz.prog w = .ok (.agg (bsC (fun _ => .slice none 0 0) (.slice none 0 0))) w := by kernel_rfl
theorem wpList_build_to {P : Program} {ops : Array Oper} {rest : List Oper} {o : Oper} {a : Act} {w : World} {Q : Exit → Act → World → Prop} (hg : o.guard = none) (t : TypeId) (parts : Array (Nat × Operand)) (ho : o.op = .build t parts)
    (cells : Array Value) (hb : P.built t (parts.map fun (i, x) => (i, a.eval x)).toList = some cells)
    (h : wpList P ops Q rest (a.put o.dst (.agg cells)) w) : wpList P ops Q (o :: rest) a w := by
  refine wpList_build hg t parts ho (by rw [hb]; rfl) ?_
  rw [hb]
  exact h
theorem setRow_blk {w : World} {g : Nat} {t : TypeId} {old cells : Array Value} (h : Blk w g t old) : Blk (w.setRow g cells) g t cells := by
  unfold World.setRow Blk
  unfold Blk at h
  simp [Array.getElem?_modify, h]
theorem below_setRow {w E : World} (h : Below w.heap.size w E) {g : Nat} (hg : w.heap.size ≤ g) (cs : Array Value) : Below w.heap.size w (E.setRow g cs) := by
  refine ⟨h.os, h.tape, h.output, by unfold World.setRow; simpa using h.size, fun b hb => ?_⟩
  unfold World.setRow
  rw [Array.getElem?_modify, if_neg (by omega)]
  exact h.block b hb
theorem row_setRow {α : Type} {w : World} {base k g : Nat} {e t : TypeId} {enc : α → List Value} {v : Value} {l : List α} {old cs : Array Value} (h : Row w base e k enc v l) (K : Blk w g t old) (ht : e ≠ t) : Row (w.setRow g cs) base e k enc v l := by
  refine ⟨h.1, ?_⟩
  rcases h.2 with h2 | ⟨g', cap, cur, h1, h2, h3, h4⟩
  · exact Or.inl h2
  · refine Or.inr ⟨g', cap, cur, h1, h2, ?_, h4⟩
    unfold World.setRow
    rw [Array.getElem?_modify, if_neg ?_]
    · exact h3
    · rintro rfl
      unfold Blk at K
      rw [K] at h3
      injection h3 with h3
      injection h3 with _ h3
      exact ht h3.symm
set_option maxRecDepth 100000 in
theorem built_bs (A : Option Addr) (m c : Nat) : Tryz.prog.built 195 [(1, .slice A m c)] = some (bsC (fun _ => .slice none 0 0) (.slice A m c)) := by kernel_rfl
set_option maxRecDepth 100000 in
theorem bs_one (A : Option Addr) (m c : Nat) : ∀ v ∈ (bsC (fun _ => .slice none 0 0) (.slice A m c)).toList, v.oneCell' = true := List.all_eq_true.1 (by kernel_rfl)
set_option maxRecDepth 100000 in
theorem store_bs (w1 : World) (g : Nat) {old : Array Value} (h : Blk w1 g 195 old) (hs : old.size = 257) (A : Option Addr) (m c : Nat) :
    (storeCells ⟨g, 0, none⟩ (bsC (fun _ => .slice none 0 0) (.slice A m c)).toList).run Tryz.prog w1 = .ok () (w1.setRow g (bsC (fun _ => .slice none 0 0) (.slice A m c))) := by
  have hst := run_storeCells_from (P := Tryz.prog) g 195 (bsC (fun _ => .slice none 0 0) (.slice A m c)).toList 0 _ w1 h (by rw [hs]; rfl) (bs_one A m c)
  rw [List.take_zero, List.nil_append, Array.toArray_toList] at hst
  exact hst
def strE (x : List UInt8) : List Value := [.string (toB x)]
theorem strE_len (x : List UInt8) : (strE x).length = 1 := rfl
theorem strE_one (x : List UInt8) : ∀ u ∈ strE x, u.oneCell' = true := by intro u hu; rw [strE, List.mem_singleton] at hu; subst hu; rfl
theorem strs_flat (l : List (List UInt8)) : strs l = l.flatMap strE := by
  induction l with
  | nil => rfl
  | cons x t ih => rw [List.flatMap_cons, ← ih]; rfl
end Sg
end Go.Proofs.YteopighhhcikcaaGreatDoor
