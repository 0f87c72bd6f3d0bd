/- Layer 4's awake answers true. Conditions: none. -/
import Derived.Test.YteopighhhcikcaaGreatDoorTokE
import Derived.Test.YteopighhhcikcaaGreatDoorTokMath2
import Derived.Laws.Tables
import Derived.Laws.Rows
import Derived.Test.YteopighhhcikcaaGreatDoorTokG
import Derived.Deep.RegionHeld3
import Derived.Test.YteopighhhcikcaaGreatDoorTokF
import Derived.Laws.MakeOwn
import Derived.WalkSpells
import Derived.Lib.SliceRun
import Derived.Laws.CopyOwn
import Derived.Deep.RegionLaw
import Derived.RegionTactic
import Derived.Deep.QuietTactic
import Derived.BigQuiet
import Derived.Test.YteopighhhcikcaaGreatDoorRepK
import Derived.Test.YteopighhhcikcaaGreatDoorTokJ
import Derived.Test.YteopighhhcikcaaGreatDoorTokI
/- strings.byteStringReplacer: what build makes of pairs whose first is one byte. Conditions: as the theorems' premises say. -/
namespace Go.Proofs.YteopighhhcikcaaGreatDoor
open Go.ChangeShapes Go.WideShapes Go.ChangeAt Go.RowKit
namespace Sg
open Rep (TxAt)
open RowG (Row)
open Tok (Lf)
abbrev Pr := UInt8 × List UInt8
def flat : List Pr → List (List UInt8)
  | [] => []
  | p :: r => [p.1] :: p.2 :: flat r
theorem flat_len (ps : List Pr) : (flat ps).length = 2 * ps.length := by
  induction ps with
  | nil => rfl
  | cons p r ih => show (flat r).length + 1 + 1 = _; rw [ih, List.length_cons]; omega
theorem flat_at (ps : List Pr) : ∀ (j : Nat) (p : Pr), ps[j]? = some p → (flat ps)[2 * j]? = some [p.1] ∧ (flat ps)[2 * j + 1]? = some p.2 := by
  induction ps with
  | nil => intro j p h; cases h
  | cons x r ih =>
    intro j p h
    cases j with
    | zero =>
      rw [List.getElem?_cons_zero] at h
      obtain rfl := Option.some.inj h
      exact ⟨rfl, rfl⟩
    | succ j =>
      rw [List.getElem?_cons_succ] at h
      exact ih j p h
/-- What is put for a byte. -/
def look : List Pr → UInt8 → Option (List UInt8)
  | [], _ => none
  | p :: r, c => if p.1 = c then some p.2 else look r c
theorem look_none {ps : List Pr} {c : UInt8} (h : c ∉ ps.map (·.1)) : look ps c = none := by
  induction ps with
  | nil => rfl
  | cons p r ih =>
    unfold look
    rw [if_neg (fun e => h (by rw [← e]; exact List.mem_cons_self))]
    exact ih (fun e => h (List.mem_cons_of_mem _ e))
/-- Bytes lie in a block of bytes. -/
def LfT (w : World) (g : Nat) (l : List UInt8) : Prop := Lf w g 0 l ∧ ∃ cs fr, w.heap[g]? = some (.cells cs 5 fr)
theorem LfT.next {w w' : World} {g : Nat} {l : List UInt8} (h : LfT w g l) (hb : Below w.heap.size w w') : LfT w' g l := by
  obtain ⟨h1, cs, fr, h2⟩ := h
  exact ⟨h1.next hb, cs, fr, (hb.block g h1.1).trans h2⟩
theorem LfT.ne {w : World} {g G : Nat} {l : List UInt8} {t : TypeId} {cs : Array Value} (h : LfT w g l) (K : Blk w G t cs) (ht : 5 ≠ t) : g ≠ G := by
  rintro rfl
  obtain ⟨-, cs2, fr, h2⟩ := h
  unfold Blk at K
  rw [h2] at K
  injection K with K
  injection K with _ K
  exact ht K
theorem LfT.far {w : World} {g : Nat} {l : List UInt8} (h : LfT w g l) {p : Addr} (hp : g ≠ p.block) (v : Value) : LfT (w.setCell p v) g l := by
  obtain ⟨h1, cs, fr, h2⟩ := h
  exact ⟨h1.far hp v, cs, fr, (Below.heap_setCell w p v g hp).trans h2⟩
theorem LfT.grown {α : Type} {w w' : World} {g base k : Nat} {e : TypeId} {enc : α → List Value} {v : Value} {r : List α} {l : List UInt8} (h : LfT w g l) (hr : Row w base e k enc v r) (ht : 5 ≠ e) (hg : w.grownBy w' v.ownBlock) : LfT w' g l := by
  obtain ⟨h1, cs, fr, h2⟩ := h
  have hne : some g ≠ v.ownBlock := by
    intro he
    rcases hr.2 with ⟨rfl, _⟩ | ⟨g', cap', cur', rfl, _, h5, _⟩
    · simp [Value.ownBlock] at he
    · have : g = g' := by simpa [Value.ownBlock] using he
      subst this
      rw [h2] at h5
      injection h5 with h5
      injection h5 with _ h5
      exact ht h5
  have hb := hg.block g h1.1 hne
  refine ⟨⟨Nat.lt_of_lt_of_le h1.1 hg.size, fun j c hc => ?_⟩, cs, fr, hb.trans h2⟩
  exact (World.cell?_of_block (w := w) (a := ⟨g, 0 + j, none⟩) hb).trans (h1.2 j c hc)
/-- A text as bytes. -/
theorem run_bytesT (p : List UInt8) (w : World) : ∃ w1 c, (convert 9 74 (.string (toB p))).run Tryz.prog w = .ok (.slice (some ⟨w.heap.size, 0, none⟩) p.length c) w1 ∧ p.length ≤ c ∧ LfT w1 w.heap.size p ∧ Below w.heap.size w w1 ∧ w1.heap.size = w.heap.size + 1 := by
  have h := run_bytes_of_string (P := Tryz.prog) w 9 74 5 (toB p) Tryz.underlying9 Tryz.underlying74 Tryz.underlying5
  obtain ⟨w1, c, hrun, hc, hL, hB, hz⟩ := Tok.run_bytes p w
  rw [toB_size] at h
  have e := hrun.symm.trans h
  injection e with e1 e2
  refine ⟨w1, c, hrun, hc, ⟨hL, ?_⟩, hB, hz⟩
  rw [e2]
  exact ⟨_, _, heap_alloc_new w.drew _⟩
def RepOk (w : World) (rep : Nat → Value) (ps : List Pr) : Prop := ∀ c : UInt8, match look ps c with
  | none => rep c.toNat = .slice none 0 0
  | some n => ∃ g cap, rep c.toNat = .slice (some ⟨g, 0, none⟩) n.length cap ∧ n.length ≤ cap ∧ LfT w g n
/-- The cells of a byteStringReplacer. -/
def bsC (rep : Nat → Value) (tr : Value) : Array Value := ((List.range 256).map rep ++ [tr]).toArray
theorem bsC_at (rep : Nat → Value) (tr : Value) {i : Nat} (h : i < 256) : (bsC rep tr)[i]? = some (rep i) := by
  unfold bsC
  rw [List.getElem?_toArray, List.getElem?_append_left (by simpa using h), List.getElem?_map, List.getElem?_range h]
  rfl
theorem bsC_tr (rep : Nat → Value) (tr : Value) : (bsC rep tr)[256]? = some tr := by
  unfold bsC
  rw [List.getElem?_toArray, List.getElem?_append_right (by simp)]
  simp
def updV (rep : Nat → Value) (i : Nat) (v : Value) : Nat → Value := fun j => if j = i then v else rep j
theorem bsC_set (rep : Nat → Value) (tr v : Value) {i : Nat} (h : i < 256) : (bsC rep tr).setIfInBounds i v = bsC (updV rep i v) tr := by
  unfold bsC
  rw [List.setIfInBounds_toArray, List.set_append_left _ _ (by simpa using h)]
  congr 2
  apply List.ext_getElem?
  intro j
  rw [List.getElem?_set]
  by_cases hj : j < 256
  · by_cases e : i = j
    · subst e
      rw [if_pos rfl, if_pos (by simpa using hj), List.getElem?_map, List.getElem?_range hj]
      simp [updV]
    · rw [if_neg e, List.getElem?_map, List.getElem?_map, List.getElem?_range hj]
      simp [updV, Ne.symm e]
  · by_cases e : i = j
    · subst e
      rw [if_pos rfl, if_neg (by simpa using hj)]
      simp [hj]
    · rw [if_neg e]
      simp [hj]
theorem bsC_setT (rep : Nat → Value) (tr v : Value) : (bsC rep tr).setIfInBounds 256 v = bsC rep v := by
  unfold bsC
  rw [List.setIfInBounds_toArray, List.set_append_right _ _ (by simp)]
  simp
theorem RepOk.next {w w' : World} {rep : Nat → Value} {ps : List Pr} (h : RepOk w rep ps) (hk : ∀ g l, LfT w g l → LfT w' g l) : RepOk w' rep ps := by
  intro c
  have hc := h c
  cases hl : look ps c with
  | none => rw [hl] at hc; exact hc
  | some n =>
    rw [hl] at hc
    obtain ⟨g, cap, h1, h2, h3⟩ := hc
    exact ⟨g, cap, h1, h2, hk _ _ h3⟩
theorem RepOk.cons {w : World} {rep : Nat → Value} {ps : List Pr} {p : Pr} (h : RepOk w rep ps) {g cap : Nat} (hc : p.2.length ≤ cap) (hL : LfT w g p.2) : RepOk w (updV rep p.1.toNat (.slice (some ⟨g, 0, none⟩) p.2.length cap)) (p :: ps) := by
  intro c
  unfold look
  by_cases e : p.1 = c
  · rw [if_pos e]
    subst e
    exact ⟨g, cap, by unfold updV; rw [if_pos rfl], hc, hL⟩
  · rw [if_neg e]
    have hne : c.toNat ≠ p.1.toNat := fun q => e (UInt8.toNat_inj.1 q.symm)
    have := h c
    have hu : updV rep p.1.toNat (.slice (some ⟨g, 0, none⟩) p.2.length cap) c.toNat = rep c.toNat := by unfold updV; rw [if_neg hne]
    rw [hu]
    exact this
theorem repOk_nil (w : World) : RepOk w (fun _ => .slice none 0 0) [] := fun _ => rfl
theorem zero_bs (w : World) : (zeroValue 195).run Tryz.prog w = .ok (.agg (bsC (fun _ => .slice none 0 0) (.slice none 0 0))) w := by kernel_rfl
theorem wpList_build_to {P : Program} {ops : Array Oper} {rest : List Oper} {o : Oper} {a : Act} {w : World} {Q : Exit → Act → World → Prop} (hg : o.guard = none) (t : TypeId) (parts : Array (Nat × Operand)) (ho : o.op = .build t parts)
    (cells : Array Value) (hb : P.built t (parts.map fun (i, x) => (i, a.eval x)).toList = some cells)
    (h : wpList P ops Q rest (a.put o.dst (.agg cells)) w) : wpList P ops Q (o :: rest) a w := by
  refine wpList_build hg t parts ho (by rw [hb]; rfl) ?_
  rw [hb]
  exact h
theorem setRow_blk {w : World} {g : Nat} {t : TypeId} {old cells : Array Value} (h : Blk w g t old) : Blk (w.setRow g cells) g t cells := by
  unfold World.setRow Blk
  unfold Blk at h
  simp [Array.getElem?_modify, h]
theorem below_setRow {w E : World} (h : Below w.heap.size w E) {g : Nat} (hg : w.heap.size ≤ g) (cs : Array Value) : Below w.heap.size w (E.setRow g cs) := by
  refine ⟨h.os, h.tape, h.output, by unfold World.setRow; simpa using h.size, fun b hb => ?_⟩
  unfold World.setRow
  rw [Array.getElem?_modify, if_neg (by omega)]
  exact h.block b hb
theorem row_setRow {α : Type} {w : World} {base k g : Nat} {e t : TypeId} {enc : α → List Value} {v : Value} {l : List α} {old cs : Array Value} (h : Row w base e k enc v l) (K : Blk w g t old) (ht : e ≠ t) : Row (w.setRow g cs) base e k enc v l := by
  refine ⟨h.1, ?_⟩
  rcases h.2 with h2 | ⟨g', cap, cur, h1, h2, h3, h4⟩
  · exact Or.inl h2
  · refine Or.inr ⟨g', cap, cur, h1, h2, ?_, h4⟩
    unfold World.setRow
    rw [Array.getElem?_modify, if_neg ?_]
    · exact h3
    · rintro rfl
      unfold Blk at K
      rw [K] at h3
      injection h3 with h3
      injection h3 with _ h3
      exact ht h3.symm
set_option maxRecDepth 100000 in
theorem built_bs (A : Option Addr) (m c : Nat) : Tryz.prog.built 195 [(1, .slice A m c)] = some (bsC (fun _ => .slice none 0 0) (.slice A m c)) := by kernel_rfl
set_option maxRecDepth 100000 in
theorem bs_one (A : Option Addr) (m c : Nat) : ∀ v ∈ (bsC (fun _ => .slice none 0 0) (.slice A m c)).toList, v.oneCell' = true := List.all_eq_true.1 (by kernel_rfl)
set_option maxRecDepth 100000 in
theorem store_bs (w1 : World) (g : Nat) {old : Array Value} (h : Blk w1 g 195 old) (hs : old.size = 257) (A : Option Addr) (m c : Nat) :
    (storeCells ⟨g, 0, none⟩ (bsC (fun _ => .slice none 0 0) (.slice A m c)).toList).run Tryz.prog w1 = .ok () (w1.setRow g (bsC (fun _ => .slice none 0 0) (.slice A m c))) := by
  have hst := run_storeCells_from (P := Tryz.prog) g 195 (bsC (fun _ => .slice none 0 0) (.slice A m c)).toList 0 _ w1 h (by rw [hs]; rfl) (bs_one A m c)
  rw [List.take_zero, List.nil_append, Array.toArray_toList] at hst
  exact hst
def strE (x : List UInt8) : List Value := [.string (toB x)]
theorem strE_len (x : List UInt8) : (strE x).length = 1 := rfl
theorem strE_one (x : List UInt8) : ∀ u ∈ strE x, u.oneCell' = true := by intro u hu; rw [strE, List.mem_singleton] at hu; subst hu; rfl
theorem strs_flat (l : List (List UInt8)) : strs l = l.flatMap strE := by
  induction l with
  | nil => rfl
  | cons x t ih => rw [List.flatMap_cons, ← ih]; rfl
end Sg
end Go.Proofs.YteopighhhcikcaaGreatDoor
/- token.Read answers what a text is made of. Conditions: the text has at most 4000 bytes; a longer one has none. -/
namespace Go.Proofs.YteopighhhcikcaaGreatDoor
open Go.ChangeShapes Go.WideShapes Go.ChangeAt Go.RowKit
namespace Tok
open RowG (Row)
set_option maxRecDepth 100000 in
theorem cut3_run (g o N cap n : Nat) (hn : n ≤ N) (hc : N ≤ cap) (w : World) : (Instr.slice 74 (.slice (some ⟨g, o, none⟩) N cap) none (some (.int .i64 n)) (some (.int .i64 n))).run Tryz.prog w = .ok (.slice (some ⟨g, o, none⟩) n n) w := by
  have h1 := run_slice_hm (P := Tryz.prog) (w := w) (t := 74) (a := some ⟨g, o, none⟩) (len := N) (cap := cap) Tryz.underlying74 .i64 .i64 n n (by omega) (by omega) (by omega)
  have hs : ∀ w, (sizeOf (Tryz.prog.elem 74)).run Tryz.prog w = .ok 1 w := fun w => by kernel_rfl
  rw [h1, hs]
  simp [Result.andThen, sliced, Addr.add]
theorem TksV.lt {w : World} {base : Nat} {v : Value} {ts : List T} (h : TksV w base v ts) {g : Nat} (e : v.ownBlock = some g) : g < w.heap.size := by
  obtain ⟨cs, h1, -, -⟩ := h
  exact (World.ownsRow.lt h1 g e).2
theorem txtP_len (u : List UInt8) : (txtP u).length ≤ 1 := by unfold txtP; split <;> simp
theorem arr_cells (cs : List Value) (j : Nat) (u : Value) (h : cs[j]? = some u) : cs.toArray[j]? = some u := by simpa using h
theorem Lf.take {w : World} {g o : Nat} {l : List UInt8} (h : Lf w g o l) (n : Nat) : Lf w g o (l.take n) :=
  ⟨h.1, fun j c hc => h.2 j c (by
    rw [List.getElem?_take] at hc
    split at hc
    · exact hc
    · cases hc)⟩
theorem read_long (s : ByteArray) (w : World) (h : 4000 < s.size) : Calls Tryz.prog 16 #[.string s] w fun e w' => e = .returned (.tuple #[.slice none 0 0, .int .i64 3]) ∧ w = w' := by
  go_enter Tryz.func16, Tryz.ntmps16
  go_wp2
  go_ret2
  exact ⟨rfl, rfl⟩
set_option maxRecDepth 100000 in
set_option maxHeartbeats 8000000 in
theorem read_any (l : List UInt8) (hl : l.length ≤ 4000) (w : World) :
    Calls Tryz.prog 16 #[.string (toB l)] w fun e w' => ∃ v, e = .returned (.tuple #[v, .int .i64 0]) ∧ TksV w' (w.heap.size + 1) v (readP l) ∧ Below w.heap.size w w' := by
  obtain ⟨E, c0, hrun, hc0, hL0, hB0, hz0⟩ := run_bytes l w
  have hsz : (toB l).size = l.length := toB_size l
  have HT : Hid (([] : List T) ++ readF (l.take 0) (l.drop 0) = readP l) := rfl
  have h0 : LfV E w.heap.size (.slice (some ⟨w.heap.size, 0, none⟩) l.length c0) l := ⟨0, c0, rfl, hc0, hL0⟩
  have hT0 := TksV.nil E E.heap.size
  have hgE : w.heap.size < E.heap.size := hL0.1
  rw [← hz0]
  obtain ⟨R, hR⟩ : ∃ R, R = readP l := ⟨_, rfl⟩
  rw [← hR] at HT ⊢
  clear hR hz0
  generalize toB l = s at *
  generalize w.heap.size = g at *
  go_enter Tryz.func16, Tryz.ntmps16
  go_wp2
  go_loopw [4, 5, 6] (fun tv lv av wr => ∃ (l' : List UInt8) (k : Nat) (ts : List T), LfV wr g lv l' ∧ k ≤ l'.length ∧ av = .int .i64 k ∧ TksV wr E.heap.size tv ts ∧ Below E.heap.size E wr ∧ Hid (ts ++ readF (l'.take k) (l'.drop k) = R) ∧ ts.length + 2 * l'.length ≤ 2 * l.length) (fun _ lv av _ => sizeV lv - (intOf av).toNat)
  case atStart => exact ⟨l, 0, [], h0, Nat.zero_le _, rfl, hT0, Below.refl _ _, HT, by simp⟩
  case round =>
    obtain ⟨l', k, ts, hv, hk, rfl, hT, hBr, HR, hlen⟩ := hrel
    clear HT h0 hT0 hrun hL0
    have hsv := hv.sizeV
    have hl' : l'.length ≤ 4000 := by omega
    by_cases hlt : k < l'.length
    · have cb := behindV hv k hk
      have cf := fun v w h => first_any g v (l'.drop k) (by rw [List.length_drop]; omega) w h
      obtain ⟨o, cap, rfl, hc, hL⟩ := hv
      have k0 : (0 : Int) ≤ (k : Int) := Int.natCast_nonneg _
      have k1 : (k : Int) < (l'.length : Int) := by omega
      have k2 : (l'.length : Int) ≤ 4000 := by omega
      cases hf : firstP (l'.drop k) with
      | none =>
        rw [hf] at cf
        have cf2 : ∀ v w, LfV w g v (l'.drop k) → Calls Tryz.prog 51 #[v] w fun e w' => e = .returned (.tuple #[.agg #[.int .i64 0, .string ⟨#[]⟩, .string ⟨#[]⟩, .slice none 0 0], .slice none 0 0, .bool false]) ∧ Below w.heap.size w w' := cf
        have HR2 : Hid (ts ++ readF (l'.take (k + 1)) (l'.drop (k + 1)) = R) := by
          have hd := List.drop_eq_getElem_cons hlt
          rw [hd] at hf
          have h := HR.out
          rw [hd, readF_miss hf, ← List.take_succ_eq_append_getElem hlt] at h
          exact h
        clear cf hf HR
        go_wp2_with (first
          | (go_at_call 52; (with_reducible refine cb.mono ?_); rintro e w3 ⟨⟨v3, rfl, hv3⟩, rfl⟩)
          | (go_at_call 51; (with_reducible refine (cf2 _ _ hv3).mono ?_); rintro e w4 ⟨rfl, hb4⟩))
        go_roundw
        case rel =>
          have hb5 := below_al hb4 (.cells #[.int .i64 0, .string ⟨#[]⟩, .string ⟨#[]⟩, .slice none 0 0] 38)
          exact ⟨l', k + 1, ts, ⟨o, cap, rfl, hc, hL.next hb5⟩, by omega, by go_num, hT.next hb5, below_next hBr hb5, HR2, hlen⟩
        case measure => rw [hsv]; simp [intOf]; omega
      | some x =>
        obtain ⟨t, b⟩ := x
        rw [hf] at cf
        have cf2 : ∀ v w, LfV w g v (l'.drop k) → Calls Tryz.prog 51 #[v] w fun e w' => (∃ vt v, e = .returned (.tuple #[vt, v, .bool true]) ∧ TkV w' w.heap.size vt t ∧ LfV w' g v b) ∧ Below w.heap.size w w' := cf
        have hbl := firstP_len hf
        rw [List.length_drop] at hbl
        have HR2 : Hid (((ts ++ txtP (l'.take k)) ++ [t]) ++ readF (b.take 0) (b.drop 0) = R) := by
          have h := HR.out
          rw [readF_hit hf] at h
          show _ = _
          rw [← h]
          simp
        have hcut := fun w => cut3_run g o l'.length cap k hk hc w
        have htk : (l'.take k).length = k := by rw [List.length_take]; omega
        clear cf hf HR
        go_wp2_with (first
          | (go_at_call 52; (with_reducible refine cb.mono ?_); rintro e w3 ⟨⟨v3, rfl, hv3⟩, rfl⟩)
          | (go_at_call 51; (with_reducible refine (cf2 _ _ hv3).mono ?_); rintro e w4 ⟨⟨vt, v4, rfl, hT4, hv4⟩, hb4⟩
             obtain ⟨tk, ta, tb, tA, tm, tc, rfl, hT4⟩ := tkV_form hT4))
        have hb5 := below_al hb4 (.cells #[.int .i64 tk, .string ta, .string tb, .slice tA tm tc] 38)
        have hB5 := below_next hBr hb5
        have Kb := Blk.new w4 38 #[.int .i64 tk, .string ta, .string tb, .slice tA tm tc]
        have hT5 := hT.next hb5
        have hX5 : LfV (w4.alloc (.cells #[.int .i64 tk, .string ta, .string tb, .slice tA tm tc] 38)) g (.slice (some ⟨g, o, none⟩) k k) (l'.take k) := ⟨o, k, by rw [htk], by rw [htk]; exact Nat.le_refl _, (hL.next hb5).take k⟩
        have hV5 := hv4.next (below_al (Below.refl w4.heap.size w4) (.cells #[.int .i64 tk, .string ta, .string tb, .slice tA tm tc] 38))
        have hk5 := (hT4.less hBr.size).next (below_al (Below.refl w4.heap.size w4) (.cells #[.int .i64 tk, .string ta, .string tb, .slice tA tm tc] 38))
        have hown : ∀ g', u4.ownBlock = some g' → g' < wr.heap.size := fun g' e => hT.lt e
        have cw := fun W h1 h2 h3 => withText_any E g u4 (.slice (some ⟨g, o, none⟩) k k) ts (l'.take k) (by omega) (by omega) W h1 h2 h3
        have hSk : ∀ W, Blk W w4.heap.size 38 #[.int .i64 tk, .string ta, .string tb, .slice tA tm tc] → (W.cell? ⟨w4.heap.size, 0, none⟩ = some (.int .i64 tk) ∧ W.cell? ⟨w4.heap.size, 1, none⟩ = some (.string ta) ∧ W.cell? ⟨w4.heap.size, 2, none⟩ = some (.string tb) ∧ W.cell? ⟨w4.heap.size, 3, none⟩ = some (.slice tA tm tc)) := fun W h => blk4 h
        have hnb : some w4.heap.size ≠ u4.ownBlock := fun e => by
          have h1 := hown _ e.symm
          have h2 := hb4.size
          omega
        have hT5d : TksV (w4.alloc (.cells #[.int .i64 tk, .string ta, .string tb, .slice tA tm tc] 38)).drew E.heap.size u4 ts := hT5
        have hX5d : LfV (w4.alloc (.cells #[.int .i64 tk, .string ta, .string tb, .slice tA tm tc] 38)).drew g (.slice (some ⟨g, o, none⟩) k k) (l'.take k) := hX5
        have hB5d : Below E.heap.size E (w4.alloc (.cells #[.int .i64 tk, .string ta, .string tb, .slice tA tm tc] 38)).drew := hB5.drew
        have hbo := below_al (Below.refl (w4.alloc (.cells #[.int .i64 tk, .string ta, .string tb, .slice tA tm tc] 38)).heap.size (w4.alloc (.cells #[.int .i64 tk, .string ta, .string tb, .slice tA tm tc] 38))) (.cells #[.int .i64 tk, .string ta, .string tb, .slice tA tm tc] 38)
        have hT5e : TksV ((w4.alloc (.cells #[.int .i64 tk, .string ta, .string tb, .slice tA tm tc] 38)).alloc (.cells #[.int .i64 tk, .string ta, .string tb, .slice tA tm tc] 38)).drew E.heap.size u4 ts := hT5.next hbo.drew
        have hX5e : LfV ((w4.alloc (.cells #[.int .i64 tk, .string ta, .string tb, .slice tA tm tc] 38)).alloc (.cells #[.int .i64 tk, .string ta, .string tb, .slice tA tm tc] 38)).drew g (.slice (some ⟨g, o, none⟩) k k) (l'.take k) := hX5.next hbo.drew
        have hB5e : Below E.heap.size E ((w4.alloc (.cells #[.int .i64 tk, .string ta, .string tb, .slice tA tm tc] 38)).alloc (.cells #[.int .i64 tk, .string ta, .string tb, .slice tA tm tc] 38)).drew := (below_next hB5 hbo).drew
        have hk5e : TkV ((w4.alloc (.cells #[.int .i64 tk, .string ta, .string tb, .slice tA tm tc] 38)).alloc (.cells #[.int .i64 tk, .string ta, .string tb, .slice tA tm tc] 38)).drew E.heap.size (.agg #[.int .i64 tk, .string ta, .string tb, .slice tA tm tc]) t := hk5.next hbo.drew
        have hk5f : TkV ((w4.alloc (.cells #[.int .i64 tk, .string ta, .string tb, .slice tA tm tc] 38)).drew.alloc (.cells #[.int .i64 tk, .string ta, .string tb, .slice tA tm tc] 38)) E.heap.size (.agg #[.int .i64 tk, .string ta, .string tb, .slice tA tm tc]) t := hk5e
        have hT5f : TksV ((w4.alloc (.cells #[.int .i64 tk, .string ta, .string tb, .slice tA tm tc] 38)).drew.alloc (.cells #[.int .i64 tk, .string ta, .string tb, .slice tA tm tc] 38)) E.heap.size u4 ts := hT5e
        have hX5f : LfV ((w4.alloc (.cells #[.int .i64 tk, .string ta, .string tb, .slice tA tm tc] 38)).drew.alloc (.cells #[.int .i64 tk, .string ta, .string tb, .slice tA tm tc] 38)) g (.slice (some ⟨g, o, none⟩) k k) (l'.take k) := hX5e
        have hB5f : Below E.heap.size E ((w4.alloc (.cells #[.int .i64 tk, .string ta, .string tb, .slice tA tm tc] 38)).drew.alloc (.cells #[.int .i64 tk, .string ta, .string tb, .slice tA tm tc] 38)) := hB5e
        have KO := Blk.new (w4.alloc (.cells #[.int .i64 tk, .string ta, .string tb, .slice tA tm tc] 38)) 38 #[.int .i64 tk, .string ta, .string tb, .slice tA tm tc]
        rw [size_al] at KO
        have hnb2 : some (w4.heap.size + 1) ≠ u4.ownBlock := fun e => by
          have h1 := hown _ e.symm
          have h2 := hb4.size
          omega
        have hSz : E.heap.size ≤ w4.heap.size := Nat.le_trans hBr.size hb4.size
        first
        | (go_region_held3 (fun W' => W'.cell? ⟨w4.heap.size, 0, none⟩ = some (.int .i64 tk) ∧ W'.cell? ⟨w4.heap.size, 1, none⟩ = some (.string ta) ∧ W'.cell? ⟨w4.heap.size, 2, none⟩ = some (.string tb) ∧ W'.cell? ⟨w4.heap.size, 3, none⟩ = some (.slice tA tm tc))
            (first | (with_reducible assumption) | exact hSk _ Kb.drew | exact hSk _ (Kb.alloc _).drew | exact hSk _ K6 | exact hSk _ (K6.alloc _) | exact hSk _ K7)
            (first
              | (go_at_call 53; (with_reducible refine (cw _ hT5d hX5d hB5d).mono ?_); rintro e w6 ⟨v6, rfl, ⟨cs6, hrow6, hlen6, hall6⟩, hB6, hk6, hkeep6, ho6⟩
                 have K6 := hk6.blk Kb.drew hnb
                 have hn6 : some w4.heap.size ≠ v6.ownBlock := fun e => by
                   rcases ho6 _ e.symm with h | h
                   · exact hnb h.symm
                   · have h : (w4.alloc (.cells #[.int .i64 tk, .string ta, .string tb, .slice tA tm tc] 38)).heap.size ≤ w4.heap.size := h
                     rw [size_al] at h; omega
                 have KX := K6.alloc (.cells #[.int .i64 tk, .string ta, .string tb, .slice tA tm tc] 38)
                 have hkX : TkV (w6.alloc (.cells #[.int .i64 tk, .string ta, .string tb, .slice tA tm tc] 38)) E.heap.size (.agg #[.int .i64 tk, .string ta, .string tb, .slice tA tm tc]) t := (hkeep6 _ _ hk5).next (below_al (Below.refl _ _) (.cells #[.int .i64 tk, .string ta, .string tb, .slice tA tm tc] 38))
                 have hvX := hV5.via hB5 hB6 hgE
                 have hrowX := hrow6.alloc (.cells #[.int .i64 tk, .string ta, .string tb, .slice tA tm tc] 38)
                 have hallX := fun i c t h1 h2 => (hall6 i c t h1 h2).next (below_al (Below.refl _ _) (.cells #[.int .i64 tk, .string ta, .string tb, .slice tA tm tc] 38))
                 have hcX := RowG.new_cells w6 38 (tcC ⟨tk, ta, tb, tA, tm, tc⟩)
                 have hBX := below_al hB6 (.cells #[.int .i64 tk, .string ta, .string tb, .slice tA tm tc] 38)
                 have HL := Lib.hid hlen6
                 have hcl6 : cs6.length ≤ 10000 := by
                   rw [hlen6, List.length_append]
                   have := txtP_len (l'.take k)
                   omega
                 clear hlen6)
              | (go_at_call 53; (first | (with_reducible refine (cw _ hT5e hX5e hB5e).mono ?_) | (with_reducible refine (cw _ hT5f hX5f hB5f).mono ?_)); rintro e w6 ⟨v6, rfl, ⟨cs6, hrow6, hlen6, hall6⟩, hB6, hk6, hkeep6, ho6⟩
                 have K6 := hk6.blk (Kb.alloc (.cells #[.int .i64 tk, .string ta, .string tb, .slice tA tm tc] 38)).drew hnb
                 have hn6 : some w4.heap.size ≠ v6.ownBlock := fun e => by
                   rcases ho6 _ e.symm with h | h
                   · exact hnb h.symm
                   · have h : ((w4.alloc (.cells #[.int .i64 tk, .string ta, .string tb, .slice tA tm tc] 38)).alloc (.cells #[.int .i64 tk, .string ta, .string tb, .slice tA tm tc] 38)).heap.size ≤ w4.heap.size := h
                     rw [size_al, size_al] at h; omega
                 have KX := K6
                 have hkX : TkV w6 E.heap.size (.agg #[.int .i64 tk, .string ta, .string tb, .slice tA tm tc]) t := by first | exact hkeep6 _ _ hk5e | exact hkeep6 _ _ hk5f
                 have hvX := hV5.via hB5 hB6 hgE
                 have hrowX := hrow6
                 have hallX := hall6
                 have KO6 := hk6.blk KO.drew hnb2
                 have hcX : ∀ (j : Nat) (u : Value), (tcC ⟨tk, ta, tb, tA, tm, tc⟩)[j]? = some u → w6.cell? ⟨w4.heap.size + 1, j, none⟩ = some u := fun j u hu => (KO6.cell j).trans (arr_cells (tcC ⟨tk, ta, tb, tA, tm, tc⟩) j u hu)
                 have hBX := hB6
                 have HL := Lib.hid hlen6
                 have hcl6 : cs6.length ≤ 10000 := by
                   rw [hlen6, List.length_append]
                   have := txtP_len (l'.take k)
                   omega
                 clear hlen6)
              | (refine RowG.step_more _ (by rfl) _ _ 23 (by rfl) 38 tcC 4 64 _ info_tok Tryz.underlying23 rfl (by decide) tcC_len tcC_one E.heap.size _ cs6 ⟨tk, ta, tb, tA, tm, tc⟩ (by rfl) _ _ (by rfl) hrowX hcX (by simp only [maxLen]; omega) (by omega) hBX.size ?_
                 intro v7 w7 hrow7 hg7 ho7
                 have K7 := KX.grown hg7 hn6)))
        | (fail)
        all_goals
          go_wp2
          have hB7 := RowG.below_row hBX hrowX hg7
          have hV7 := hV5.via hB5 hB7 hgE
          have hT7 := tks_more (c := ⟨tk, ta, tb, tA, tm, tc⟩) (t := t) hrowX HL.out hallX hkX hrow7 hg7
          go_roundw
          case rel => exact ⟨b, 0, (ts ++ txtP (l'.take k)) ++ [t], hV7, Nat.zero_le _, rfl, hT7, hB7, HR2, by
            have := txtP_len (l'.take k)
            rw [List.length_append, List.length_append, List.length_singleton]
            omega⟩
          case measure => rw [hsv, hv4.sizeV]; simp [intOf]; omega
    · obtain rfl : k = l'.length := by omega
      have hRe : ts ++ txtP l' = R := by
        have h := HR.out
        rw [List.drop_length, List.take_length, readF_nil] at h
        exact h
      have cw := withText_any E g u4 u5 ts l' (by omega) (by omega) wr hT hv hBr
      rw [hRe] at cw
      obtain ⟨o, cap, rfl, hc, hL⟩ := hv
      clear HR hRe hL
      go_wp2_with (go_at_call 53; (with_reducible refine cw.mono ?_); rintro e w6 ⟨v6, rfl, hT6, hB6, -⟩)
      go_ret2
      exact ⟨v6, rfl, hT6, hB0.trans (hB6.mono (Nat.le_of_lt hgE))⟩
end Tok
end Go.Proofs.YteopighhhcikcaaGreatDoor
/- (*strings.Replacer).build over pairs whose first is one byte. Conditions: as the theorem's premises say. -/
namespace Go.Proofs.YteopighhhcikcaaGreatDoor
open Go.ChangeShapes Go.WideShapes Go.ChangeAt Go.RowKit
namespace Sg
open Rep (TxAt)
open RowG (Row)
open Tok (Lf)
/-- A byteStringReplacer in memory. -/
def BsOk (w : World) (G : Nat) (ps : List Pr) : Prop := ∃ rep A c, Blk w G 195 (bsC rep (.slice A ps.length c)) ∧ RepOk w rep ps ∧ Row w 0 9 1 strE (.slice A ps.length c) (ps.reverse.map fun p => [p.1])
theorem idx0 (c : UInt8) (w : World) : (Instr.index 9 (.string (toB [c])) (.int .i64 0)).run Tryz.prog w = .ok (.int .u8 (c.toNat : Int)) w := by kernel_rfl
theorem lf_one (w : World) (c : UInt8) : Lf (w.alloc (.cells #[.int .u8 (c.toNat : Int)] 5)) w.heap.size 0 [c] := by
  refine ⟨by rw [size_al]; exact Nat.lt_succ_self _, fun j d hj => ?_⟩
  match j, hj with
  | 0, hj =>
    obtain rfl := Option.some.inj hj
    exact (Blk.new w 5 #[.int .u8 (c.toNat : Int)]).cell 0
theorem size_set (w : World) (p : Addr) (v : Value) : (w.setCell p v).heap.size = w.heap.size := by simp
set_option maxRecDepth 100000 in
set_option maxHeartbeats 8000000 in
theorem build_any (ps : List Pr) (h2 : 2 ≤ ps.length) (h10 : ps.length ≤ 10) (hd : (ps.map (·.1)).Nodup) (hn : ∀ p ∈ ps, 2 ≤ p.2.length ∧ p.2.length ≤ 100) (b q cap : Nat) (w : World)
    (K : Blk w b 130 #[.int .u32 0, .int .i32 1, .int .u32 0, .nilIface, .slice (some ⟨q, 0, none⟩) (flat ps).length cap]) (hx : TxAt w q (flat ps)) :
    Calls Tryz.prog 126 #[.pointer (some ⟨b, 0, none⟩)] w fun e w' => (∃ G, e = .returned (.iface 196 (.pointer (some ⟨G, 0, none⟩))) ∧ w.heap.size ≤ G ∧ BsOk w' G ps) ∧ Below w.heap.size w w' := by
  have k4 := K.cell 4
  have hN := flat_len ps
  obtain ⟨N, hNe⟩ : ∃ N, N = (flat ps).length := ⟨_, rfl⟩
  rw [← hNe] at k4 K hN
  have n4 : ((N : Int) == 2) = false := by rw [beq_eq_false_iff_ne]; omega
  obtain ⟨i0, hi0, hz0, hz1, hz2⟩ := Rep.str_info'
  obtain ⟨w1, hmk, hown, hgr⟩ := run_make_own (P := Tryz.prog) (w := w) w.heap.size 87 9 i0 _ 1 Tryz.underlying87 hi0 hz0 hz1 .i64 .i64 ps.length (by rw [hz2]; omega) (by simp only [maxLen]; omega) (Nat.le_refl _)
  obtain ⟨m, hm⟩ : ∃ m, m = ps.length := ⟨_, rfl⟩
  rw [show ((ps.length : Nat) : Int) = (N : Int) / 2 by omega, ← hm] at hmk
  have hB1 : Below w.heap.size w w1 := (Below.refl _ _).grown hgr (Nat.le_refl _) (fun k hk => by cases hk)
  have hrow1 : Row w1 w.heap.size 9 1 strE (.slice (some ⟨w.heap.size, 0, none⟩) 0 m) [] := by rw [← hm] at hown; exact hown
  have h1 : N ≤ 2 * m := by omega
  have h1' : 2 * m ≤ N := by omega
  have h2' : 2 ≤ m := by omega
  have h3' : m ≤ 10 := by omega
  have HM := Lib.hid hm
  have hz := fun w => zero_bs w
  clear hNe hN hown hgr hi0 hz0 hz1 hz2 hm h2 h10
  go_enter Tryz.func126, Tryz.ntmps126
  go_wp2
  go_loop [4, 5] (fun av iv => ∃ (j i : Nat), i ≤ N ∧ Hid (i = 2 * j) ∧ iv = .int .i64 i ∧ ((j = 0 ∧ av = .bool true) ∨ (0 < j ∧ av = .bool false))) (fun _ iv => N - (intOf iv).toNat)
  case atStart => exact ⟨0, 0, Nat.zero_le _, rfl, rfl, .inl ⟨rfl, rfl⟩⟩
  case round =>
    obtain ⟨j, i, hi, HI, rfl, hav⟩ := hrel
    have i0 : (0 : Int) ≤ (i : Int) := Int.natCast_nonneg _
    by_cases hlt : i < N
    · have hI := HI.out
      have hjm : j < ps.length := by rw [← HM.out]; omega
      have hj := List.getElem?_eq_getElem hjm
      obtain ⟨f0, f1⟩ := flat_at ps j _ hj
      have hnp := hn _ (List.getElem_mem hjm)
      generalize ps[j] = p at *
      have x0 := hx.at_ f0
      have x1 := hx.at_ f1
      rw [← hI] at x0 x1
      have hlt1 : i + 1 < N := by omega
      have s0 : (toB [p.1]).size = 1 := rfl
      have s1 : (toB p.2).size = p.2.length := toB_size _
      have t1 : (((toB p.2).size : Int) != 1) = true := by rw [bne_iff_ne, s1]; omega
      have HI2 : Hid (i + 2 = 2 * (j + 1)) := by show _ = _; omega
      clear hI HI f0 f1 s1 hnp
      generalize toB [p.1] = ta at *
      generalize toB p.2 = tb at *
      rcases hav with ⟨-, rfl⟩ | ⟨-, rfl⟩
      all_goals
        go_wp2
        go_round
        case rel => exact ⟨j + 1, i + 2, by omega, HI2, by go_num, .inr ⟨Nat.succ_pos _, rfl⟩⟩
        case measure => simp [intOf]; omega
    · have hI := HI.out
      obtain rfl : i = N := by omega
      have hj : 0 < j := by omega
      obtain rfl : u4 = .bool false := by
        rcases hav with ⟨h, -⟩ | ⟨-, h⟩
        · omega
        · exact h
      clear hav hI HI hj
      go_wp2_with (with_reducible refine wpList_build_to rfl 195 _ rfl (bsC (fun _ => .slice none 0 0) (.slice (some ⟨w.heap.size, 0, none⟩) 0 m)) ?_ ?_; focus (kernel_rfl))
      have K0 := Blk.new w1 195 (bsC (fun _ => .slice none 0 0) (.slice none 0 0))
      have hst := store_bs _ w1.heap.size K0 rfl (some ⟨w.heap.size, 0, none⟩) 0 m
      rw [hst]
      have KG := setRow_blk (cells := bsC (fun _ => .slice none 0 0) (.slice (some ⟨w.heap.size, 0, none⟩) 0 m)) K0
      have hBG := below_setRow (below_al hB1 (.cells (bsC (fun _ => .slice none 0 0) (.slice none 0 0)) 195)) hB1.size (bsC (fun _ => .slice none 0 0) (.slice (some ⟨w.heap.size, 0, none⟩) 0 m))
      have hrowG : Row ((w1.alloc (.cells (bsC (fun _ => .slice none 0 0) (.slice none 0 0)) 195)).setRow w1.heap.size (bsC (fun _ => .slice none 0 0) (.slice (some ⟨w.heap.size, 0, none⟩) 0 m))) w.heap.size 9 1 strE (.slice (some ⟨w.heap.size, 0, none⟩) 0 m) [] := row_setRow (hrow1.alloc _) K0 (by decide)
      have hGw := hB1.size
      have hxG : TxAt ((w1.alloc (.cells (bsC (fun _ => .slice none 0 0) (.slice none 0 0)) 195)).setRow w1.heap.size (bsC (fun _ => .slice none 0 0) (.slice (some ⟨w.heap.size, 0, none⟩) 0 m))) q (flat ps) := hx.next hBG
      clear hst K0 hmk hB1 hrow1 hz K k4
      generalize (w1.alloc (.cells (bsC (fun _ => .slice none 0 0) (.slice none 0 0)) 195)).setRow w1.heap.size (bsC (fun _ => .slice none 0 0) (.slice (some ⟨w.heap.size, 0, none⟩) 0 m)) = W at *
      generalize w1.heap.size = G at *
      have hrep := repOk_nil W
      generalize hr0 : (fun _ : Nat => Value.slice none 0 0) = rep0 at *
      clear hr0
      go_wp2
      rw [show (i : Int) - 2 = 2 * (m : Int) - 2 by omega]
      have HD := Lib.hid hd
      have HNP := Lib.hid hn
      clear hd hn
      go_loopw [12] (fun iv wr => ∃ (j : Nat) (rep : Nat → Value) (v : Value), j ≤ m ∧ iv = .int .i64 (2 * (j : Int) - 2) ∧ Blk wr G 195 (bsC rep v) ∧ RepOk wr rep (ps.drop j) ∧ Row wr w.heap.size 9 1 strE v ((ps.drop j).reverse.map fun p => [p.1]) ∧ TxAt wr q (flat ps) ∧ Below w.heap.size w wr) (fun iv _ => (intOf iv + 2).toNat)
      case atStart =>
        have hdm : ps.drop m = [] := List.drop_of_length_le (by rw [← HM.out]; exact Nat.le_refl _)
        exact ⟨m, rep0, _, Nat.le_refl _, rfl, KG, by rw [hdm]; exact hrep, by rw [hdm]; exact hrowG, hxG, hBG⟩
      case round =>
        obtain ⟨j, rep, v, hj, rfl, Kr, hRr, hrow, hxr, hBr⟩ := hrel
        clear KG hrep hrowG hxG hBG
        cases j with
        | zero =>
          obtain ⟨A, c, rfl⟩ := hrow.form
          go_wp2
          go_ret
          have hlk : (List.map (fun p : Pr => [p.1]) (ps.drop 0).reverse).length = ps.length := by simp
          rw [hlk] at Kr hrow
          refine ⟨⟨G, rfl, hGw, rep, A, c, Kr, hRr, ?_⟩, hBr⟩
          exact Tok.row_le hrow (Nat.zero_le _)
        | succ n =>
          have hnm : n < ps.length := by rw [← HM.out]; omega
          obtain ⟨p, hp⟩ : ∃ p, ps[n]? = some p := ⟨_, List.getElem?_eq_getElem hnm⟩
          have hdn : ps.drop n = p :: ps.drop (n + 1) := by
            rw [List.drop_eq_getElem_cons hnm]
            rw [List.getElem?_eq_getElem hnm] at hp
            rw [Option.some.inj hp]
          obtain ⟨f0, f1⟩ := flat_at ps n p hp
          have x0 := hxr.at_ f0
          have x1 := hxr.at_ f1
          have hpn := HNP.out p (List.mem_of_getElem? hp)
          have hno : look (ps.drop (n + 1)) p.1 = none := by
            refine look_none (fun hm => ?_)
            have h := HD.out
            rw [← List.take_append_drop n ps, hdn, List.map_append, List.map_cons, List.nodup_append] at h
            exact (List.nodup_cons.1 h.2.1).1 hm
          have hr0 : rep p.1.toNat = .slice none 0 0 := by
            have := hRr p.1
            rw [hno] at this
            exact this
          have hlt := p.1.toNat_lt
          have ko := Kr.cell p.1.toNat
          rw [bsC_at _ _ hlt, hr0] at ko
          have k256 := Kr.cell 256
          rw [bsC_tr] at k256
          have i0 := idx0 p.1
          have hN2 : 2 * n + 1 < i := by omega
          rw [show (2 * ((n + 1 : Nat) : Int) - 2) = ((2 * n : Nat) : Int) by omega]
          obtain ⟨z, hz⟩ : ∃ z, z = 2 * n := ⟨_, rfl⟩
          rw [← hz] at x0 x1 hN2 ⊢
          have HZ := Lib.hid hz
          clear hz f0 f1 hno hp
          have z0 : (0 : Int) ≤ (z : Int) := Int.natCast_nonneg _
          have z1 : z < i := by omega
          obtain ⟨A, c, rfl⟩ := hrow.form
          have hlen : (List.map (fun p : Pr => [p.1]) (ps.drop (n + 1)).reverse).length ≤ 10 := by
            rw [List.length_map, List.length_reverse, List.length_drop]
            have := HM.out
            omega
          have hl1 := lf_one wr p.1
          have htx := Tok.textV hl1 1 1 (Nat.le_refl _)
          rw [show ([p.1] : List UInt8).take 1 = [p.1] from rfl] at htx
          have hnc := RowG.new_cells (wr.alloc (.cells #[.int .u8 (p.1.toNat : Int)] 5)) 9 (strE [p.1])
          have hrow3 := (hrow.alloc (.cells #[.int .u8 (p.1.toNat : Int)] 5)).alloc (.cells (strE [p.1]).toArray 9)
          have hB3 := below_al (below_al hBr (.cells #[.int .u8 (p.1.toNat : Int)] 5)) (.cells (strE [p.1]).toArray 9)
          have K3 := (Kr.alloc (.cells #[.int .u8 (p.1.toNat : Int)] 5)).alloc (.cells (strE [p.1]).toArray 9)
          have hne3 := own_blk_ne hrow3 K3 (by decide)
          rw [size_al] at hnc
          have heq := fun w a n c => Lib.run_eql_slice_nil (P := Tryz.prog) w 74 5 a n c 0 0 Tryz.underlying74
          have hcvt := fun wx => run_bytesT p.2 wx
          have hGr := Kr.lt
          have y0 : (0 : Int) ≤ (p.1.toNat : Int) := Int.natCast_nonneg _
          have y1 : (p.1.toNat : Int) < 256 := by omega
          have HKS : Hid ((List.map (fun p : Pr => [p.1]) (ps.drop n).reverse) = (List.map (fun p : Pr => [p.1]) (ps.drop (n + 1)).reverse) ++ [[p.1]]) := by show _ = _; rw [hdn]; simp
          generalize (List.map (fun p : Pr => [p.1]) (ps.drop (n + 1)).reverse) = ks at *
          go_wp2_with (first
            | (refine RowG.wpList_more _ (by rfl) _ _ 87 (by rfl) 9 strE 1 16 _ Rep.str_info Tryz.underlying87 rfl (by decide) strE_len strE_one w.heap.size _ ks [p.1] (by rfl) (wr.heap.size + 1) _ (by rfl) hrow3 hnc (by simp only [maxLen]; omega) (by omega) hB3.size ?_
               intro v5 w5 hrow5 hg5 ho5
               obtain ⟨A5, c5, hv5⟩ := hrow5.form
               generalize (ks ++ [[p.1]]).length = M5 at hv5
               subst hv5
               have K5 := K3.grown hg5 (fun e => hne3 e.symm)
               have k5 := K5.cell 256
               have f5 := K5.frozen 256
               rw [bsC_tr] at k5
               have K6 := K5.set_ 256 (.slice A5 M5 c5)
               rw [bsC_setT] at K6
               have hR6 : RepOk (w5.setCell ⟨G, 256, none⟩ (.slice A5 M5 c5)) rep (ps.drop (n + 1)) := hRr.next (fun g l h => by
                 have h1 := ((h.next (below_al (Below.refl _ _) (.cells #[.int .u8 (p.1.toNat : Int)] 5))).next (below_al (Below.refl _ _) (.cells (strE [p.1]).toArray 9))).grown hrow3 (by decide) hg5
                 exact h1.far (p := ⟨G, 256, none⟩) (h1.ne K5 (by decide)) _)
               have hrow6 := ownsRow_setCell_other hrow5 (a := ⟨G, 256, none⟩) (own_blk_ne hrow5 K5 (by decide)) (.slice A5 M5 c5)
               have hB6 := below_set (RowG.below_row hB3 hrow3 hg5) (p := ⟨G, 256, none⟩) hGw (.slice A5 M5 c5)
               obtain ⟨w7, c7, hrun7, hc7, hL7, hB7, hz7⟩ := run_bytesT p.2 (w5.setCell ⟨G, 256, none⟩ (.slice A5 M5 c5))
               rw [size_set] at hrun7 hL7
               have K7 := K6.next hB7
               have k7 := K7.cell p.1.toNat
               have f7 := K7.frozen p.1.toNat
               rw [bsC_at _ _ hlt, hr0] at k7))
          have K8 := K7.set_ p.1.toNat (.slice (some ⟨w5.heap.size, 0, none⟩) p.2.length c7)
          rw [bsC_set _ _ _ hlt] at K8
          have hB8 := below_set (below_next hB6 hB7) (p := ⟨G, p.1.toNat, none⟩) hGw (.slice (some ⟨w5.heap.size, 0, none⟩) p.2.length c7)
          have hR8 : RepOk (w7.setCell ⟨G, p.1.toNat, none⟩ (.slice (some ⟨w5.heap.size, 0, none⟩) p.2.length c7)) (updV rep p.1.toNat (.slice (some ⟨w5.heap.size, 0, none⟩) p.2.length c7)) (p :: ps.drop (n + 1)) :=
            RepOk.cons (hR6.next (fun g l h => by
              have h1 := h.next hB7
              exact h1.far (p := ⟨G, p.1.toNat, none⟩) (h1.ne K7 (by decide)) _)) hc7 (hL7.far (p := ⟨G, p.1.toNat, none⟩) (hL7.ne K7 (by decide)) _)
          have hrow7 := RowG.Row.below (l := ks ++ [[p.1]]) (enc := strE) hrow6 hB7
          have hrow8 := ownsRow_setCell_other hrow7 (a := ⟨G, p.1.toNat, none⟩) (own_blk_ne hrow7 K7 (by decide)) (.slice (some ⟨w5.heap.size, 0, none⟩) p.2.length c7)
          go_roundw
          case rel => exact ⟨n, _, _, by omega, by rw [HZ.out]; go_num, K8, by rw [hdn]; exact hR8, by rw [HKS.out]; exact hrow8, hx.next hB8, hB8⟩
          case measure => simp [intOf]; omega
end Sg
end Go.Proofs.YteopighhhcikcaaGreatDoor
/- The plain mathematics of a byteStringReplacer: what is put for each byte, and how long it is. Conditions: none. -/
namespace Go.Proofs.YteopighhhcikcaaGreatDoor
namespace Sg
/-- What is put for a byte. -/
def rL (ps : List Pr) (c : UInt8) : List UInt8 := (look ps c).getD [c]
def subL (ps : List Pr) : List UInt8 → List UInt8
  | [] => []
  | c :: t => rL ps c ++ subL ps t
theorem subL_app (ps : List Pr) (a b : List UInt8) : subL ps (a ++ b) = subL ps a ++ subL ps b := by
  induction a with
  | nil => rfl
  | cons c t ih => show rL ps c ++ subL ps (t ++ b) = (rL ps c ++ subL ps t) ++ subL ps b; rw [ih, List.append_assoc]
theorem subL_take {ps : List Pr} {l : List UInt8} {k : Nat} (h : k < l.length) : subL ps (l.take (k + 1)) = subL ps (l.take k) ++ rL ps l[k] := by
  rw [List.take_succ_eq_append_getElem h, subL_app]
  show _ ++ (rL ps l[k] ++ []) = _
  rw [List.append_nil]
/-- Is a byte one for which another text is put? -/
def hitB (ps : List Pr) (c : UInt8) : Bool := (look ps c).isSome
theorem rL_hit {ps : List Pr} {c : UInt8} {n : List UInt8} (h : look ps c = some n) : rL ps c = n ∧ hitB ps c = true := by unfold rL hitB; rw [h]; exact ⟨rfl, rfl⟩
theorem rL_miss {ps : List Pr} {c : UInt8} (h : look ps c = none) : rL ps c = [c] ∧ hitB ps c = false := by unfold rL hitB; rw [h]; exact ⟨rfl, rfl⟩
theorem subL_same {ps : List Pr} {l : List UInt8} (h : l.any (hitB ps) = false) : subL ps l = l := by
  induction l with
  | nil => rfl
  | cons c t ih =>
    rw [List.any_cons, Bool.or_eq_false_iff] at h
    show rL ps c ++ subL ps t = _
    rw [ih h.2]
    cases hl : look ps c with
    | none => rw [(rL_miss hl).1]; rfl
    | some n => rw [(rL_hit hl).2] at h; exact absurd h.1 (by decide)
theorem look_mem {ps : List Pr} {c : UInt8} {n : List UInt8} (h : look ps c = some n) : (c, n) ∈ ps := by
  induction ps with
  | nil => cases h
  | cons p r ih =>
    unfold look at h
    split at h
    · rename_i e
      injection h with h
      subst h; subst e
      exact List.mem_cons_self
    · exact List.mem_cons_of_mem _ (ih h)
theorem look_some {ps : List Pr} {c : UInt8} (h : c ∈ ps.map (·.1)) : (look ps c).isSome = true := by
  induction ps with
  | nil => cases h
  | cons p r ih =>
    unfold look
    split
    · rfl
    · rename_i e
      rw [List.map_cons] at h
      rcases List.mem_cons.1 h with h | h
      · exact absurd h.symm e
      · exact ih h
/-- How long a text is, when some bytes are put. -/
def szK (ps : List Pr) (ks : List UInt8) : List UInt8 → Nat
  | [] => 0
  | c :: t => (if c ∈ ks then (rL ps c).length else 1) + szK ps ks t
theorem szK_nil (ps : List Pr) (l : List UInt8) : szK ps [] l = l.length := by
  induction l with
  | nil => rfl
  | cons c t ih =>
    show (if c ∈ [] then _ else 1) + szK ps [] t = _
    rw [if_neg (by simp), ih, List.length_cons]; omega
theorem szK_more (ps : List Pr) (ks : List UInt8) (k : UInt8) (hk : k ∉ ks) (h1 : 1 ≤ (rL ps k).length) (l : List UInt8) : szK ps (ks ++ [k]) l = szK ps ks l + l.count k * ((rL ps k).length - 1) := by
  induction l with
  | nil => simp [szK]
  | cons c t ih =>
    show (if c ∈ ks ++ [k] then (rL ps c).length else 1) + szK ps (ks ++ [k]) t = (if c ∈ ks then (rL ps c).length else 1) + szK ps ks t + (c :: t).count k * ((rL ps k).length - 1)
    rw [ih, List.count_cons]
    by_cases hc : c = k
    · subst hc
      rw [if_pos (by simp), if_neg hk]
      simp only [beq_self_eq_true, if_true]
      rw [Nat.add_mul, Nat.one_mul]
      omega
    · have e : (c == k) = false := beq_eq_false_iff_ne.2 hc
      rw [e]
      have : (c ∈ ks ++ [k]) ↔ c ∈ ks := by simp [hc]
      by_cases hm : c ∈ ks
      · rw [if_pos (this.2 hm), if_pos hm]; simp; omega
      · rw [if_neg (fun q => hm (this.1 q)), if_neg hm]; simp; omega
theorem szK_all (ps : List Pr) (ks : List UInt8) (h : ∀ c, c ∉ ks → look ps c = none) (l : List UInt8) : szK ps ks l = (subL ps l).length := by
  induction l with
  | nil => rfl
  | cons c t ih =>
    show (if c ∈ ks then (rL ps c).length else 1) + szK ps ks t = (rL ps c ++ subL ps t).length
    rw [ih, List.length_append]
    by_cases hc : c ∈ ks
    · rw [if_pos hc]
    · rw [if_neg hc, (rL_miss (h c hc)).1]; rfl
def anyK (ks l : List UInt8) : Bool := l.any fun c => decide (c ∈ ks)
theorem anyK_nil (l : List UInt8) : anyK [] l = false := by
  unfold anyK
  rw [List.any_eq_false]
  intro x _
  simp
theorem anyK_more (ks l : List UInt8) (k : UInt8) : anyK (ks ++ [k]) l = (anyK ks l || decide (0 < l.count k)) := by
  rw [Bool.eq_iff_iff]
  unfold anyK
  simp only [Bool.or_eq_true, List.any_eq_true, decide_eq_true_iff, List.count_pos_iff, List.mem_append, List.mem_singleton]
  constructor
  · rintro ⟨x, hx, h | h⟩
    · exact .inl ⟨x, hx, h⟩
    · exact .inr (h ▸ hx)
  · rintro (⟨x, hx, h⟩ | h)
    · exact ⟨x, hx, .inl h⟩
    · exact ⟨k, h, .inr rfl⟩
theorem anyK_all (ps : List Pr) (ks : List UInt8) (h : ∀ c, c ∈ ks ↔ hitB ps c = true) (l : List UInt8) : anyK ks l = l.any (hitB ps) := by
  unfold anyK
  congr 1
  funext c
  rw [Bool.eq_iff_iff, decide_eq_true_iff]
  exact h c
theorem count_le (l : List UInt8) (k : UInt8) : l.count k ≤ l.length := List.count_le_length
theorem szK_le (ps : List Pr) (ks : List UInt8) (h : ∀ c, 1 ≤ (rL ps c).length ∧ (rL ps c).length ≤ 100) (l : List UInt8) : l.length ≤ szK ps ks l ∧ szK ps ks l ≤ 100 * l.length := by
  induction l with
  | nil => exact ⟨Nat.le_refl _, Nat.le_refl _⟩
  | cons c t ih =>
    have := h c
    show (c :: t).length ≤ (if c ∈ ks then (rL ps c).length else 1) + szK ps ks t ∧ _ ≤ _
    rw [List.length_cons]
    have e : szK ps ks (c :: t) = (if c ∈ ks then (rL ps c).length else 1) + szK ps ks t := rfl
    rw [e]
    split <;> omega
theorem subL_len (ps : List Pr) (h : ∀ c, 1 ≤ (rL ps c).length ∧ (rL ps c).length ≤ 100) (l : List UInt8) : l.length ≤ (subL ps l).length ∧ (subL ps l).length ≤ 100 * l.length := by
  induction l with
  | nil => exact ⟨Nat.le_refl _, Nat.le_refl _⟩
  | cons c t ih =>
    have := h c
    have e : (subL ps (c :: t)).length = (rL ps c).length + (subL ps t).length := by show (rL ps c ++ subL ps t).length = _; rw [List.length_append]
    rw [e, List.length_cons]
    omega
end Sg
end Go.Proofs.YteopighhhcikcaaGreatDoor
/- (*strings.byteStringReplacer).Replace over pairs whose first is one byte. Conditions: as the theorem's premises say. -/
namespace Go.Proofs.YteopighhhcikcaaGreatDoor
open Go.ChangeShapes Go.WideShapes Go.ChangeAt Go.RowKit
namespace Sg
open RowG (Row)
/-- The buffer's cells: what is written, and noughts. -/
def bufL (a : List UInt8) (r : Nat) : List Value := a.map bv ++ List.replicate r (.int .u8 0)
theorem bufL_len (a : List UInt8) (r : Nat) : (bufL a r).length = a.length + r := by unfold bufL; simp
theorem bufL_at (a : List UInt8) (r : Nat) : (bufL a (r + 1))[a.length]? = some (.int .u8 0) := by
  unfold bufL
  rw [List.getElem?_append_right (by simp)]
  simp
theorem bufL_set (a : List UInt8) (r : Nat) (c : UInt8) : (bufL a (r + 1)).set a.length (bv c) = bufL (a ++ [c]) r := by
  unfold bufL
  rw [List.set_append_right _ _ (by simp)]
  simp [List.replicate_succ]
theorem bufL_splice (a b : List UInt8) (r : Nat) : splice (bufL a (b.length + r)) a.length (b.map bv) = bufL (a ++ b) r := by
  unfold splice bufL
  rw [List.take_left' (by simp), List.length_map, List.map_append, List.append_assoc]
  congr 2
  rw [List.drop_append]
  simp
theorem bv_one (a : List UInt8) : ∀ v ∈ a.map bv, v.oneCell' = true := by
  intro v hv
  obtain ⟨c, -, rfl⟩ := List.mem_map.1 hv
  rfl
theorem bufL_lf {w : World} {g : Nat} {a : List UInt8} (K : Blk w g 5 (bufL a 0).toArray) : Tok.Lf w g 0 a := by
  refine ⟨K.lt, fun j c hc => ?_⟩
  rw [Nat.zero_add, K.cell j]
  unfold bufL
  rw [List.getElem?_toArray, List.replicate_zero, List.append_nil, List.getElem?_map, hc]
  rfl
set_option maxRecDepth 100000 in
theorem cutl_run (g N j : Nat) (hj : j < N) (w : World) : (Instr.slice 74 (.slice (some ⟨g, 0, none⟩) N N) (some (.int .i64 j)) none none).run Tryz.prog w = .ok (.slice (some ⟨g, j, none⟩) (N - j) (N - j)) w := by
  have h1 := run_slice_l (P := Tryz.prog) (w := w) (t := 74) (a := some ⟨g, 0, none⟩) (len := N) (cap := N) Tryz.underlying74 .i64 j (by omega) (by omega)
  have hs : ∀ w, (sizeOf (Tryz.prog.elem 74)).run Tryz.prog w = .ok 1 w := fun w => by kernel_rfl
  rw [h1, hs]
  have : ¬ N = j := by omega
  simp [Result.andThen, sliced, Addr.add, this]
  intro h; exact h.symm
set_option maxRecDepth 100000 in
set_option maxHeartbeats 8000000 in
theorem repl_any (ps : List Pr) (h2 : 2 ≤ ps.length) (h10 : ps.length ≤ 10) (hd : (ps.map (·.1)).Nodup) (hn : ∀ p ∈ ps, 2 ≤ p.2.length ∧ p.2.length ≤ 100) (l : List UInt8) (hl : l.length ≤ 100000) (G : Nat) (w : World) (hG : BsOk w G ps) :
    Calls Tryz.prog 220 #[.pointer (some ⟨G, 0, none⟩), .string (toB l)] w fun e w' => e = .returned (.string (toB (subL ps l))) ∧ Below w.heap.size w w' := by
  obtain ⟨rep, A, cA, KG, hR, hTr⟩ := hG
  have hTr := hTr.reads.1
  rw [List.length_map, List.length_reverse, ← strs_flat] at hTr
  have hz : (toB l).size = l.length := toB_size l
  have hrl : ∀ c, 1 ≤ (rL ps c).length ∧ (rL ps c).length ≤ 100 := by
    intro c
    cases hc : look ps c with
    | none => rw [(rL_miss hc).1]; exact ⟨Nat.le_refl _, by show 1 ≤ 100; decide⟩
    | some n => rw [(rL_hit hc).1]; have := hn _ (look_mem hc); simp only at this; omega
  have hsl := subL_len ps hrl l
  have HRL := Lib.hid hrl
  have HD := Lib.hid hd
  have k256 := KG.cell 256
  rw [bsC_tr] at k256
  obtain ⟨m, hm⟩ : ∃ m, m = ps.length := ⟨_, rfl⟩
  rw [← hm] at k256 KG hTr h2 h10
  have HM := Lib.hid hm
  obtain ⟨N, hNe⟩ : ∃ N, N = (subL ps l).length := ⟨_, rfl⟩
  rw [← hNe] at hsl
  have HN := Lib.hid hNe
  obtain ⟨any, hany⟩ : ∃ any, any = l.any (hitB ps) := ⟨_, rfl⟩
  have HA := Lib.hid hany
  obtain ⟨s, hs⟩ : ∃ s, s = toB l := ⟨_, rfl⟩
  rw [← hs] at hz ⊢
  have HS := Lib.hid hs
  clear hm hNe hany hs hd hrl hn
  go_enter Tryz.func220, Tryz.ntmps220
  go_upto_if 26 with (fail)
  go_cut [5, 6] (fun s5 s6 wx => s5 = .int .i64 N ∧ s6 = .bool any ∧ Below w.heap.size w wx)
  case first =>
    have w0r : ∀ W, Below w.heap.size w W → Blk W G 195 (bsC rep (.slice A m cA)) ∧ RepOk W rep ps ∧ Reads W w.heap.size 1 A m (strs (ps.reverse.map fun p => [p.1])) := fun W hB => ⟨KG.next hB, hR.next (fun _ _ h => h.next hB), hTr.below hB⟩
    have HW := Lib.hid w0r
    clear hTr w0r hR KG
    have hidx := fun c w => idx0 c w
    by_cases hb : m * 8 ≤ l.length
    · have hb' : (m : Int) * 8 ≤ (l.length : Int) := by omega
      obtain ⟨ks, hks⟩ : ∃ ks, ks = ps.reverse.map (·.1) := ⟨_, rfl⟩
      have hkl : ks.length = m := by rw [hks, List.length_map, List.length_reverse]; exact HM.out.symm
      have hkat : ∀ (k : Nat) (c : UInt8), ks[k]? = some c → (strs (ps.reverse.map fun p => [p.1]))[k]? = some (.string (toB [c])) := by
        intro k c hc
        rw [hks, List.getElem?_map] at hc
        unfold strs
        rw [List.getElem?_map, List.getElem?_map]
        cases hp : ps.reverse[k]? with
        | none => rw [hp] at hc; cases hc
        | some p =>
          rw [hp] at hc
          injection hc with hc
          subst hc
          rfl
      have hkn : ks.Nodup := by rw [hks, List.map_reverse]; exact List.pairwise_reverse.2 (List.Pairwise.imp (fun h e => h e.symm) HD.out)
      have hkm : ∀ c, c ∈ ks ↔ hitB ps c = true := by
        intro c
        rw [hks]
        constructor
        · intro h
          refine look_some ?_
          rw [List.map_reverse] at h
          exact List.mem_reverse.1 h
        · intro h
          unfold hitB at h
          cases hc : look ps c with
          | none => rw [hc] at h; cases h
          | some n => exact List.mem_map.2 ⟨(c, n), List.mem_reverse.2 (look_mem hc), rfl⟩
      have HKL := Lib.hid hkl
      have HKA := Lib.hid hkat
      have HKN := Lib.hid hkn
      have HKM := Lib.hid hkm
      clear hkl hkat hkn hkm hks hb
      rw [show decide ((m : Int) * 8 ≤ (l.length : Int)) = true from decide_eq_true hb']
      go_wp2
      go_loopw [5, 6, 32] (fun a b i wr => ∃ k : Nat, k ≤ m ∧ i = .int .i64 k ∧ a = .int .i64 (szK ps (ks.take k) l : Nat) ∧ b = .bool (anyK (ks.take k) l) ∧ Below w.heap.size w wr) (fun _ _ i _ => m - (intOf i).toNat)
      case atStart => exact ⟨0, Nat.zero_le _, rfl, by rw [List.take_zero, szK_nil], by rw [List.take_zero, anyK_nil], Below.refl _ _⟩
      case round =>
        obtain ⟨k, hk, rfl, rfl, rfl, hBr⟩ := hrel
        obtain ⟨Kr, hRr, hTrr⟩ := HW.out wr hBr
        by_cases hlt : k < m
        · have hkk : k < ks.length := by rw [HKL.out]; exact hlt
          obtain ⟨c, hc⟩ : ∃ c, ks[k]? = some c := ⟨_, List.getElem?_eq_getElem hkk⟩
          obtain ⟨ad, u, rfl, -, hu, hcell⟩ := hTrr.at_ hlt
          rw [HKA.out k c hc] at hu
          obtain rfl := (Option.some.inj hu).symm
          have hcm : c ∈ ks := List.mem_of_getElem? hc
          obtain ⟨n, hln⟩ := Option.isSome_iff_exists.1 ((HKM.out c).1 hcm)
          have hcr := hRr c
          rw [hln] at hcr
          obtain ⟨g, gc, hrc, hgc, hLg⟩ := hcr
          have hlt2 := c.toNat_lt
          have ko := Kr.cell c.toNat
          rw [bsC_at _ _ hlt2, hrc] at ko
          have k256r := Kr.cell 256
          rw [bsC_tr] at k256r
          have htk : ks.take (k + 1) = ks.take k ++ [c] := by
            rw [List.take_add_one, hc]; rfl
          have hno : c ∉ ks.take k := by
            intro hm
            have h := HKN.out
            rw [← List.take_append_drop (k + 1) ks, htk, List.append_assoc, List.nodup_append] at h
            exact h.2.2 c hm c (by simp) rfl
          have hr1 := HRL.out c
          have hs1 := szK_more ps (ks.take k) c hno hr1.1 l
          have ha1 := anyK_more (ks.take k) l c
          rw [← htk] at hs1 ha1
          rw [(rL_hit hln).1] at hs1 hr1
          have hb1 := szK_le ps (ks.take k) HRL.out l
          have cc := fun w => Tryz.strings_Count_one s c w
          rw [show s.data.toList = l by rw [HS.out]; rfl] at cc
          unfold Lib.countByte at cc
          have hcnt := count_le l c
          have hx := hidx c
          obtain ⟨cnt, hcn⟩ : ∃ cnt, cnt = l.count c := ⟨_, rfl⟩
          rw [← hcn] at hcnt cc hs1 ha1
          obtain ⟨S1, hS1⟩ : ∃ S1, S1 = szK ps (ks.take (k + 1)) l := ⟨_, rfl⟩
          obtain ⟨a1, hA1⟩ : ∃ a1, a1 = anyK (ks.take (k + 1)) l := ⟨_, rfl⟩
          rw [← hS1] at hs1
          rw [← hA1] at ha1
          have HS1 := Lib.hid hS1
          have HA1 := Lib.hid hA1
          generalize szK ps (ks.take k) l = S0 at *
          generalize anyK (ks.take k) l = a0 at *
          generalize n.length = nl at *
          have k0 : (0 : Int) ≤ (k : Int) := Int.natCast_nonneg _
          have c0 : (0 : Int) ≤ (cnt : Int) := Int.natCast_nonneg _
          have tB : toB [c] = ⟨#[c]⟩ := rfl
          rw [← tB] at cc
          clear hS1 hA1 hcn htk hno hc hu hrc hln tB hcm
          by_cases hc0 : cnt = 0
          · have hc1 : ((cnt : Int) != 0) = false := by rw [bne_eq_false_iff_eq]; omega
            have HSe : Hid (S1 = S0) := by show _ = _; rw [hs1, hc0]; simp
            have HAe : Hid (a1 = a0) := by show _ = _; rw [ha1, hc0]; simp
            clear hs1 ha1 hc0
            go_wp2_with (go_at_call 222; (with_reducible refine (cc _).mono ?_); rintro e w2 ⟨rfl, rfl⟩)
            go_roundw
            case rel => exact ⟨k + 1, by omega, by go_num, by rw [← HS1.out, HSe.out], by rw [← HA1.out, HAe.out], hBr⟩
            case measure => simp [intOf]; omega
          · have hc1 : ((cnt : Int) != 0) = true := by rw [bne_iff_ne]; omega
            have HAe : Hid (a1 = true) := by show _ = _; rw [ha1, decide_eq_true (by omega)]; simp
            have hpr : cnt * (nl - 1) ≤ 10000000 := Nat.le_trans (Nat.mul_le_mul (by omega : cnt ≤ 100000) (by omega : nl - 1 ≤ 100)) (by omega)
            have hpi : (cnt : Int) * ((nl : Int) - 1) = ((cnt * (nl - 1) : Nat) : Int) := by
              rw [Int.natCast_mul]
              congr 1
              omega
            have HP := Lib.hid hpi
            have w1 : IntKind.i64.wrap ((nl : Int) - 1) = (nl : Int) - 1 := IntWalk.i64_in _ (by omega)
            have w2 : IntKind.i64.wrap ((cnt : Int) * ((nl : Int) - 1)) = (cnt : Int) * ((nl : Int) - 1) := IntWalk.i64_in _ (by rw [hpi]; omega)
            have w3 : IntKind.i64.wrap ((S0 : Int) + (cnt : Int) * ((nl : Int) - 1)) = (S0 : Int) + (cnt : Int) * ((nl : Int) - 1) := IntWalk.i64_in _ (by rw [hpi]; omega)
            have HSe := Lib.hid hs1
            clear hs1 ha1 hc0 hpi hpr
            go_wp2_with (go_at_call 222; (with_reducible refine (cc _).mono ?_); rintro e w2 ⟨rfl, rfl⟩)
            go_quiet (fail)
            go_wp2
            go_roundw
            case rel => exact ⟨k + 1, by omega, by go_num, by rw [← HS1.out, HSe.out, HP.out]; go_num, by rw [← HA1.out, HAe.out], below_dr hBr _⟩
            case measure => simp [intOf]; omega
        · obtain rfl : k = m := by omega
          have hfull : ks.take k = ks := List.take_of_length_le (by rw [HKL.out]; exact Nat.le_refl _)
          rw [hfull, szK_all ps ks (fun c hc => by
            cases hq : look ps c with
            | none => rfl
            | some n => exact absurd ((HKM.out c).2 (rL_hit hq).2) hc) l, anyK_all ps ks HKM.out l, ← HN.out, ← HA.out]
          clear hfull
          go_wp2
          go_meet
          exact ⟨rfl, rfl, hBr⟩
    · have hb' : decide ((m : Int) * 8 ≤ (l.length : Int)) = false := decide_eq_false (by omega)
      rw [hb']
      clear hb
      go_wp2
      go_loopw [5, 6, 10] (fun a b i wr => ∃ k : Nat, k ≤ l.length ∧ i = .int .i64 k ∧ a = .int .i64 ((subL ps (l.take k)).length + (l.length - k) : Nat) ∧ b = .bool ((l.take k).any (hitB ps)) ∧ wr = w) (fun _ _ i _ => l.length - (intOf i).toNat)
      case atStart => exact ⟨0, Nat.zero_le _, rfl, by rw [List.take_zero]; simp [subL], by rw [List.take_zero]; rfl, rfl⟩
      case round =>
        obtain ⟨k, hk, rfl, rfl, rfl, rfl⟩ := hrel
        obtain ⟨Kr, hRr, -⟩ := HW.out wr (Below.refl _ _)
        by_cases hlt : k < l.length
        · have hks : k < s.size := by omega
          have hgc : s[k]'hks = l[k] := by have h := HS.out; subst h; rfl
          have hst := subL_take (ps := ps) hlt
          have han : (l.take (k + 1)).any (hitB ps) = ((l.take k).any (hitB ps) || hitB ps l[k]) := by rw [List.take_succ_eq_append_getElem hlt, List.any_append]; simp
          have hsb := subL_len ps HRL.out (l.take k)
          rw [List.length_take, Nat.min_eq_left hk] at hsb
          have hr1 := HRL.out l[k]
          have hcr := hRr l[k]
          generalize l[k] = c at *
          have hlt2 := c.toNat_lt
          have ko := Kr.cell c.toNat
          rw [bsC_at _ _ hlt2] at ko
          have y0 : (0 : Int) ≤ (c.toNat : Int) := Int.natCast_nonneg _
          have y1 : (c.toNat : Int) < 256 := by omega
          have hneq := fun w a n c => run_neq_slice_nil_any (P := Tryz.prog) w 74 5 a n c 0 0 Tryz.underlying74
          obtain ⟨S1, hS1⟩ : ∃ S1, S1 = (subL ps (l.take (k + 1))).length + (l.length - (k + 1)) := ⟨_, rfl⟩
          have HS1 := Lib.hid hS1
          obtain ⟨a1, hA1⟩ : ∃ a1, a1 = (l.take (k + 1)).any (hitB ps) := ⟨_, rfl⟩
          have HA1 := Lib.hid hA1
          rw [hst, List.length_append] at hS1
          rw [han] at hA1
          generalize (subL ps (l.take k)).length = q0 at *
          generalize (l.take k).any (hitB ps) = a0 at *
          cases hlk : look ps c with
          | none =>
            rw [hlk] at hcr
            rw [hcr] at ko
            rw [(rL_miss hlk).1] at hS1
            rw [(rL_miss hlk).2, Bool.or_false] at hA1
            have hS2 : S1 = q0 + (l.length - k) := by rw [hS1]; simp only [List.length_cons, List.length_nil]; omega
            have HS2 := Lib.hid hS2
            have HA2 := Lib.hid hA1
            clear hcr hS1 hA1 hS2 hst han hlk hr1
            go_wp2
            go_roundw
            case rel => exact ⟨k + 1, by omega, by go_num, by rw [← HS1.out, HS2.out], by rw [← HA1.out, HA2.out], by first | trivial | rfl⟩
            case measure => simp [intOf]; omega
          | some n =>
            rw [hlk] at hcr
            obtain ⟨g, gc, hrc, hgc2, hLg⟩ := hcr
            rw [hrc] at ko
            rw [(rL_hit hlk).1] at hS1 hr1
            rw [(rL_hit hlk).2, Bool.or_true] at hA1
            generalize n.length = nl at *
            have hS2 : (S1 : Int) = ((q0 + (l.length - k) : Nat) : Int) + ((nl : Int) - 1) := by rw [hS1]; omega
            have HS2 := Lib.hid hS2
            have HA2 := Lib.hid hA1
            have q1 : q0 + (l.length - k) ≤ 100000000 := by omega
            generalize q0 + (l.length - k) = Q at *
            clear hS1 hA1 hS2 hst han hlk hrc
            go_wp2
            go_roundw
            case rel => exact ⟨k + 1, by omega, by go_num, by rw [← HS1.out, HS2.out], by rw [← HA1.out, HA2.out], by first | trivial | rfl⟩
            case measure => simp [intOf]; omega
        · obtain rfl : k = l.length := by omega
          rw [List.take_length, Nat.sub_self, Nat.add_zero, ← HN.out, ← HA.out]
          go_wp2
          go_meet
          exact ⟨rfl, rfl, Below.refl _ _⟩
  case rest =>
    obtain ⟨rfl, rfl, hB⟩ := hcut
    have hRw := hR.next (fun _ _ h => LfT.next h hB)
    have Kw := KG.next hB
    clear hR KG hTr k256
    cases any with
    | false =>
      have he : Hid (s = toB (subL ps l)) := by show _ = _; rw [HS.out, subL_same HA.out.symm]
      go_wp2
      go_ret
      exact ⟨by rw [← he.out]; rfl, hB⟩
    | true =>
      obtain ⟨i0, hi0, hz0, hz1, hz2⟩ := info_parts u8_info
      have hmk := run_make (P := Tryz.prog) (w := wc) 74 5 i0 _ Tryz.underlying74 hi0 hz0 .i64 .i64 N N (by omega) (Int.le_refl _) (by rw [hz2]; omega) (by omega)
      simp only [Int.toNat_natCast, hz1] at hmk
      have KB := Blk.new wc 5 (madeCells (Value.int .u8 0).cells N)
      have hml : madeCells (Value.int .u8 0).cells N = (bufL [] N).toArray := by
        apply Array.ext'
        rw [show (Value.int .u8 0).cells = #[.int .u8 0] from rfl, toList_madeCells_one]
        unfold bufL
        simp
      rw [Nat.mul_one] at hmk
      rw [hml] at hmk KB
      have hBm := below_al (Below.refl wc.heap.size wc) (.cells (bufL [] N).toArray 5)
      have w0r : ∀ W, Below wc.heap.size wc W → Blk W G 195 (bsC rep (.slice A m cA)) ∧ RepOk W rep ps := fun W hB => ⟨Kw.next hB, hRw.next (fun _ _ h => h.next hB)⟩
      have HW := Lib.hid w0r
      have hGc := Kw.lt
      have hN1 : (N : Int) ≤ 10000000 := by omega
      have hN0 : (0 : Int) ≤ (N : Int) := Int.natCast_nonneg _
      clear w0r hRw Kw hi0 hz0 hz1 hz2 hml HA
      go_wp2
      go_loopw [13, 14] (fun jv iv wr => ∃ k : Nat, k ≤ l.length ∧ iv = .int .i64 k ∧ jv = .int .i64 (subL ps (l.take k)).length ∧ Blk wr wc.heap.size 5 (bufL (subL ps (l.take k)) (subL ps (l.drop k)).length).toArray ∧ Below wc.heap.size wc wr) (fun _ iv _ => l.length - (intOf iv).toNat)
      case atStart => exact ⟨0, Nat.zero_le _, rfl, rfl, by rw [List.take_zero, List.drop_zero, ← HN.out]; exact KB, hBm⟩
      case round =>
        obtain ⟨k, hk, rfl, rfl, Kr, hBr⟩ := hrel
        obtain ⟨KGr, hRr⟩ := HW.out wr hBr
        clear KB hBm hmk
        by_cases hlt : k < l.length
        · have hks : k < s.size := by omega
          have hgc : s[k]'hks = l[k] := by have h := HS.out; subst h; rfl
          have hst := subL_take (ps := ps) hlt
          have hdr : subL ps (l.drop k) = rL ps l[k] ++ subL ps (l.drop (k + 1)) := by rw [List.drop_eq_getElem_cons hlt]; rfl
          have hNs : (subL ps (l.take k)).length + (subL ps (l.drop k)).length = N := by
            rw [HN.out]
            conv => rhs; rw [← List.take_append_drop k l]
            rw [subL_app, List.length_append]
          have hr1 := HRL.out l[k]
          have hcr := hRr l[k]
          generalize l[k] = c at *
          have hlt2 := c.toNat_lt
          have ko := KGr.cell c.toNat
          rw [bsC_at _ _ hlt2] at ko
          have y0 : (0 : Int) ≤ (c.toNat : Int) := Int.natCast_nonneg _
          have y1 : (c.toNat : Int) < 256 := by omega
          have hneq := fun w a n c => run_neq_slice_nil_any (P := Tryz.prog) w 74 5 a n c 0 0 Tryz.underlying74
          obtain ⟨sk, hsk⟩ : ∃ sk, sk = subL ps (l.take k) := ⟨_, rfl⟩
          obtain ⟨sd, hsd⟩ : ∃ sd, sd = subL ps (l.drop (k + 1)) := ⟨_, rfl⟩
          rw [← hsk] at hst Kr hNs ⊢
          rw [← hsd] at hdr
          rw [hdr] at Kr hNs
          have HST := Lib.hid hst
          have HSD := Lib.hid hsd
          rw [List.length_append] at Kr hNs
          clear hst hdr hsk hsd
          cases hlk : look ps c with
          | none =>
            rw [hlk] at hcr
            rw [hcr] at ko
            have hrl := (rL_miss hlk).1
            rw [hrl, show ([c] : List UInt8).length + sd.length = sd.length + 1 from Nat.add_comm _ _] at Kr
            rw [hrl] at hNs hr1
            have HRc := Lib.hid hrl
            have kj := Kr.cell sk.length
            have fj := Kr.frozen sk.length
            rw [List.getElem?_toArray, bufL_at] at kj
            have hK2 : Blk (wr.setCell ⟨wc.heap.size, sk.length, none⟩ (bv c)) wc.heap.size 5 (bufL (sk ++ [c]) sd.length).toArray := by
              have h := Kr.set_ sk.length (bv c)
              rw [List.setIfInBounds_toArray, bufL_set] at h
              exact h
            have hBB := below_set hBr (p := ⟨wc.heap.size, sk.length, none⟩) (Nat.le_refl _) (bv c)
            rw [List.length_singleton] at hNs
            have hj1 : (sk.length : Int) < (N : Int) := by omega
            have hj0 : (0 : Int) ≤ (sk.length : Int) := Int.natCast_nonneg _
            obtain ⟨jl, hjl⟩ : ∃ jl, jl = sk.length := ⟨_, rfl⟩
            rw [← hjl] at kj fj hK2 hj1 hj0 hBB ⊢
            have HJ := Lib.hid hjl
            clear hcr hlk hrl Kr hjl hNs hr1
            unfold bv at hK2 hBB
            go_wp2
            go_roundw
            case rel => exact ⟨k + 1, by omega, by go_num, by rw [HST.out, HRc.out, List.length_append, List.length_singleton, HJ.out]; go_num, by rw [HST.out, HRc.out, ← HSD.out]; exact hK2, hBB⟩
            case measure => simp [intOf]; omega
          | some n =>
            rw [hlk] at hcr
            obtain ⟨g, gc, hrc, hgc2, hLg⟩ := hcr
            rw [hrc] at ko
            have hrl := (rL_hit hlk).1
            rw [hrl] at Kr hNs hr1
            have HRc := Lib.hid hrl
            have hsp := bufL_splice sk n sd.length
            have hcells : ∀ (j : Nat) (v : Value), (n.map bv)[j]? = some v → wr.cell? ((⟨g, 0, none⟩ : Addr).add j) = some v := by
              intro j v hv
              rw [List.getElem?_map] at hv
              cases hj : n[j]? with
              | none => rw [hj] at hv; cases hv
              | some d =>
                rw [hj] at hv
                injection hv with hv
                subst hv
                rw [Tok.add_off]
                exact hLg.1.2 j d hj
            obtain ⟨jl, hjl⟩ : ∃ jl, jl = sk.length := ⟨_, rfl⟩
            obtain ⟨nl, hnl⟩ : ∃ nl, nl = n.length := ⟨_, rfl⟩
            have hjN : jl < N := by omega
            have hcut := fun w => cutl_run wc.heap.size N jl hjN w
            have hfit : jl + (n.map bv).length ≤ (bufL sk (n.length + sd.length)).length := by rw [bufL_len, List.length_map]; omega
            have hmin : (n.map bv).length = Nat.min nl (N - jl) := by rw [List.length_map]; show n.length = min nl (N - jl); rw [Nat.min_def]; split <;> omega
            have hcl : (n.map bv).length = nl := by rw [List.length_map]; exact hnl.symm
            have hbo := bv_one n
            obtain ⟨cs, hcs⟩ : ∃ cs, cs = n.map bv := ⟨_, rfl⟩
            obtain ⟨cur, hcur⟩ : ∃ cur, cur = bufL sk (n.length + sd.length) := ⟨_, rfl⟩
            rw [← hcs] at hcells hfit hmin hbo hsp hcl
            rw [← hcur] at Kr hfit hsp
            rw [← hnl] at hrc ko hgc2 hr1 hNs
            rw [← hjl] at hsp hNs ⊢
            have HJ := Lib.hid hjl
            have HNL := Lib.hid hnl
            have HSP := Lib.hid hsp
            have HCL := Lib.hid hcl
            have HC := Lib.hid hcells
            have HMN := Lib.hid hmin
            have hj0 : (0 : Int) ≤ (jl : Int) := Int.natCast_nonneg _
            have n0 : (0 : Int) ≤ (nl : Int) := Int.natCast_nonneg _
            have n1 : (nl : Int) ≤ 100 := by omega
            have j1 : (jl : Int) ≤ 10000000 := by omega
            have cl1 : cs.length ≤ 100 := by omega
            have wa : IntKind.i64.wrap ((jl : Int) + (cs.length : Int)) = (jl : Int) + (cs.length : Int) := IntWalk.i64_in _ (by omega)
            clear hlk hrl hjl hnl hsp hcl hcells hcs hcur hrc hmin
            go_wp2
            go_region_law (refine step_copy_splice rfl (.tmp 105) (.tmp 111) 74 74 rfl 5 Tryz.underlying74 (by kernel_rfl) (some ⟨wc.heap.size, jl, none⟩) (some ⟨g, 0, none⟩) (N - jl) (N - jl) nl gc rfl rfl wc.heap.size jl cur 5 Kr cs HMN.out (fun _ => ⟨rfl, _, rfl, HC.out⟩) hfit hbo wc.heap.size wc hBr.drew (Nat.le_refl _) ?_; intro w4 hg4 hb4)
            all_goals
              go_wp2
              go_roundw
              case rel => exact ⟨k + 1, by omega, by go_num, by
                rw [HST.out, HRc.out, List.length_append, ← HJ.out, ← HNL.out, ← HCL.out]; go_num, by
                have h := hg4.out
                rw [HSP.out] at h
                rw [HST.out, HRc.out, ← HSD.out]
                exact h, hb4⟩
              case measure => simp [intOf]; omega
        · obtain rfl : k = l.length := by omega
          rw [List.take_length, List.drop_length] at Kr
          have hL := bufL_lf Kr
          have htx := Tok.textV hL (subL ps l).length N (Nat.le_refl _)
          rw [List.take_length, ← HN.out] at htx
          rw [List.take_length]
          obtain ⟨R, hR⟩ : ∃ R, R = toB (subL ps l) := ⟨_, rfl⟩
          rw [← hR] at htx
          have HR := Lib.hid hR
          clear hR Kr hL
          go_wp2
          go_ret
          exact ⟨by rw [← HR.out]; rfl, below_next hB hBr⟩
end Sg
end Go.Proofs.YteopighhhcikcaaGreatDoor
/- token.Sign. Conditions: the text is not too long. -/
namespace Go.Proofs.YteopighhhcikcaaGreatDoor
open Go.ChangeShapes Go.WideShapes Go.ChangeAt Go.RowKit
namespace Sg
open Rep (TxAt Oth)
open RowG (Row)
theorem row_set {α : Type} {w : World} {base k g i : Nat} {e t : TypeId} {enc : α → List Value} {v : Value} {l : List α} {cs : Array Value} (h : Row w base e k enc v l) (K : Blk w g t cs) (ht : e ≠ t) (u : Value) : Row (w.setCell ⟨g, i, none⟩ u) base e k enc v l :=
  ownsRow_setCell_other h (a := ⟨g, i, none⟩) (own_blk_ne h K ht) u
theorem bs_set {w : World} {G b i : Nat} {ps : List Pr} {cs : Array Value} (h : BsOk w G ps) (K : Blk w b 130 cs) (v : Value) : BsOk (w.setCell ⟨b, i, none⟩ v) G ps := by
  obtain ⟨rep, A, c, KG, hR, hrow⟩ := h
  exact ⟨rep, A, c, KG.far (p := ⟨b, i, none⟩) (Blk.ne_ KG K (by decide)) v, hR.next (fun g l h => h.far (p := ⟨b, i, none⟩) (h.ne K (by decide)) v), row_set hrow K (by decide) v⟩
theorem bs_next {w w' : World} {G : Nat} {ps : List Pr} (h : BsOk w G ps) (hb : Below w.heap.size w w') : BsOk w' G ps := by
  obtain ⟨rep, A, c, KG, hR, hrow⟩ := h
  exact ⟨rep, A, c, KG.next hb, hR.next (fun g l h => h.next hb), hrow.below hb⟩
/-- What is asked of pairs. -/
def PsOk (ps : List Pr) : Prop := 2 ≤ ps.length ∧ ps.length ≤ 10 ∧ (ps.map (·.1)).Nodup ∧ ∀ p ∈ ps, 2 ≤ p.2.length ∧ p.2.length ≤ 100
def SignR (ps : List Pr) (w0 : World) (W : World) (X : Value) : Prop := ∃ G, X = .iface 196 (.pointer (some ⟨G, 0, none⟩)) ∧ BsOk W G ps ∧ Below w0.heap.size w0 W
set_option maxRecDepth 100000 in
set_option maxHeartbeats 8000000 in
theorem once_sign (ps : List Pr) (hp : PsOk ps) (w0 : World) (b q cap : Nat) (w : World) (hb : w0.heap.size ≤ b) (hB0 : Below w0.heap.size w0 w) (K : Blk w b 130 #[.int .u32 0, .int .i32 1, .int .u32 0, .nilIface, .slice (some ⟨q, 0, none⟩) (flat ps).length cap]) (hx : TxAt w q (flat ps)) :
    Calls Tryz.prog 95 #[.pointer (some ⟨b, 0, none⟩)] w fun e w' => e = .returned (.tuple #[]) ∧ ∃ X, Blk w' b 130 #[.int .u32 0, .int .i32 1, .int .u32 0, X, .slice none 0 0] ∧ SignR ps w0 w' X := by
  have cb := build_any ps hp.1 hp.2.1 hp.2.2.1 hp.2.2.2 b q cap w K hx
  have hlt := K.lt
  go_enter Tryz.func95, Tryz.ntmps95
  go_wp2_with (go_at_call 126; (with_reducible refine cb.mono ?_); rintro e w1 ⟨⟨G, rfl, hGb, hG⟩, hB⟩
               have K1 := K.next hB
               have k3 := K1.cell 3
               have k4 := K1.cell 4
               have f3 := K1.frozen 3
               have f4 := K1.frozen 4)
  first | go_end0 | refine bodyPost_ret (results_none rfl _ _ _) rfl ?_
  have K2 := K1.set_ 3 (.iface 196 (.pointer (some ⟨G, 0, none⟩)))
  have hG2 := bs_set (i := 4) (bs_set (i := 3) hG K1 (.iface 196 (.pointer (some ⟨G, 0, none⟩)))) K2 (.slice none 0 0)
  exact ⟨rfl, _, K2.set_ 4 _, G, rfl, hG2, below_set (below_set (below_next hB0 hB) (p := ⟨b, 3, none⟩) hb _) (p := ⟨b, 4, none⟩) hb _⟩
theorem method_bs (f G : Nat) (w : World) : (method (f + 1) 196 (.pointer (some ⟨G, 0, none⟩)) "Replace").run Tryz.prog w = .ok (220, .pointer (some ⟨G, 0, none⟩)) w := by kernel_rfl
set_option maxRecDepth 100000 in
set_option maxHeartbeats 8000000 in
theorem replace_sign (ps : List Pr) (hp : PsOk ps) (l : List UInt8) (hl : l.length ≤ 100000) (w0 : World) (b q cap : Nat) (w : World) (hb : w0.heap.size ≤ b) (hB : Below w0.heap.size w0 w) (K : Blk w b 130 #[.int .u32 0, .int .i32 0, .int .u32 0, .nilIface, .slice (some ⟨q, 0, none⟩) (flat ps).length cap]) (hx : TxAt w q (flat ps)) (hqb : ¬ q = b) :
    Calls Tryz.prog 61 #[.pointer (some ⟨b, 0, none⟩), .string (toB l)] w fun e w' => e = .returned (.string (toB (subL ps l))) ∧ Below w0.heap.size w0 w' := by
  have cd := Once.do_first b .nilIface (.slice (some ⟨q, 0, none⟩) (flat ps).length cap) (SignR ps w0) w K (fun W hK hW => by
    subst hW
    exact once_sign ps hp w0 b q cap _ hb (below_set hB (p := ⟨b, 1, none⟩) hb _) hK (hx.far (p := ⟨b, 1, none⟩) hqb _))
  have hme : ∀ G w, (method 383 196 (.pointer (some ⟨G, 0, none⟩)) "Replace").run Tryz.prog w = .ok (220, .pointer (some ⟨G, 0, none⟩)) w := fun G w => method_bs 382 G w
  have hmf : ∀ (fn : Fn) (first cap : Array Value) (w : World), (Instr.makeFunc fn first cap).run Tryz.prog w = .ok (.func fn first cap) w := fun _ _ _ _ => rfl
  have cr := fun G w h => repl_any ps hp.1 hp.2.1 hp.2.2.1 hp.2.2.2 l hl G w h
  generalize toB l = s at *
  generalize toB (subL ps l) = R at *
  clear hx
  go_enter Tryz.func61, Tryz.ntmps61
  go_wp2_with (first
    | (go_at_call 94; (with_reducible refine cd.mono ?_); rintro e w2 ⟨rfl, W0, X, KX, ⟨G, rfl, hG, hB0⟩, rfl⟩
       have K1 := KX.set_ 0 (.int .u32 1)
       have k3 := KX.cell 3
       have hG2 : BsOk ((W0.setCell ⟨b, 0, none⟩ (.int .u32 1)).setCell ⟨b, 1, none⟩ (.int .i32 0)).drew G ps := bs_set (i := 1) (bs_set (i := 0) hG KX (.int .u32 1)) K1 (.int .i32 0)
       have hB2 : Below w0.heap.size w0 ((W0.setCell ⟨b, 0, none⟩ (.int .u32 1)).setCell ⟨b, 1, none⟩ (.int .i32 0)).drew := (below_set (below_set hB0 (p := ⟨b, 0, none⟩) hb (.int .u32 1)) (p := ⟨b, 1, none⟩) hb (.int .i32 0)).drew)
    | (go_at_call 220; (with_reducible refine (cr _ _ hG2).mono ?_); rintro e w3 ⟨rfl, hb3⟩))
  go_ret
  exact ⟨rfl, below_next hB2 hb3⟩
def psT (q : Bool) : List Pr := [(38, [38, 97, 109, 112, 59]), (60, [38, 108, 116, 59]), (62, [38, 103, 116, 59])] ++ (if q then [(34, [38, 113, 117, 111, 116, 59])] else [])
theorem psT_ok (q : Bool) : PsOk (psT q) := by
  cases q
  · exact ⟨by decide, by decide, by decide, by decide⟩
  · exact ⟨by decide, by decide, by decide, by decide⟩
theorem rL_sg (q : Bool) (c : UInt8) : rL (psT q) c = Tok.sgC q c := by
  unfold rL Tok.sgC psT
  by_cases h1 : c = 38
  · subst h1; rfl
  · by_cases h2 : c = 60
    · subst h2; rfl
    · by_cases h3 : c = 62
      · subst h3; rfl
      · have n1 : ¬ (38 : UInt8) = c := fun e => h1 e.symm
        have n2 : ¬ (60 : UInt8) = c := fun e => h2 e.symm
        have n3 : ¬ (62 : UInt8) = c := fun e => h3 e.symm
        rw [if_neg h1, if_neg h2, if_neg h3]
        cases q
        · simp [look, n1, n2, n3]
        · by_cases h4 : c = 34
          · subst h4; rfl
          · have n4 : ¬ (34 : UInt8) = c := fun e => h4 e.symm
            simp [look, n1, n2, n3, n4, h4]
theorem sub_sign (q : Bool) (l : List UInt8) : subL (psT q) l = Tok.signL q l := by
  induction l with
  | nil => rfl
  | cons c t ih => show rL (psT q) c ++ subL (psT q) t = Tok.sgC q c ++ Tok.signL q t; rw [rL_sg, ih]
set_option maxRecDepth 100000 in
set_option maxHeartbeats 8000000 in
/-- Sign answers what is signed. -/
theorem sign_any (l : List UInt8) (q : Bool) (hl : l.length ≤ 100000) (w : World) : Calls Tryz.prog 24 #[.string (toB l), .bool q] w fun e w' => e = .returned (.string (toB (Tok.signL q l))) ∧ Below w.heap.size w w' := by
  rw [← sub_sign]
  cases q with
  | false =>
    have hT := Rep.tx_new w (flat (psT false)) 9
    have hB := below_al (Below.refl w.heap.size w) (.cells (strs (flat (psT false))).toArray 9)
    have cn := Rep.new_any (flat (psT false)) (by decide) (by decide) (by decide) w.heap.size 6 _ hT
    have cr := fun b q cap W hb hB K hx hqb => replace_sign (psT false) (psT_ok false) l hl w b q cap W hb hB K hx hqb
    have hz := size_al w (.cells (strs (flat (psT false))).toArray 9)
    generalize toB l = s at *
    generalize toB (subL (psT false) l) = R at *
    go_enter Tryz.func24, Tryz.ntmps24
    go_wp2_with (first
      | (go_at_call 60; (refine cn.mono ?_); rintro e w2 ⟨q, b, cap, rfl, K2, hx2, hqb, hq, hb, hb2⟩
         have hB2 := below_next hB hb2
         have hb3 : w.heap.size ≤ b := by omega)
      | (go_at_call 61; (with_reducible refine (cr b q cap _ hb3 hB2 K2 hx2 hqb).mono ?_); rintro e w3 ⟨rfl, hB3⟩))
    go_ret
    exact ⟨rfl, hB3⟩
  | true =>
    have hB := below_al (Below.refl w.heap.size w) (.cells (strs (flat (psT false))).toArray 9)
    have hown : (w.alloc (.cells (strs (flat (psT false))).toArray 9)).ownsRow w.heap.size 9 1 (.slice (some ⟨w.heap.size, 0, none⟩) 6 6) 6 (strs (flat (psT false))) :=
      ⟨rfl, .inr ⟨w.heap.size, 6, (strs (flat (psT false))).toArray, rfl, Nat.le_refl _, heap_alloc_new w _, Nat.le_refl _, by decide, rfl, rfl⟩⟩
    obtain ⟨i0, hi0, hz0, hz1, hz2⟩ := Rep.str_info'
    have hB2 := below_al hB (.cells (strs [[34], [38, 113, 117, 111, 116, 59]]).toArray 9)
    have hnc := RowG.new_cells (w.alloc (.cells (strs (flat (psT false))).toArray 9)) 9 (strs [[34], [38, 113, 117, 111, 116, 59]])
    rw [size_al] at hnc
    have hr : Reads ((w.alloc (.cells (strs (flat (psT false))).toArray 9)).alloc (.cells (strs [[34], [38, 113, 117, 111, 116, 59]]).toArray 9)) (w.heap.size + 2) 1 (some ⟨w.heap.size + 1, 0, none⟩) 2 (strs [[34], [38, 113, 117, 111, 116, 59]]) :=
      ⟨rfl, fun _ => ⟨_, rfl, Nat.lt_succ_self _, fun j u hu => by rw [add_zero_]; exact hnc j u hu⟩⟩
    obtain ⟨v', w', hrun, hown', hg, -⟩ := run_append_any (P := Tryz.prog) _ w.heap.size 87 87 9 i0 _ 1 16 Tryz.underlying87 hi0 hz0 hz1 hz2 rfl (by decide) _ 6 _ (World.ownsRow.alloc hown (.cells (strs [[34], [38, 113, 117, 111, 116, 59]]).toArray 9)) (w.heap.size + 2) _ 2 2 _ hr (by
      intro u hu
      simp only [strs, List.map_cons, List.map_nil, List.mem_cons, List.not_mem_nil, or_false] at hu
      rcases hu with rfl | rfl <;> rfl) (by decide) (by decide) hB2.size
    have hbg : Below w.heap.size w w' := hB2.grown hg hB2.size (fun k hk => (World.ownsRow.lt hown k hk).1)
    obtain ⟨g, cap, rfl, hcell⟩ : ∃ g cap, v' = .slice (some ⟨g, 0, none⟩) 8 cap ∧ TxAt w' g (flat (psT true)) := by
      rcases hown'.2 with ⟨-, h0⟩ | ⟨g, cap, cur, rfl, h1, h2, h3, h4, h5, h6⟩
      · exact absurd h0 (by decide)
      · refine ⟨g, cap, rfl, ?_, fun j x hj => ?_⟩
        · exact (Array.getElem?_eq_some_iff.1 h2).1
        · rw [cell_of_row w' g j cur _ _ h2]
          have hlt : j < 8 := (List.getElem?_eq_some_iff.1 hj).1
          have h7 : (cur.toList.take 8)[j]? = some x := by
            have e : cur.toList.take (8 * 1) = strs (flat (psT true)) := h6
            rw [Nat.mul_one] at e
            rw [e]; exact hj
          rw [List.getElem?_take, if_pos hlt] at h7
          simpa using h7
    have cn := Rep.new_any (flat (psT true)) (by decide) (by decide) (by decide) g cap w' hcell
    have cr := fun b q cap W hb hB K hx hqb => replace_sign (psT true) (psT_ok true) l hl w b q cap W hb hB K hx hqb
    have hsz := hbg.size
    generalize toB l = s at *
    generalize toB (subL (psT true) l) = R at *
    clear hr hnc hown hown' hi0 hz0 hz1 hz2 hcell
    go_enter Tryz.func24, Tryz.ntmps24
    go_wp2_with (first
      | (refine Rep.wpList_app (by rfl) (.tmp 8) (.tmp 9) 87 (by rfl) (.slice (some ⟨w.heap.size, 0, none⟩) 6 6) (.slice (some ⟨w.heap.size + 1, 0, none⟩) 2 2) _ _ (by rfl) (by rfl) hrun ?_)
      | (go_at_call 60; (refine cn.mono ?_); rintro e w2 ⟨q, b, cap2, rfl, K2, hx2, hqb, hq, hb, hb2⟩
         have hB2 := below_next hbg hb2
         have hb3 : w.heap.size ≤ b := by omega)
      | (go_at_call 61; (with_reducible refine (cr b q cap2 _ hb3 hB2 K2 hx2 hqb).mono ?_); rintro e w3 ⟨rfl, hB3⟩))
    go_ret
    exact ⟨rfl, hB3⟩
end Sg
end Go.Proofs.YteopighhhcikcaaGreatDoor
namespace Go.Proofs.YteopighhhcikcaaGreatDoor
open Go.ChangeShapes Go.WideShapes Go.ChangeAt Go.RowKit
namespace Tok
def ex0 : List UInt8 := [60, 80, 32, 105, 100, 61, 34, 97, 34, 62, 120, 60, 47, 112, 62, 38, 108, 116, 59, 60]
def ex1 : List T := [⟨1, [112], [], [([105, 100], [97])]⟩, ⟨3, [], [120], []⟩, ⟨2, [112], [], []⟩, ⟨3, [], [60, 60], []⟩]
theorem ex_read : readP ex0 = ex1 := by decide +kernel
theorem ex_n1 : nameB [97, 45, 49] = true := by decide +kernel
theorem ex_n2 : nameB [65] = false := by decide +kernel
theorem ex_t : Rep.tellL [38, 97, 109, 112, 59, 108, 116, 59] = [38, 108, 116, 59] := by decide +kernel
theorem ex_s : signL true [60, 34] = [38, 108, 116, 59, 38, 113, 117, 111, 116, 59] := by decide +kernel
/-- The cells of the tokens that awake writes itself. -/
def exC (g : Nat) : List TC := [⟨1, ⟨#[112]⟩, ⟨#[]⟩, some ⟨g, 0, none⟩, 1, 1⟩, ⟨3, ⟨#[]⟩, ⟨#[120]⟩, none, 0, 0⟩, ⟨2, ⟨#[112]⟩, ⟨#[]⟩, none, 0, 0⟩, ⟨3, ⟨#[]⟩, ⟨#[60, 60]⟩, none, 0, 0⟩]
theorem ex_want (w : World) : TR ((w.alloc (.cells (atC ([105, 100], [97])).toArray 41)).alloc (.cells ((exC w.heap.size).flatMap tcC).toArray 42)) ((w.alloc (.cells (atC ([105, 100], [97])).toArray 41)).alloc (.cells ((exC w.heap.size).flatMap tcC).toArray 42)).heap.size (some ⟨w.heap.size + 1, 0, none⟩) 4 ex1 := by
  have h1 := RowG.new_cells w 41 (atC ([105, 100], [97]))
  have h2 := RowG.new_cells (w.alloc (.cells (atC ([105, 100], [97])).toArray 41)) 42 ((exC w.heap.size).flatMap tcC)
  rw [size_al] at h2
  have hz : ((w.alloc (.cells (atC ([105, 100], [97])).toArray 41)).alloc (.cells ((exC w.heap.size).flatMap tcC).toArray 42)).heap.size = w.heap.size + 1 + 1 := by rw [size_al, size_al]
  rw [hz]
  refine ⟨exC w.heap.size, ⟨rfl, fun _ => ⟨_, rfl, Nat.lt_succ_self _, fun j u hu => by rw [add_zero_]; exact h2 j u hu⟩⟩, rfl, fun i c t hc ht => ?_⟩
  have hr : ∀ (A : Option Addr), Reads ((w.alloc (.cells (atC ([105, 100], [97])).toArray 41)).alloc (.cells ((exC w.heap.size).flatMap tcC).toArray 42)) (w.heap.size + 1 + 1) 2 A 0 [] := fun A => ⟨rfl, fun h => absurd h (Nat.lt_irrefl 0)⟩
  match i, hc, ht with
  | 0, hc, ht =>
    obtain rfl := Option.some.inj hc
    obtain rfl := Option.some.inj ht
    refine ⟨rfl, rfl, rfl, rfl, rfl, fun _ => ⟨_, rfl, ?_, fun j u hu => ?_⟩⟩
    · show w.heap.size < _; omega
    · rw [add_zero_]
      exact (World.cell?_alloc_lt _ _ _ (by show w.heap.size < _; rw [size_al]; exact Nat.lt_succ_self _)).trans (h1 j u hu)
  | 1, hc, ht =>
    obtain rfl := Option.some.inj hc
    obtain rfl := Option.some.inj ht
    exact ⟨rfl, rfl, rfl, rfl, hr _⟩
  | 2, hc, ht =>
    obtain rfl := Option.some.inj hc
    obtain rfl := Option.some.inj ht
    exact ⟨rfl, rfl, rfl, rfl, hr _⟩
  | 3, hc, ht =>
    obtain rfl := Option.some.inj hc
    obtain rfl := Option.some.inj ht
    exact ⟨rfl, rfl, rfl, rfl, hr _⟩
set_option maxRecDepth 100000 in
set_option maxHeartbeats 8000000 in
theorem awakeT_any (w : World) : Calls Tryz.prog 15 #[] w fun e w' => e = .returned (.bool true) ∧ Below w.heap.size w w' := by
  have cr := fun w => read_any ex0 (by decide) w
  rw [show toB ex0 = ⟨#[60, 80, 32, 105, 100, 61, 34, 97, 34, 62, 120, 60, 47, 112, 62, 38, 108, 116, 59, 60]⟩ from rfl, ex_read] at cr
  have n1 := fun w => name_any [97, 45, 49] (by decide) w
  rw [show toB [97, 45, 49] = ⟨#[97, 45, 49]⟩ from rfl, ex_n1] at n1
  have n2 := fun w => name_any [65] (by decide) w
  rw [show toB [65] = ⟨#[65]⟩ from rfl, ex_n2] at n2
  have ct := fun w => Rep.tell_any [38, 97, 109, 112, 59, 108, 116, 59] (by decide) w
  rw [show toB [38, 97, 109, 112, 59, 108, 116, 59] = ⟨#[38, 97, 109, 112, 59, 108, 116, 59]⟩ from rfl, ex_t, show toB [38, 108, 116, 59] = ⟨#[38, 108, 116, 59]⟩ from rfl] at ct
  have cs := fun w => Sg.sign_any [60, 34] true (by decide) w
  rw [show toB [60, 34] = ⟨#[60, 34]⟩ from rfl, ex_s, show toB [38, 108, 116, 59, 38, 113, 117, 111, 116, 59] = ⟨#[38, 108, 116, 59, 38, 113, 117, 111, 116, 59]⟩ from rfl] at cs
  go_enter Tryz.func15, Tryz.ntmps15
  go_wp2_with (first
    | (go_at_call 16; (with_reducible refine (cr _).mono ?_); rintro e w2 ⟨v, rfl, hT, hB2⟩
       obtain ⟨A2, c2, rfl, hT2⟩ := hT.tr
       have hb3 := below_al (below_al (Below.refl w2.heap.size w2) (.cells (atC ([105, 100], [97])).toArray 41)) (.cells ((exC w2.heap.size).flatMap tcC).toArray 42)
       have hT3 := hT2.next hb3
       have hW3 := ex_want w2
       have hB3 := below_next hB2 hb3)
    | (go_at_call 19; (refine (ownT_any A2 ex1.length c2 ex1 (by decide) _ hT3).mono ?_); rintro e w4 ⟨A4, c4, rfl, hT4, hb4⟩
       have hB4 := below_next hB3 hb4
       have hW4 := hW3.next hb4
       have csm := sameT_any A4 ex1.length c4 ex1 (some ⟨w2.heap.size + 1, 0, none⟩) 4 4 ex1 (by decide) (by decide) w4 w4.heap.size hT4 hW4)
    | (go_at_call 18; (refine csm.mono ?_); rintro e w5 ⟨rfl, q, rfl⟩
       have hB5 := below_dr hB4 q)
    | (go_at_call 20; (with_reducible refine (n1 _).mono ?_); rintro e w6 ⟨rfl, hb6⟩
       have hB6 := below_next hB5 hb6)
    | (go_at_call 20; (with_reducible refine (n2 _).mono ?_); rintro e w7 ⟨rfl, hb7⟩
       have hB7 := below_next hB6 hb7)
    | (go_at_call 22; (with_reducible refine (ct _).mono ?_); rintro e w8 ⟨rfl, hb8⟩
       have hB8 := below_next hB7 hb8)
    | (go_at_call 24; (with_reducible refine (cs _).mono ?_); rintro e w9 ⟨rfl, hb9⟩
       have hB9 := below_next hB8 hb9))
  go_ret
  exact ⟨rfl, hB9⟩
end Tok
end Go.Proofs.YteopighhhcikcaaGreatDoor
