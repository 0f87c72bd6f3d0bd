/- A list of tokens that a call gathers; token's withText. Conditions: the bytes lie in memory, and are not too many. -/
import Derived.Test.YteopighhhcikcaaGreatDoorTokF
namespace Go.Proofs.YteopighhhcikcaaGreatDoor
open Go.ChangeShapes Go.WideShapes Go.ChangeAt Go.RowKit
namespace Tok
open Rep (tellL)
open RowG (Row)
/-- A token's cells. -/
structure TC where
  k : Int
  n : ByteArray
  x : ByteArray
  A : Option Addr
  m : Nat
  c : Nat
def tcC (t : TC) : List Value := [.int .i64 t.k, .string t.n, .string t.x, .slice t.A t.m t.c]
theorem tcC_len (t : TC) : (tcC t).length = 4 := rfl
theorem tcC_one (t : TC) : ∀ u ∈ tcC t, u.oneCell' = true := by
  intro u hu
  simp only [tcC, List.mem_cons, List.not_mem_nil, or_false] at hu
  rcases hu with rfl | rfl | rfl | rfl <;> rfl
def tcV (t : TC) : Value := .agg #[.int .i64 t.k, .string t.n, .string t.x, .slice t.A t.m t.c]
/-- Tokens that a call has gathered. -/
def TksV (w : World) (base : Nat) (v : Value) (ts : List T) : Prop := ∃ cs : List TC, Row w base 38 4 tcC v cs ∧ cs.length = ts.length ∧ ∀ (i : Nat) (c : TC) (t : T), cs[i]? = some c → ts[i]? = some t → TkV w base (tcV c) t
theorem TksV.next {w w' : World} {base : Nat} {v : Value} {ts : List T} (h : TksV w base v ts) (hb : Below w.heap.size w w') : TksV w' base v ts := by
  obtain ⟨cs, h1, h2, h3⟩ := h
  exact ⟨cs, h1.below hb, h2, fun i c t hc ht => (h3 i c t hc ht).next hb⟩
theorem TksV.form {w : World} {base : Nat} {v : Value} {ts : List T} (h : TksV w base v ts) : ∃ A c, v = .slice A ts.length c := by
  obtain ⟨cs, h1, h2, -⟩ := h
  obtain ⟨A, c, e⟩ := h1.form
  exact ⟨A, c, by rw [e, h2]⟩
theorem TksV.nil (w : World) (base : Nat) : TksV w base (.slice none 0 0) [] := ⟨[], Row.nil _ _ _ _ _, rfl, fun i c t h => by simp at h⟩
/-- A row of another type lies as it lay when one has grown. -/
theorem row_grown {α β : Type} {w w' : World} {base base' k k' : Nat} {e e' : TypeId} {enc : α → List Value} {enc' : β → List Value} {v v' : Value} {l : List α} {l' : List β} (h : Row w base e k enc v l) (h' : Row w base' e' k' enc' v' l') (hne : e ≠ e') (hg : w.grownBy w' v'.ownBlock) : Row w' base e k enc v l := by
  refine ⟨h.1, ?_⟩
  rcases h.2 with h2 | ⟨g, cap, cur, h1, h2, h3, h4⟩
  · exact Or.inl h2
  · refine Or.inr ⟨g, cap, cur, h1, h2, ?_, h4⟩
    have hlt : g < w.heap.size := by
      rcases Nat.lt_or_ge g w.heap.size with hlt | hge
      · exact hlt
      · rw [Array.getElem?_eq_none hge] at h3; cases h3
    rw [hg.block g hlt ?_]
    · exact h3
    · intro he
      rcases h'.2 with ⟨rfl, _⟩ | ⟨g', cap', cur', rfl, _, h5, _⟩
      · simp [Value.ownBlock] at he
      · have : g = g' := by simpa [Value.ownBlock] using he
        subst this
        rw [h5] at h3
        injection h3 with h3
        injection h3 with _ h3
        exact hne h3.symm
theorem at_tok : 41 ≠ 38 := by decide
theorem TkV.grown {w w' : World} {base base' : Nat} {v v' : Value} {t : T} {cs : List TC} (h : TkV w base v t) (h' : Row w base' 38 4 tcC v' cs) (hg : w.grownBy w' v'.ownBlock) : TkV w' base v t := by
  obtain ⟨A, c, e, h⟩ := h
  exact ⟨A, c, e, row_grown h h' at_tok hg⟩
theorem info_tok : (Tryz.prog.info? 38).map (fun i => (i.zero, i.size, i.bytes)) = some (some (.agg #[.int .i64 0, .string ⟨#[]⟩, .string ⟨#[]⟩, .slice none 0 0]), 4, 64) := by kernel_rfl
/-- One more token. -/
theorem tks_more {w w' : World} {base : Nat} {v v' : Value} {ts : List T} {cs : List TC} {c : TC} {t : T} (h : Row w base 38 4 tcC v cs) (hl : cs.length = ts.length) (ha : ∀ (i : Nat) (c : TC) (t : T), cs[i]? = some c → ts[i]? = some t → TkV w base (tcV c) t)
    (ht : TkV w base (tcV c) t) (h' : Row w' base 38 4 tcC v' (cs ++ [c])) (hg : w.grownBy w' v.ownBlock) : TksV w' base v' (ts ++ [t]) := by
  refine ⟨cs ++ [c], h', by simp [hl], fun i c1 t1 hc1 ht1 => ?_⟩
  by_cases hi : i < cs.length
  · rw [List.getElem?_append_left hi] at hc1
    rw [List.getElem?_append_left (by omega)] at ht1
    exact (ha i c1 t1 hc1 ht1).grown h hg
  · rw [List.getElem?_append_right (by omega)] at hc1
    rw [List.getElem?_append_right (by omega)] at ht1
    have hz : i - cs.length = 0 := by
      have := (List.getElem?_eq_some_iff.1 hc1).1
      simp at this; omega
    rw [hz] at hc1
    rw [← hl, hz] at ht1
    obtain rfl : c = c1 := by simpa using hc1
    obtain rfl : t = t1 := by simpa using ht1
    exact ht.grown h hg
/-- What a call may have written: new memory, and its own row. -/
def Kept (w w' : World) (row : Option Nat) : Prop := w.heap.size ≤ w'.heap.size ∧ ∀ g, g < w.heap.size → some g ≠ row → w'.heap[g]? = w.heap[g]?
theorem Kept.blk {w w' : World} {row : Option Nat} {g : Nat} {t : TypeId} {cs : Array Value} (h : Kept w w' row) (hb : Blk w g t cs) (hg : some g ≠ row) : Blk w' g t cs := (h.2 g hb.lt hg).trans hb
theorem kept_below {w w' : World} (hb : Below w.heap.size w w') (row : Option Nat) : Kept w w' row := ⟨hb.size, fun g hg _ => hb.block g hg⟩
theorem kept_grown {w wm w' : World} {row : Option Nat} (hb : Below w.heap.size w wm) (hg : wm.grownBy w' row) : Kept w w' row :=
  ⟨Nat.le_trans hb.size hg.size, fun g h hne => (hg.block g (Nat.lt_of_lt_of_le h hb.size) hne).trans (hb.block g h)⟩
set_option maxRecDepth 100000 in
set_option maxHeartbeats 8000000 in
theorem withText_any (E : World) (g : Nat) (tv xv : Value) (ts : List T) (u : List UInt8) (hu : u.length ≤ 1000000) (hts : ts.length ≤ 1000000) (w : World) (hT : TksV w E.heap.size tv ts) (hx : LfV w g xv u) (hB : Below E.heap.size E w) :
    Calls Tryz.prog 53 #[tv, xv] w fun e w' => ∃ v', e = .returned v' ∧ TksV w' E.heap.size v' (ts ++ txtP u) ∧ Below E.heap.size E w' ∧ Kept w w' tv.ownBlock ∧ (∀ vt t, TkV w E.heap.size vt t → TkV w' E.heap.size vt t) ∧ (∀ g, v'.ownBlock = some g → tv.ownBlock = some g ∨ w.heap.size ≤ g) := by
  obtain ⟨o, cap, rfl, hc, hL⟩ := hx
  cases u with
  | nil =>
    have e : ts ++ txtP [] = ts := by unfold txtP; simp
    rw [e]
    go_enter Tryz.func53, Tryz.ntmps53
    go_wp2
    go_ret
    exact ⟨tv, rfl, hT, hB, kept_below (Below.refl _ _) _, fun _ _ h => h, fun g h => .inl h⟩
  | cons c0 u0 =>
    have hne : c0 :: u0 ≠ [] := List.cons_ne_nil _ _
    have hz : (((c0 :: u0).length : Int) == 0) = false := by rw [beq_eq_false_iff_ne, List.length_cons]; omega
    generalize c0 :: u0 = u at *
    have e : txtP u = [⟨3, [], tellL u, []⟩] := by unfold txtP; rw [if_neg hne]
    rw [e]
    have htx := textV hL u.length cap (Nat.le_refl _)
    rw [List.take_of_length_le (Nat.le_refl _)] at htx
    have ct := fun w => Rep.tell_any u hu w
    obtain ⟨tx, htxe⟩ : ∃ tx, tx = toB (tellL u) := ⟨_, rfl⟩
    rw [← htxe] at ct
    have HTX := Lib.hid htxe
    clear htxe hne e
    generalize toB u = su at *
    obtain ⟨cs, hrow, hlen, hall⟩ := hT
    obtain ⟨A, cp, rfl⟩ := hrow.form
    have hcl : cs.length ≤ 1000000 := by omega
    have HL := Lib.hid hlen
    clear hlen
    go_enter Tryz.func53, Tryz.ntmps53
    go_wp2_with (first
      | (go_at_call 22; (with_reducible refine (ct _).mono ?_); rintro e w2 ⟨rfl, hb2⟩
         have hb3 := below_al hb2 (.cells #[.int .i64 3, .string ⟨#[]⟩, .string tx, .slice none 0 0] 38)
         have hrow2 := (hrow.below hb2).alloc (.cells #[.int .i64 3, .string ⟨#[]⟩, .string tx, .slice none 0 0] 38)
         have hB3 := below_next hB hb3)
      | (refine RowG.wpList_more _ (by rfl) _ _ 23 (by rfl) 38 tcC 4 64 _ info_tok Tryz.underlying23 rfl (by decide) tcC_len tcC_one E.heap.size _ cs (⟨3, ⟨#[]⟩, tx, none, 0, 0⟩ : TC) (by rfl) w2.heap.size _ (by rfl) hrow2 (RowG.new_cells w2 38 (tcC ⟨3, ⟨#[]⟩, tx, none, 0, 0⟩)) (by simp only [maxLen]; omega) (by omega) hB3.size ?_
         intro v5 w5 hrow5 hg5 ho5))
    go_ret
    have hk := kept_grown hb3 hg5
    refine ⟨v5, rfl, tks_more hrow2 HL.out (fun i c t h1 h2 => (hall i c t h1 h2).next hb3) ⟨none, 0, by rw [HTX.out]; rfl, Row.nil _ _ _ _ _⟩ hrow5 hg5, RowG.below_row hB3 hrow2 hg5, hk, fun vt t h => (h.next hb3).grown hrow2 hg5, fun g hg => ?_⟩
    rcases ho5 with h | h
    · exact .inl (h.symm.trans hg)
    · rw [h] at hg
      injection hg with hg
      subst hg
      refine .inr ?_
      rw [size_al]
      exact Nat.le_trans hb2.size (Nat.le_succ _)
end Tok
end Go.Proofs.YteopighhhcikcaaGreatDoor
