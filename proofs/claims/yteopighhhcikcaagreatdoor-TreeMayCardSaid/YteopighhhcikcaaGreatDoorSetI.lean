/- A map from texts to ints that the call itself makes: how often each text has come. Conditions: as the theorems' premises say. -/
import Derived.Test.YteopighhhcikcaaGreatDoorRowG
import Derived.Test.YteopighhhcikcaaGreatDoorValBase
import Derived.Maps.Own
import Derived.Maps.OwnOps
import Derived.Maps.OwnSet
import Derived.Maps.Views
import Derived.WalkArith
/- A map from texts to bools that the call itself makes, as a set of texts. Conditions: as the theorems' premises say. -/
namespace Go.Proofs.YteopighhhcikcaaGreatDoor
open Go.ChangeShapes Go.WideShapes Go.ChangeAt Go.RowKit Go.Maps
namespace SetB
theorem lawS : Keyed Tryz.prog 9 := string_keyed Tryz.underlying9
theorem zeroB (w : World) : (zeroValue 4).run Tryz.prog w = .ok (.bool false) w := by kernel_rfl
def Seen (w : World) (b : Nat) (ks : List (List UInt8)) : Prop := ∃ (n : Nat) (D : DataW Nat), w.ownsMap Tryz.prog 9 (plainElem Tryz.prog 4) b n D ∧ n ≤ ks.length ∧ IsMap D ∧ ∀ k : List UInt8, D.atKey (.string k) (.lit (.bool false)) = .lit (.bool (decide (k ∈ ks)))
theorem Seen.made (w : World) : Seen (w.alloc (.map #[] 0)) w.heap.size [] := ⟨0, .map [], World.ownsMap_made _ _ _ _, Nat.le_refl _, isMap_empty, fun k => by simp; rfl⟩
theorem Seen.lt {w : World} {b : Nat} {ks : List (List UInt8)} (h : Seen w b ks) : b < w.heap.size := by
  obtain ⟨n, D, h, -⟩ := h
  exact h.lt
theorem Seen.kept {w w' : World} {b : Nat} {ks : List (List UInt8)} {row : Option Nat} (h : Seen w b ks) (hg : w.grownBy w' row) (hne : some b ≠ row) : Seen w' b ks := by
  obtain ⟨n, D, h, r⟩ := h
  exact ⟨n, D, h.kept hg hne, r⟩
theorem Seen.next {w w' : World} {b : Nat} {ks : List (List UInt8)} (h : Seen w b ks) (hb : Below w.heap.size w w') : Seen w' b ks := by
  obtain ⟨n, D, h, r⟩ := h
  have hlt := h.lt
  obtain ⟨es, clock, hbk, F, hs, hD⟩ := h
  exact ⟨n, D, ⟨es, clock, (hb.block b hlt).trans hbk, F, hs, hD⟩, r⟩
theorem key_of (k : List UInt8) (h : k.length ≤ maxLen) : keyOf Tryz.prog 9 (.string (toB k)) = some (.string k) :=
  WideMaps.keyOf_string_mk Tryz.underlying9 (s := toB k) (by rw [toB_size]; exact h)
theorem plainElem_bool_inv {H : Type} {P : Program} {e : TypeId} (he : P.underlying e = some .bool) {v : Value} {z : DataW H × List MemPlace} (h : plainElem P e v = some z) : ∃ x, v = .bool x ∧ z = (.lit (.bool x), []) := by
  unfold plainElem at h
  rw [he] at h
  cases v <;> simp at h
  subst h
  exact ⟨_, rfl, rfl⟩
set_option maxRecDepth 100000 in
theorem Seen.look {w : World} {b : Nat} {ks : List (List UInt8)} (h : Seen w b ks) (k : List UInt8) (hk : k.length ≤ maxLen) : (Instr.lookup 39 (.map (some b)) (.string (toB k)) false).run Tryz.prog w = .ok (.bool (decide (k ∈ ks))) w := by
  obtain ⟨n, D, h, -, -, hat⟩ := h
  obtain ⟨v, ps, hrun, hv⟩ := h.lookup lawS Tryz.underlying39 (zeroB w) (plainElem_bool Tryz.underlying4 false) (key_of k hk)
  rw [hat k] at hv
  obtain ⟨c, rfl, hc⟩ := plainElem_bool_inv Tryz.underlying4 hv
  injection hc with hc _
  injection hc with hc
  injection hc with hc
  subst hc
  exact hrun
theorem isKey (k : List UInt8) : WideAt.IsKeyLit (.string k) := by unfold WideAt.IsKeyLit; trivial
theorem Seen.put {w : World} {b : Nat} {ks : List (List UInt8)} (h : Seen w b ks) (k : List UInt8) (hk : k.length ≤ maxLen) (hl : ks.length < maxLen) : ∃ w', (Instr.mapUpdate 39 (.map (some b)) (.string (toB k)) (.bool true)).run Tryz.prog w = .ok () w' ∧ Seen w' b (ks ++ [k]) ∧ w.grownBy w' (some b) := by
  obtain ⟨n, D, h, hn, hm, hat⟩ := h
  obtain ⟨w', hrun, h2, hg⟩ := h.update lawS Tryz.underlying39 (Nat.lt_of_le_of_lt hn hl) (key_of k hk) (plainElem_bool Tryz.underlying4 true)
  refine ⟨w', hrun, ⟨n + 1, _, h2, by rw [List.length_append, List.length_singleton]; omega, hm.put _ _, fun k' => ?_⟩, hg⟩
  by_cases e : k' = k
  · subst e
    rw [atKey_put_same hm (isKey k')]
    simp
  · rw [atKey_put_other (fun q => e (by injection q)), hat k']
    simp [e]
theorem wpList_put {ops : Array Oper} {rest : List Oper} {o : Oper} {a : Act} {w : World} {Q : Exit → Act → World → Prop} (hg : o.guard = none) (m x v : Operand) (hop : o.op = Op.mapUpdate 39 m x v)
    (b : Nat) (ks : List (List UInt8)) (k : List UInt8) (hm : a.eval m = .map (some b)) (h : Seen w b ks) (hk : k.length ≤ maxLen) (hl : ks.length < maxLen) (hx : a.eval x = .string (toB k)) (hv : a.eval v = .bool true)
    (hK : ∀ w', Seen w' b (ks ++ [k]) → w.grownBy w' (some b) → wpList Tryz.prog ops Q rest (a.put o.dst undef) w') : wpList Tryz.prog ops Q (o :: rest) a w := by
  refine wpList_plain hg fun K' hK' => ?_
  obtain ⟨w', hrun, r1, r2⟩ := h.put k hk hl
  unfold Oper.wp
  simp [execOp, hop, hm, hx, hv, hrun, Result.andThen]
  exact hK' _ _ (hK w' r1 r2)
end SetB
end Go.Proofs.YteopighhhcikcaaGreatDoor
namespace Go.Proofs.YteopighhhcikcaaGreatDoor
open Go.ChangeShapes Go.WideShapes Go.ChangeAt Go.RowKit Go.Maps
namespace SetI
open SetB (lawS key_of isKey)
theorem zeroI (w : World) : (zeroValue 3).run Tryz.prog w = .ok (.int .i64 0) w := by kernel_rfl
theorem wfI (n : Nat) (h : n ≤ 1000000000) : (Lit.int .i64 (n : Int)).wf = true := WalkArith.wf_i64 ⟨by omega, by omega⟩
def Cnt (w : World) (b : Nat) (ks : List (List UInt8)) : Prop := ∃ (n : Nat) (D : DataW Nat), w.ownsMap Tryz.prog 9 (plainElem Tryz.prog 3) b n D ∧ n ≤ ks.length ∧ IsMap D ∧ ∀ k : List UInt8, D.atKey (.string k) (.lit (.int .i64 0)) = .lit (.int .i64 (ks.count k : Nat))
theorem Cnt.made (w : World) : Cnt (w.alloc (.map #[] 0)) w.heap.size [] := ⟨0, .map [], World.ownsMap_made _ _ _ _, Nat.le_refl _, isMap_empty, fun k => by simp; rfl⟩
theorem Cnt.lt {w : World} {b : Nat} {ks : List (List UInt8)} (h : Cnt w b ks) : b < w.heap.size := by
  obtain ⟨n, D, h, -⟩ := h
  exact h.lt
theorem Cnt.next {w w' : World} {b : Nat} {ks : List (List UInt8)} (h : Cnt w b ks) (hb : Below w.heap.size w w') : Cnt w' b ks := by
  obtain ⟨n, D, h, r⟩ := h
  have hlt := h.lt
  obtain ⟨es, clock, hbk, F, hs, hD⟩ := h
  exact ⟨n, D, ⟨es, clock, (hb.block b hlt).trans hbk, F, hs, hD⟩, r⟩
set_option maxRecDepth 100000 in
theorem Cnt.look {w : World} {b : Nat} {ks : List (List UInt8)} (h : Cnt w b ks) (k : List UInt8) (hk : k.length ≤ maxLen) : (Instr.lookup 165 (.map (some b)) (.string (toB k)) false).run Tryz.prog w = .ok (.int .i64 (ks.count k : Nat)) w := by
  obtain ⟨n, D, h, -, -, hat⟩ := h
  obtain ⟨v, ps, hrun, hv⟩ := h.lookup lawS Tryz.underlying165 (zeroI w) (plainElem_int Tryz.underlying3 (wfI 0 (by omega))) (key_of k hk)
  have hat := hat k
  rw [hat] at hv
  obtain ⟨c, rfl, hc, -⟩ := plainElem_int_inv Tryz.underlying3 hv
  injection hc with hc _
  injection hc with hc
  injection hc with _ hc
  subst hc
  exact hrun
theorem Cnt.put {w : World} {b : Nat} {ks : List (List UInt8)} (h : Cnt w b ks) (k : List UInt8) (hk : k.length ≤ maxLen) (hl : ks.length < 1000000) (x : Int) (hx : x = ((ks ++ [k]).count k : Nat)) : ∃ w', (Instr.mapUpdate 165 (.map (some b)) (.string (toB k)) (.int .i64 x)).run Tryz.prog w = .ok () w' ∧ Cnt w' b (ks ++ [k]) ∧ w.grownBy w' (some b) := by
  subst hx
  obtain ⟨n, D, h, hn, hm, hat⟩ := h
  have hc : (ks ++ [k]).count k ≤ 1000000000 := by
    have := List.count_le_length (a := k) (l := ks ++ [k])
    rw [List.length_append, List.length_singleton] at this
    omega
  obtain ⟨w', hrun, h2, hg⟩ := h.update lawS Tryz.underlying165 (Nat.lt_of_le_of_lt hn (by simp only [maxLen]; omega)) (key_of k hk) (plainElem_int Tryz.underlying3 (wfI _ hc))
  refine ⟨w', hrun, ⟨n + 1, _, h2, by rw [List.length_append, List.length_singleton]; omega, hm.put _ _, fun k' => ?_⟩, hg⟩
  by_cases e : k' = k
  · subst e
    rw [atKey_put_same hm (isKey k')]
  · rw [atKey_put_other (fun q => e (by injection q)), hat k']
    rw [List.count_append, List.count_singleton]
    have : (k == k') = false := by simpa using fun q : k = k' => e q.symm
    rw [if_neg (by simp [this])]
    rfl
theorem wpList_put {ops : Array Oper} {rest : List Oper} {o : Oper} {a : Act} {w : World} {Q : Exit → Act → World → Prop} (hg : o.guard = none) (m x v : Operand) (hop : o.op = Op.mapUpdate 165 m x v)
    (b : Nat) (ks : List (List UInt8)) (k : List UInt8) (hm : a.eval m = .map (some b)) (h : Cnt w b ks) (hk : k.length ≤ maxLen) (hl : ks.length < 1000000) (hx : a.eval x = .string (toB k)) (z : Int) (hz : z = ((ks ++ [k]).count k : Nat)) (hv : a.eval v = .int .i64 z)
    (hK : ∀ w', Cnt w' b (ks ++ [k]) → w.grownBy w' (some b) → wpList Tryz.prog ops Q rest (a.put o.dst undef) w') : wpList Tryz.prog ops Q (o :: rest) a w := by
  refine wpList_plain hg fun K' hK' => ?_
  obtain ⟨w', hrun, r1, r2⟩ := h.put k hk hl z hz
  unfold Oper.wp
  simp [execOp, hop, hm, hx, hv, hrun, Result.andThen]
  exact hK' _ _ (hK w' r1 r2)
end SetI
end Go.Proofs.YteopighhhcikcaaGreatDoor
