/- Tables whose secrets are others: the plain mathematics; a whole list appended. Conditions: as the theorems' premises say. -/
import Derived.Test.YtibpjfeghpmoiaaResD
namespace Go.Proofs.Ytibpjfeghpmoiaa
open Go.ChangeShapes Go.WideShapes Go.ChangeAt Go.RowKit
def modAt (ns : List Int) (i : Nat) (r : Img) : Img := if r.o = false ∧ 2 * i + 1 < ns.length then ⟨r.s, ns.getD (2 * i) 0, ns.getD (2 * i + 1) 0, r.o⟩ else r
def modK (ns : List Int) (l : List Img) (k : Nat) : List Img := l.mapIdx fun i r => if i < k then modAt ns i r else r
theorem modK_get (ns : List Int) (l : List Img) (k j : Nat) : (modK ns l k)[j]? = (l[j]?).map fun r => if j < k then modAt ns j r else r := by unfold modK; rw [List.getElem?_mapIdx]
theorem modK_len (ns : List Int) (l : List Img) (k : Nat) : (modK ns l k).length = l.length := by unfold modK; simp
theorem modK_zero (ns : List Int) (l : List Img) : modK ns l 0 = l := by
  apply List.ext_getElem?
  intro j
  rw [modK_get]
  cases l[j]? <;> simp
theorem modK_at {ns : List Int} {l : List Img} {k : Nat} {r : Img} (h : l[k]? = some r) : (modK ns l k)[k]? = some r := by rw [modK_get, h]; simp
theorem modK_succ {ns : List Int} {l : List Img} {k : Nat} {r : Img} (h : l[k]? = some r) : modK ns l (k + 1) = (modK ns l k).set k (modAt ns k r) := by
  apply List.ext_getElem?
  intro j
  have hk := (List.getElem?_eq_some_iff.1 h).1
  rw [modK_get, List.getElem?_set, modK_len]
  by_cases e : k = j
  · subst e
    rw [if_pos rfl, if_pos hk, h]
    simp
  · rw [if_neg e, modK_get]
    cases l[j]? with
    | none => rfl
    | some x =>
      simp only [Option.map_some]
      by_cases h1 : j < k
      · rw [if_pos h1, if_pos (by omega)]
      · rw [if_neg h1, if_neg (by omega)]
theorem modAt_same {ns : List Int} {k : Nat} {r : Img} (h : ¬ (r.o = false ∧ 2 * k + 1 < ns.length)) : modAt ns k r = r := by unfold modAt; rw [if_neg h]
theorem modK_same {ns : List Int} {l : List Img} {k : Nat} {r : Img} (h : l[k]? = some r) (hs : modAt ns k r = r) : modK ns l (k + 1) = modK ns l k := by
  rw [modK_succ h, hs]
  apply List.ext_getElem?
  intro j
  rw [List.getElem?_set]
  by_cases e : k = j
  · subst e
    rw [if_pos rfl, modK_at h, if_pos (by rw [modK_len]; exact (List.getElem?_eq_some_iff.1 h).1)]
  · rw [if_neg e]
theorem pubI_mod (ns : List Int) (k : Nat) (r : Img) : pubI (modAt ns k r) = pubI r := by
  unfold modAt
  split
  · rename_i h
    unfold pubI
    rw [h.1]
    rfl
  · rfl
theorem pub_modK (ns : List Int) (l : List Img) (k : Nat) : (modK ns l k).map pubI = l.map pubI := by
  apply List.ext_getElem?
  intro j
  rw [List.getElem?_map, List.getElem?_map, modK_get]
  cases l[j]? with
  | none => rfl
  | some x =>
    simp only [Option.map_some]
    split
    · rw [pubI_mod]
    · rfl
theorem flatI_set : ∀ (l : List Img) (k : Nat) (r : Img) (w h : Int), l[k]? = some r → flatI (l.set k ⟨r.s, w, h, r.o⟩) = ((flatI l).set (k * 4 + 1) (.int .i64 w)).set (k * 4 + 2) (.int .i64 h)
  | [], k, r, w, h, hk => by simp at hk
  | x :: l, 0, r, w, h, hk => by
    obtain rfl : x = r := by simpa using hk
    rw [List.set_cons_zero, flatI_cons, flatI_cons]
    rfl
  | x :: l, k + 1, r, w, h, hk => by
    rw [List.set_cons_succ, flatI_cons, flatI_cons, flatI_set l k r w h (by simpa using hk), show (k + 1) * 4 + 1 = (k * 4 + 1) + 4 by omega, show (k + 1) * 4 + 2 = (k * 4 + 2) + 4 by omega]
    rfl
theorem flatI_one (l : List Img) : ∀ u ∈ flatI l, u.oneCell' = true := by
  induction l with
  | nil => intro u hu; cases hu
  | cons i l ih =>
    intro u hu
    rw [flatI_cons] at hu
    simp only [List.mem_cons] at hu
    rcases hu with rfl | rfl | rfl | rfl | hu
    · rfl
    · rfl
    · rfl
    · rfl
    · exact ih u hu
theorem ImgsC.alloc {w : World} {base : Nat} {v : Value} {l : List Img} (h : ImgsC w base v l) (o : Obj) : ImgsC (w.alloc o) base v l := World.ownsRow.alloc h o
theorem ImgsC.nil (w : World) (base : Nat) (h : base ≤ w.heap.size) : ImgsC (w.alloc (.cells #[] 47)) base (.slice (some ⟨w.heap.size, 0, none⟩) 0 0) [] := World.ownsRow_made w #[] 0 h (Nat.zero_le _) rfl
theorem step_all {ops : Array Oper} {o : Oper} {a : Act} {K : Act → World → Prop} {Q : Exit → Act → World → Prop} {E : Prop} (w : World) (hgd : o.guard = none) (s x : Operand)
    (ho : o.op = .call { callee := .builtin .append, args := #[s, x], argTypes := #[22, 22] })
    (base : Nat) (v : Value) (m : List Img) (hs : a.eval s = v) (hown : ImgsC w base v []) (A : Option Addr) (n cp : Nat) (hx : a.eval x = .slice A n cp) (B : Nat) (hr : Reads w B 4 A n (flatI m)) (hl : n ≤ 100) (hbase : base ≤ w.heap.size)
    (hk : ∀ v' w', ImgsC w' base v' m → w.grownBy w' v.ownBlock → K (a.put o.dst v') w') :
    if Region.wanted o (yielded ops a.tmps) = true then Oper.wp Try.prog o a w K Q else E := by
  have hlen : m.length = n := by have := hr.1; rw [flatI_len] at this; omega
  obtain ⟨i0, hi0, hz0, hz1, hz2⟩ := info_parts info_C
  refine step_append_any _ hgd s x _ ho base 47 i0 _ 4 40 Try.underlying22 hi0 hz0 hz1 hz2 rfl (by omega) v 0 [] hs hown B A n cp _ hx hr (flatI_one m) (by simp only [maxLen]; omega) (by omega) hbase ?_
  intro v' w' h2 h3 _
  refine hk v' w' ?_ h3
  show w'.ownsRow base 47 4 v' m.length (flatI m)
  rw [hlen]
  simpa using h2
end Go.Proofs.Ytibpjfeghpmoiaa
