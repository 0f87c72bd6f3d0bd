/- (*strings.appendSliceWriter).WriteString, strings.getStringWriter. Conditions: the writer's bytes are the call's own. -/
import Derived.Test.YthacboofbbfmlaaDoorRepF
import Derived.Test.YthacboofbbfmlaaDoorRepG
import Derived.Test.YthacboofbbfmlaaDoorBytes
import Derived.Lib.AppendStr
namespace Go.Proofs.YthacboofbbfmlaaDoor
open Go.ChangeShapes Go.WideShapes Go.ChangeAt Go.RowKit Go.Lib
namespace Rep
/-- append, of any two types, by an equation of its run. -/
theorem wpList_app2 {P : Program} {ops : Array Oper} {rest : List Oper} {o : Oper} {a : Act} {w : World} {Q : Exit → Act → World → Prop} (hgd : o.guard = none) (s x : Operand) (t u : TypeId)
    (ho : o.op = .call { callee := .builtin .append, args := #[s, x], argTypes := #[t, u] }) (v1 v2 vr : Value) (w' : World) (hs : a.eval s = v1) (hx : a.eval x = v2)
    (hrun : (Builtin.append_ #[t, u] o.type #[v1, v2]).run P w = .ok vr w') (h : wpList P ops Q rest (a.put o.dst vr) w') : wpList P ops Q (o :: rest) a w :=
  wpList_plain hgd fun _ hK => by
    unfold Oper.wp execOp
    simp only [ho, resolve, invoke, builtin, Sem.run_bind, Sem.run_pure, Result.andThen_ok, List.map_toArray, List.map_cons, List.map_nil, hs, hx, hrun]
    exact hK _ _ h
theorem strCells_bv (s : ByteArray) : strCells s = s.data.toList.map bv := by
  unfold strCells bv
  simp
theorem bys_slice {w : World} {base : Nat} {v : Value} {l : List UInt8} (h : Bys w base v l) : ∃ A n c, v = .slice A n c := by
  rcases h.2 with ⟨rfl, _⟩ | ⟨g, cap, cur, rfl, _⟩
  · exact ⟨_, _, _, rfl⟩
  · exact ⟨_, _, _, rfl⟩
/-- The texts that the four signs tell. -/
def tellF : Nat → List UInt8 → List UInt8
  | 0, _ => []
  | _ + 1, [] => []
  | f + 1, c :: t => match sgn (c :: t) with
    | some x => x.1 :: tellF f ((c :: t).drop x.2)
    | none => c :: tellF f t
def tellL (l : List UInt8) : List UInt8 := tellF (l.length + 1) l
theorem sgn_not {c : UInt8} (t : List UInt8) (h : ¬ c = 38) : sgn (c :: t) = none := by
  have e : ((38 : UInt8) == c) = false := beq_eq_false_iff_ne.2 (fun q => h q.symm)
  unfold sgn
  simp [List.isPrefixOf, e]
theorem sgn_pos {l : List UInt8} {x : UInt8 × Nat} (h : sgn l = some x) : 0 < x.2 ∧ x.2 ≤ l.length := by
  unfold sgn at h
  split at h
  · rename_i hp; have := (List.isPrefixOf_iff_prefix.1 hp).length_le; obtain rfl := Option.some.inj h; exact ⟨by decide, this⟩
  · split at h
    · rename_i hp; have := (List.isPrefixOf_iff_prefix.1 hp).length_le; obtain rfl := Option.some.inj h; exact ⟨by decide, this⟩
    · split at h
      · rename_i hp; have := (List.isPrefixOf_iff_prefix.1 hp).length_le; obtain rfl := Option.some.inj h; exact ⟨by decide, this⟩
      · split at h
        · rename_i hp; have := (List.isPrefixOf_iff_prefix.1 hp).length_le; obtain rfl := Option.some.inj h; exact ⟨by decide, this⟩
        · cases h
theorem tellF_more : ∀ (f g : Nat) (l : List UInt8), l.length < f → l.length < g → tellF f l = tellF g l := by
  intro f
  induction f with
  | zero => intro g l h; omega
  | succ f ih =>
    intro g l hf hg
    cases g with
    | zero => omega
    | succ g =>
      cases l with
      | nil => rfl
      | cons c t =>
        rw [List.length_cons] at hf hg
        unfold tellF
        cases hs : sgn (c :: t) with
        | none => simp only; rw [ih g t (by omega) (by omega)]
        | some x =>
          obtain ⟨p1, p2⟩ := sgn_pos hs
          rw [List.length_cons] at p2
          have hl : ((c :: t).drop x.2).length = t.length + 1 - x.2 := by rw [List.length_drop, List.length_cons]
          simp only
          rw [ih g ((c :: t).drop x.2) (by omega) (by omega)]
theorem tellL_nil : tellL [] = [] := rfl
theorem tellL_no {c : UInt8} {t : List UInt8} (h : sgn (c :: t) = none) : tellL (c :: t) = c :: tellL t := by
  unfold tellL
  rw [List.length_cons, tellF, h]
theorem tellL_yes {c : UInt8} {t : List UInt8} {x : UInt8 × Nat} (h : sgn (c :: t) = some x) : tellL (c :: t) = x.1 :: tellL ((c :: t).drop x.2) := by
  obtain ⟨p1, p2⟩ := sgn_pos h
  rw [List.length_cons] at p2
  unfold tellL
  rw [List.length_cons, tellF, h]
  simp only
  rw [tellF_more (t.length + 1) (((c :: t).drop x.2).length + 1) _ (by rw [List.length_drop, List.length_cons]; omega) (by omega)]
end Rep
end Go.Proofs.YthacboofbbfmlaaDoor
