/- (*strings.appendSliceWriter).WriteString, strings.getStringWriter. Conditions: the writer's bytes are the call's own. -/
import Derived.Test.YteopighhhcikcaaGreatDoorRepF
import Derived.Test.YteopighhhcikcaaGreatDoorRepG
import Derived.Test.YteopighhhcikcaaGreatDoorBytes
import Derived.Lib.AppendStr
namespace Go.Proofs.YteopighhhcikcaaGreatDoor
open Go.ChangeShapes Go.WideShapes Go.ChangeAt Go.RowKit Go.Lib
namespace Rep
/-- append, of any two types, by an equation of its run. -/
theorem wpList_app2 {P : Program} {ops : Array Oper} {rest : List Oper} {o : Oper} {a : Act} {w : World} {Q : Exit → Act → World → Prop} (hgd : o.guard = none) (s x : Operand) (t u : TypeId)
    (ho : o.op = .call { callee := .builtin .append, args := #[s, x], argTypes := #[t, u] }) (v1 v2 vr : Value) (w' : World) (hs : a.eval s = v1) (hx : a.eval x = v2)
    (hrun : (Builtin.append_ #[t, u] o.type #[v1, v2]).run P w = .ok vr w') (h : wpList P ops Q rest (a.put o.dst vr) w') : wpList P ops Q (o :: rest) a w :=
  wpList_plain hgd fun _ hK => by
    unfold Oper.wp execOp
    simp only [ho, resolve, invoke, builtin, Sem.run_bind, Sem.run_pure, Result.andThen_ok, List.map_toArray, List.map_cons, List.map_nil, hs, hx, hrun]
    exact hK _ _ h
theorem strCells_bv (s : ByteArray) : strCells s = s.data.toList.map bv := by
  unfold strCells bv
  simp
theorem bys_slice {w : World} {base : Nat} {v : Value} {l : List UInt8} (h : Bys w base v l) : ∃ A n c, v = .slice A n c := by
  rcases h.2 with ⟨rfl, _⟩ | ⟨g, cap, cur, rfl, _⟩
  · exact ⟨_, _, _, rfl⟩
  · exact ⟨_, _, _, rfl⟩
set_option maxRecDepth 100000 in
set_option maxHeartbeats 4000000 in
theorem asw_any (b base : Nat) (v : Value) (l : List UInt8) (s : ByteArray) (w : World) (K : Blk w b 266 #[v]) (hown : Bys w base v l) (hl : l.length + s.size ≤ 100000000000000) (hbase : base ≤ w.heap.size) :
    Calls Tryz.prog 235 #[.pointer (some ⟨b, 0, none⟩), .string s] w fun e w' => e = .returned (.tuple #[.int .i64 s.size, .nilIface]) ∧
      ∃ v' wm, Bys wm base v' (l ++ s.data.toList) ∧ w.grownBy wm v.ownBlock ∧ w' = wm.setCell ⟨b, 0, none⟩ v' := by
  obtain ⟨i0, hi0, hz0, hz1, hz2⟩ := info_parts u8_info
  obtain ⟨v', wm, hrun, ho, hg, -⟩ := run_append_own_string (P := Tryz.prog) (w := w) base 266 9 266 5 i0 Tryz.underlying266 Tryz.underlying9 hi0 hz0 hz1 hz2 v l.length (l.map bv) hown s (by simp only [maxLen]; omega) (by omega) hbase
  have hne : v.ownBlock ≠ some b := own_blk_ne hown K (by decide)
  have Km := K.grown hg (fun e => hne e.symm)
  have k0 := K.cell 0
  have m0 := Km.cell 0
  have f0 := Km.frozen 0
  have ho2 : Bys wm base v' (l ++ s.data.toList) := by
    unfold Bys
    rw [List.length_append, List.map_append, ← strCells_bv, size_list]
    exact ho
  obtain ⟨A1, n1, c1, rfl⟩ := bys_slice hown
  obtain ⟨A2, n2, c2, rfl⟩ := bys_slice ho2
  clear ho hi0 hz0 hz1 hz2 hown
  go_enter Tryz.func235, Tryz.ntmps235
  go_upto_region 1 with (fail)
  go_wp2_with (refine wpList_app2 (by rfl) (.tmp 9) (.tmp 10) 266 9 (by rfl) (.slice A1 n1 c1) (.string s) _ _ (by rfl) (by rfl) hrun ?_)
  go_ret2
  exact ⟨rfl, _, wm, ho2, hg, rfl⟩
theorem assert_writer (b : Nat) (w : World) : (Instr.typeAssert (.iface 267 (.pointer (some ⟨b, 0, none⟩))) 269 271 true).run Tryz.prog w = .ok (.tuple #[.iface 267 (.pointer (some ⟨b, 0, none⟩)), .bool true]) w := by
  kernel_rfl
set_option maxRecDepth 100000 in
set_option maxHeartbeats 4000000 in
theorem gsw_any (b : Nat) (w : World) : Calls Tryz.prog 216 #[.iface 267 (.pointer (some ⟨b, 0, none⟩))] w fun e w' => e = .returned (.iface 267 (.pointer (some ⟨b, 0, none⟩))) ∧ w' = w := by
  have hta := fun w => assert_writer b w
  go_enter Tryz.func216, Tryz.ntmps216
  go_wp2
  go_ret
  exact ⟨rfl, rfl⟩
set_option maxRecDepth 100000 in
set_option maxHeartbeats 4000000 in
theorem look_empty (G : Nat) (w : World) (h : GenOk w G) : Calls Tryz.prog 217 #[ptr G, .string (toB []), .bool false] w fun e w' => e = .returned (sgV none) ∧ Below w.heap.size w w' := by
  obtain ⟨T0, N1, A, N6, N8, hG, -⟩ := h
  have h1 : w.cell? ⟨G, 1, none⟩ = some (.int .i64 0) := (hG.2.cell 1).trans rfl
  have e2 := nil_empty
  unfold sgV ptr
  generalize toB [] = t at *
  clear hG
  go_enter Tryz.func217, Tryz.ntmps217
  go_wp2
  refine wp_loop_rounds 1 ?_
  rw [rounds_succ]
  go_wp2
  exact bodyPost_ret (v := .tuple #[.string ⟨#[]⟩, .int .i64 0, .bool false]) (by simp [results, Tryz.results217, go_sem]) rfl ⟨rfl, Below.refl _ _⟩
/-- The texts that the four signs tell. -/
def tellF : Nat → List UInt8 → List UInt8
  | 0, _ => []
  | _ + 1, [] => []
  | f + 1, c :: t => match sgn (c :: t) with
    | some x => x.1 :: tellF f ((c :: t).drop x.2)
    | none => c :: tellF f t
def tellL (l : List UInt8) : List UInt8 := tellF (l.length + 1) l
theorem sgn_not {c : UInt8} (t : List UInt8) (h : ¬ c = 38) : sgn (c :: t) = none := by
  have e : ((38 : UInt8) == c) = false := beq_eq_false_iff_ne.2 (fun q => h q.symm)
  unfold sgn
  simp [List.isPrefixOf, e]
theorem sgn_pos {l : List UInt8} {x : UInt8 × Nat} (h : sgn l = some x) : 0 < x.2 ∧ x.2 ≤ l.length := by
  unfold sgn at h
  split at h
  · rename_i hp; have := (List.isPrefixOf_iff_prefix.1 hp).length_le; obtain rfl := Option.some.inj h; exact ⟨by decide, this⟩
  · split at h
    · rename_i hp; have := (List.isPrefixOf_iff_prefix.1 hp).length_le; obtain rfl := Option.some.inj h; exact ⟨by decide, this⟩
    · split at h
      · rename_i hp; have := (List.isPrefixOf_iff_prefix.1 hp).length_le; obtain rfl := Option.some.inj h; exact ⟨by decide, this⟩
      · split at h
        · rename_i hp; have := (List.isPrefixOf_iff_prefix.1 hp).length_le; obtain rfl := Option.some.inj h; exact ⟨by decide, this⟩
        · cases h
theorem tellF_more : ∀ (f g : Nat) (l : List UInt8), l.length < f → l.length < g → tellF f l = tellF g l := by
  intro f
  induction f with
  | zero => intro g l h; omega
  | succ f ih =>
    intro g l hf hg
    cases g with
    | zero => omega
    | succ g =>
      cases l with
      | nil => rfl
      | cons c t =>
        rw [List.length_cons] at hf hg
        unfold tellF
        cases hs : sgn (c :: t) with
        | none => simp only; rw [ih g t (by omega) (by omega)]
        | some x =>
          obtain ⟨p1, p2⟩ := sgn_pos hs
          rw [List.length_cons] at p2
          have hl : ((c :: t).drop x.2).length = t.length + 1 - x.2 := by rw [List.length_drop, List.length_cons]
          simp only
          rw [ih g ((c :: t).drop x.2) (by omega) (by omega)]
theorem tellL_nil : tellL [] = [] := rfl
theorem tellL_no {c : UInt8} {t : List UInt8} (h : sgn (c :: t) = none) : tellL (c :: t) = c :: tellL t := by
  unfold tellL
  rw [List.length_cons, tellF, h]
theorem tellL_yes {c : UInt8} {t : List UInt8} {x : UInt8 × Nat} (h : sgn (c :: t) = some x) : tellL (c :: t) = x.1 :: tellL ((c :: t).drop x.2) := by
  obtain ⟨p1, p2⟩ := sgn_pos h
  rw [List.length_cons] at p2
  unfold tellL
  rw [List.length_cons, tellF, h]
  simp only
  rw [tellF_more (t.length + 1) (((c :: t).drop x.2).length + 1) _ (by rw [List.length_drop, List.length_cons]; omega) (by omega)]
/-- A block of another type lies as it lay behind a write. -/
theorem blk_write {w wm : World} {base g b : Nat} {t : TypeId} {cs : Array Value} {v v' : Value} {l : List UInt8} (h : Blk w g t cs) (hown : Bys w base v l) (K : Blk w b 266 #[v]) (hg : w.grownBy wm v.ownBlock) (h1 : 5 ≠ t) (h2 : t ≠ 266) :
    Blk (wm.setCell ⟨b, 0, none⟩ v') g t cs :=
  (h.grown hg (fun e => own_blk_ne hown h h1 e.symm)).far (p := ⟨b, 0, none⟩) (Blk.ne_ h K h2) v'
theorem gen_write {w wm : World} {base G b : Nat} {v v' : Value} {l : List UInt8} (h : GenOk w G) (hown : Bys w base v l) (K : Blk w b 266 #[v]) (hg : w.grownBy wm v.ownBlock) : GenOk (wm.setCell ⟨b, 0, none⟩ v') G := by
  obtain ⟨T0, N1, A, N6, N8, hG, ⟨hT, KT, KV⟩, ⟨hA, Ka, KA, KB, KT2, KN2⟩, ⟨hN6, K6, K7⟩, ⟨hN8, K8, K9⟩⟩ := h
  have q := fun (g : Nat) (t : TypeId) (cs : Array Value) (h : Blk w g t cs) (h1 : 5 ≠ t) (h2 : t ≠ 266) => blk_write (v' := v') h hown K hg h1 h2
  exact ⟨T0, N1, A, N6, N8, ⟨hG.1, q _ _ _ hG.2 (by decide) (by decide)⟩, ⟨hT, q _ _ _ KT (by decide) (by decide), q _ _ _ KV (by decide) (by decide)⟩,
    ⟨hA, q _ _ _ Ka (by decide) (by decide), q _ _ _ KA (by decide) (by decide), q _ _ _ KB (by decide) (by decide), q _ _ _ KT2 (by decide) (by decide), q _ _ _ KN2 (by decide) (by decide)⟩,
    ⟨hN6, q _ _ _ K6 (by decide) (by decide), q _ _ _ K7 (by decide) (by decide)⟩, ⟨hN8, q _ _ _ K8 (by decide) (by decide), q _ _ _ K9 (by decide) (by decide)⟩⟩
end Rep
end Go.Proofs.YteopighhhcikcaaGreatDoor
