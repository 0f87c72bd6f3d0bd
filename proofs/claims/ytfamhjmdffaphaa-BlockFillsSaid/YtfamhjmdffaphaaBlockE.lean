/- What together, Across and Down of package block answer. Conditions: none. -/
import Derived.Test.YtfamhjmdffaphaaBlockD
import Derived.Test.YtfamhjmdffaphaaFxSum
import Derived.Test.YtfamhjmdffaphaaRowsO
import Derived.StillTailTactics
import Derived.Deep.RegionHeld3
import Derived.Deep.RegionLaw
import Derived.Deep.Cut
import Derived.Deep.CutRange
import Derived.Deep.DeepCutAuto
import Derived.Deep.QuietTactic
import Derived.BigQuiet
namespace Go.Proofs.Ytfamhjmdffaphaa
open Go.ChangeShapes Go.WideShapes Go.ChangeAt Go.RowKit
/-- The numbers at two sides: of margins, borders, paddings. -/
def sixL (m : Nat → Int) (i j : Nat) : List Int := [m i, m j, m (4 + i), m (4 + j), m (8 + i), m (8 + j)]
def togF (m : Nat → Int) (i j : Nat) : Int × Bool := sumL (sixL m i j)
theorem info_I64 : (Try.prog.info? 2).map (fun i => (i.zero, i.size, i.bytes)) = some (some (.int .i64 0), 1, 8) := by kernel_rfl
def I64s (w : World) (base : Nat) (v : Value) (l : List Int) : Prop := w.ownsRow base 2 1 v l.length (l.map (Value.int .i64))
theorem I64s.nil (w : World) (base : Nat) : I64s w base (.slice none 0 0) [] := ⟨rfl, .inl ⟨rfl, rfl⟩⟩
/-- append of two numbers. -/
theorem step_two {ops : Array Oper} {o : Oper} {a : Act} {K : Act → World → Prop} {Q : Exit → Act → World → Prop} {E : Prop} (w : World) (hgd : o.guard = none) (s x : Operand)
    (ho : o.op = .call { callee := .builtin .append, args := #[s, x], argTypes := #[39, 39] })
    (base : Nat) (v : Value) (l : List Int) (i j : Int) (hs : a.eval s = v) (hown : I64s w base v l) (g cp : Nat) (hgq : w.heap.size = g) (hx : a.eval x = .slice (some ⟨g, 0, none⟩) 2 cp) (hl : l.length < 400000000) (hbase : base ≤ w.heap.size)
    (hk : ∀ v' w', I64s w' base v' (l ++ [i, j]) → (w.alloc (.cells #[.int .i64 i, .int .i64 j] 2)).grownBy w' v.ownBlock → K (a.put o.dst v') w') :
    if Region.wanted o (yielded ops a.tmps) = true then Oper.wp Try.prog o a (w.alloc (.cells #[.int .i64 i, .int .i64 j] 2)) K Q else E := by
  subst hgq
  obtain ⟨i0, hi0, hz0, hz1, hz2⟩ := info_parts info_I64
  refine step_append_any _ hgd s x _ ho base 2 i0 _ 1 8 Try.underlying39 hi0 hz0 hz1 hz2 rfl (by omega) v l.length (l.map (Value.int .i64)) hs (World.ownsRow.alloc hown _) (w.heap.size + 1) (some ⟨w.heap.size, 0, none⟩) 2 cp [.int .i64 i, .int .i64 j] hx (reads_blk (Blk.new w 2 #[.int .i64 i, .int .i64 j]) (Nat.lt_succ_self _) rfl) ?_ (by simp only [maxLen]; omega) (by omega) (by rw [size_al]; omega) ?_
  · intro u hu
    simp only [List.mem_cons, List.not_mem_nil, or_false] at hu
    rcases hu with rfl | rfl <;> rfl
  intro v' w' h2 h3 _
  refine hk v' w' ?_ h3
  show w'.ownsRow base 2 1 v' (l ++ [i, j]).length ((l ++ [i, j]).map (Value.int .i64))
  rw [List.map_append, List.length_append]
  exact h2
theorem ix0 (m : Nat → Int) (w : World) : (Instr.index 62 (.agg #[.int .i64 (m 0), .int .i64 (m 1), .int .i64 (m 2), .int .i64 (m 3), .int .i64 (m 4), .int .i64 (m 5), .int .i64 (m 6), .int .i64 (m 7), .int .i64 (m 8), .int .i64 (m 9), .int .i64 (m 10), .int .i64 (m 11)]) (.int .i64 0)).run Try.prog w = .ok (.agg #[.int .i64 (m 0), .int .i64 (m 1), .int .i64 (m 2), .int .i64 (m 3)]) w := by kernel_rfl
theorem ix1 (m : Nat → Int) (w : World) : (Instr.index 62 (.agg #[.int .i64 (m 0), .int .i64 (m 1), .int .i64 (m 2), .int .i64 (m 3), .int .i64 (m 4), .int .i64 (m 5), .int .i64 (m 6), .int .i64 (m 7), .int .i64 (m 8), .int .i64 (m 9), .int .i64 (m 10), .int .i64 (m 11)]) (.int .i64 1)).run Try.prog w = .ok (.agg #[.int .i64 (m 4), .int .i64 (m 5), .int .i64 (m 6), .int .i64 (m 7)]) w := by kernel_rfl
theorem ix2 (m : Nat → Int) (w : World) : (Instr.index 62 (.agg #[.int .i64 (m 0), .int .i64 (m 1), .int .i64 (m 2), .int .i64 (m 3), .int .i64 (m 4), .int .i64 (m 5), .int .i64 (m 6), .int .i64 (m 7), .int .i64 (m 8), .int .i64 (m 9), .int .i64 (m 10), .int .i64 (m 11)]) (.int .i64 2)).run Try.prog w = .ok (.agg #[.int .i64 (m 8), .int .i64 (m 9), .int .i64 (m 10), .int .i64 (m 11)]) w := by kernel_rfl
set_option maxHeartbeats 8000000 in
set_option maxRecDepth 100000 in
theorem together_31 (m : Nat → Int) (w : World) : Calls Try.prog 16 #[.agg (sidF m), .int .i64 3, .int .i64 1] w fun e w' => e = .returned (.tuple #[.int .i64 (togF m 3 1).1, .bool (togF m 3 1).2]) ∧ Below w.heap.size w w' := by
  have cs := fun A c w' (hr : Reads w' w'.heap.size 1 A 6 ((sixL m 3 1).map (Value.int .i64))) => sum_any A 6 c w'.heap.size (sixL m 3 1) w' hr (by omega)
  have ht : sumL (sixL m 3 1) = togF m 3 1 := rfl
  rw [ht] at cs
  generalize (togF m 3 1).1 = x at *
  generalize (togF m 3 1).2 = y at *
  clear ht
  have i0 := fun w => ix0 m w
  have i1 := fun w => ix1 m w
  have i2 := fun w => ix2 m w
  have hB0 := below_al (Below.refl w.heap.size w) (.cells (sidF m) 32)
  unfold sidF at hB0 ⊢
  go_enter Try.func16, Try.ntmps16
  go_wp2
  go_loopw [18, 8] (fun i s wr => ∃ (k : Nat) (v : Value), k ≤ 3 ∧ i = .int .i64 k ∧ v = s ∧ Below w.heap.size w wr ∧ I64s wr w.heap.size v ((sixL m 3 1).take (2 * k))) (fun i _ _ => 3 - (intOf i).toNat)
  case atStart => exact ⟨0, _, by omega, rfl, rfl, hB0, I64s.nil _ _⟩
  case round =>
    obtain ⟨k, v, hk, rfl, rfl, hBr, hY⟩ := hrel
    clear hB0
    have hle := hBr.size
    match k, hk with
    | 0, _ =>
      have hYa : I64s (wr.alloc (.cells #[.int .i64 (m 0), .int .i64 (m 1), .int .i64 (m 2), .int .i64 (m 3)] 30)) w.heap.size v ((sixL m 3 1).take 0) := World.ownsRow.alloc hY _
      have hBa := below_al hBr (.cells #[.int .i64 (m 0), .int .i64 (m 1), .int .i64 (m 2), .int .i64 (m 3)] 30)
      have hleb := hBa.size
      go_upto_region 5 with (fail)
      obtain ⟨wb, hwb⟩ : ∃ wb, wb = wr.alloc (.cells #[.int .i64 (m 0), .int .i64 (m 1), .int .i64 (m 2), .int .i64 (m 3)] 30) := ⟨_, rfl⟩
      have ca : wb.cell? ⟨wr.heap.size, 3, none⟩ = some (.int .i64 (m 3)) := by rw [hwb]; exact (Blk.new _ _ _).cell 3
      have cb : wb.cell? ⟨wr.heap.size, 1, none⟩ = some (.int .i64 (m 1)) := by rw [hwb]; exact (Blk.new _ _ _).cell 1
      rw [← hwb] at hYa hBa hleb ⊢
      clear hwb hY hBr
      go_region_law (refine step_two wb.drew (by rfl) (.tmp 21) (.tmp 28) (by rfl) w.heap.size v ((sixL m 3 1).take 0) (m 3) (m 1) (by rfl) (World.ownsRow.drew hYa) _ _ rfl (by rfl) (by simp [sixL]) hleb ?_; intro v' w' hY' hg
                     have hB' := below_own hBa.drew (World.ownsRow.drew hYa) hg
                     clear hg)
      all_goals
        go_wp2
        go_roundw
        case rel => exact ⟨1, v', by omega, by go_num, rfl, hB', hY'⟩
        case measure => simp [intOf]
    | 1, _ =>
      have hYa : I64s (wr.alloc (.cells #[.int .i64 (m 4), .int .i64 (m 5), .int .i64 (m 6), .int .i64 (m 7)] 30)) w.heap.size v ((sixL m 3 1).take 2) := World.ownsRow.alloc hY _
      have hBa := below_al hBr (.cells #[.int .i64 (m 4), .int .i64 (m 5), .int .i64 (m 6), .int .i64 (m 7)] 30)
      have hleb := hBa.size
      go_upto_region 5 with (fail)
      obtain ⟨wb, hwb⟩ : ∃ wb, wb = wr.alloc (.cells #[.int .i64 (m 4), .int .i64 (m 5), .int .i64 (m 6), .int .i64 (m 7)] 30) := ⟨_, rfl⟩
      have ca : wb.cell? ⟨wr.heap.size, 3, none⟩ = some (.int .i64 (m 7)) := by rw [hwb]; exact (Blk.new _ _ _).cell 3
      have cb : wb.cell? ⟨wr.heap.size, 1, none⟩ = some (.int .i64 (m 5)) := by rw [hwb]; exact (Blk.new _ _ _).cell 1
      rw [← hwb] at hYa hBa hleb ⊢
      clear hwb hY hBr
      go_region_law (refine step_two wb.drew (by rfl) (.tmp 21) (.tmp 28) (by rfl) w.heap.size v ((sixL m 3 1).take 2) (m 7) (m 5) (by rfl) (World.ownsRow.drew hYa) _ _ rfl (by rfl) (by simp [sixL]) hleb ?_; intro v' w' hY' hg
                     have hB' := below_own hBa.drew (World.ownsRow.drew hYa) hg
                     clear hg)
      all_goals
        go_wp2
        go_roundw
        case rel => exact ⟨2, v', by omega, by go_num, rfl, hB', hY'⟩
        case measure => simp [intOf]
    | 2, _ =>
      have hYa : I64s (wr.alloc (.cells #[.int .i64 (m 8), .int .i64 (m 9), .int .i64 (m 10), .int .i64 (m 11)] 30)) w.heap.size v ((sixL m 3 1).take 4) := World.ownsRow.alloc hY _
      have hBa := below_al hBr (.cells #[.int .i64 (m 8), .int .i64 (m 9), .int .i64 (m 10), .int .i64 (m 11)] 30)
      have hleb := hBa.size
      go_upto_region 5 with (fail)
      obtain ⟨wb, hwb⟩ : ∃ wb, wb = wr.alloc (.cells #[.int .i64 (m 8), .int .i64 (m 9), .int .i64 (m 10), .int .i64 (m 11)] 30) := ⟨_, rfl⟩
      have ca : wb.cell? ⟨wr.heap.size, 3, none⟩ = some (.int .i64 (m 11)) := by rw [hwb]; exact (Blk.new _ _ _).cell 3
      have cb : wb.cell? ⟨wr.heap.size, 1, none⟩ = some (.int .i64 (m 9)) := by rw [hwb]; exact (Blk.new _ _ _).cell 1
      rw [← hwb] at hYa hBa hleb ⊢
      clear hwb hY hBr
      go_region_law (refine step_two wb.drew (by rfl) (.tmp 21) (.tmp 28) (by rfl) w.heap.size v ((sixL m 3 1).take 4) (m 11) (m 9) (by rfl) (World.ownsRow.drew hYa) _ _ rfl (by rfl) (by simp [sixL]) hleb ?_; intro v' w' hY' hg
                     have hB' := below_own hBa.drew (World.ownsRow.drew hYa) hg
                     clear hg)
      all_goals
        go_wp2
        go_roundw
        case rel => exact ⟨3, v', by omega, by go_num, rfl, hB', hY'⟩
        case measure => simp [intOf]
    | 3, _ =>
      have hY : wr.ownsRow w.heap.size 2 1 v 6 ((sixL m 3 1).map (Value.int .i64)) := hY
      obtain ⟨A, c, rfl⟩ := own_form' hY
      have c1 := cs A c wr (Reads.of_own hY)
      go_wp2_with (go_at_call 27; (with_reducible refine c1.mono ?_); rintro e w' ⟨rfl, rfl⟩)
      go_ret2
      exact ⟨rfl, hBr⟩
    | k + 4, h => omega
set_option maxHeartbeats 8000000 in
set_option maxRecDepth 100000 in
theorem together_02 (m : Nat → Int) (w : World) : Calls Try.prog 16 #[.agg (sidF m), .int .i64 0, .int .i64 2] w fun e w' => e = .returned (.tuple #[.int .i64 (togF m 0 2).1, .bool (togF m 0 2).2]) ∧ Below w.heap.size w w' := by
  have cs := fun A c w' (hr : Reads w' w'.heap.size 1 A 6 ((sixL m 0 2).map (Value.int .i64))) => sum_any A 6 c w'.heap.size (sixL m 0 2) w' hr (by omega)
  have ht : sumL (sixL m 0 2) = togF m 0 2 := rfl
  rw [ht] at cs
  generalize (togF m 0 2).1 = x at *
  generalize (togF m 0 2).2 = y at *
  clear ht
  have i0 := fun w => ix0 m w
  have i1 := fun w => ix1 m w
  have i2 := fun w => ix2 m w
  have hB0 := below_al (Below.refl w.heap.size w) (.cells (sidF m) 32)
  unfold sidF at hB0 ⊢
  go_enter Try.func16, Try.ntmps16
  go_wp2
  go_loopw [18, 8] (fun i s wr => ∃ (k : Nat) (v : Value), k ≤ 3 ∧ i = .int .i64 k ∧ v = s ∧ Below w.heap.size w wr ∧ I64s wr w.heap.size v ((sixL m 0 2).take (2 * k))) (fun i _ _ => 3 - (intOf i).toNat)
  case atStart => exact ⟨0, _, by omega, rfl, rfl, hB0, I64s.nil _ _⟩
  case round =>
    obtain ⟨k, v, hk, rfl, rfl, hBr, hY⟩ := hrel
    clear hB0
    have hle := hBr.size
    match k, hk with
    | 0, _ =>
      have hYa : I64s (wr.alloc (.cells #[.int .i64 (m 0), .int .i64 (m 1), .int .i64 (m 2), .int .i64 (m 3)] 30)) w.heap.size v ((sixL m 0 2).take 0) := World.ownsRow.alloc hY _
      have hBa := below_al hBr (.cells #[.int .i64 (m 0), .int .i64 (m 1), .int .i64 (m 2), .int .i64 (m 3)] 30)
      have hleb := hBa.size
      go_upto_region 5 with (fail)
      obtain ⟨wb, hwb⟩ : ∃ wb, wb = wr.alloc (.cells #[.int .i64 (m 0), .int .i64 (m 1), .int .i64 (m 2), .int .i64 (m 3)] 30) := ⟨_, rfl⟩
      have ca : wb.cell? ⟨wr.heap.size, 0, none⟩ = some (.int .i64 (m 0)) := by rw [hwb]; exact (Blk.new _ _ _).cell 0
      have cb : wb.cell? ⟨wr.heap.size, 2, none⟩ = some (.int .i64 (m 2)) := by rw [hwb]; exact (Blk.new _ _ _).cell 2
      rw [← hwb] at hYa hBa hleb ⊢
      clear hwb hY hBr
      go_region_law (refine step_two wb.drew (by rfl) (.tmp 21) (.tmp 28) (by rfl) w.heap.size v ((sixL m 0 2).take 0) (m 0) (m 2) (by rfl) (World.ownsRow.drew hYa) _ _ rfl (by rfl) (by simp [sixL]) hleb ?_; intro v' w' hY' hg
                     have hB' := below_own hBa.drew (World.ownsRow.drew hYa) hg
                     clear hg)
      all_goals
        go_wp2
        go_roundw
        case rel => exact ⟨1, v', by omega, by go_num, rfl, hB', hY'⟩
        case measure => simp [intOf]
    | 1, _ =>
      have hYa : I64s (wr.alloc (.cells #[.int .i64 (m 4), .int .i64 (m 5), .int .i64 (m 6), .int .i64 (m 7)] 30)) w.heap.size v ((sixL m 0 2).take 2) := World.ownsRow.alloc hY _
      have hBa := below_al hBr (.cells #[.int .i64 (m 4), .int .i64 (m 5), .int .i64 (m 6), .int .i64 (m 7)] 30)
      have hleb := hBa.size
      go_upto_region 5 with (fail)
      obtain ⟨wb, hwb⟩ : ∃ wb, wb = wr.alloc (.cells #[.int .i64 (m 4), .int .i64 (m 5), .int .i64 (m 6), .int .i64 (m 7)] 30) := ⟨_, rfl⟩
      have ca : wb.cell? ⟨wr.heap.size, 0, none⟩ = some (.int .i64 (m 4)) := by rw [hwb]; exact (Blk.new _ _ _).cell 0
      have cb : wb.cell? ⟨wr.heap.size, 2, none⟩ = some (.int .i64 (m 6)) := by rw [hwb]; exact (Blk.new _ _ _).cell 2
      rw [← hwb] at hYa hBa hleb ⊢
      clear hwb hY hBr
      go_region_law (refine step_two wb.drew (by rfl) (.tmp 21) (.tmp 28) (by rfl) w.heap.size v ((sixL m 0 2).take 2) (m 4) (m 6) (by rfl) (World.ownsRow.drew hYa) _ _ rfl (by rfl) (by simp [sixL]) hleb ?_; intro v' w' hY' hg
                     have hB' := below_own hBa.drew (World.ownsRow.drew hYa) hg
                     clear hg)
      all_goals
        go_wp2
        go_roundw
        case rel => exact ⟨2, v', by omega, by go_num, rfl, hB', hY'⟩
        case measure => simp [intOf]
    | 2, _ =>
      have hYa : I64s (wr.alloc (.cells #[.int .i64 (m 8), .int .i64 (m 9), .int .i64 (m 10), .int .i64 (m 11)] 30)) w.heap.size v ((sixL m 0 2).take 4) := World.ownsRow.alloc hY _
      have hBa := below_al hBr (.cells #[.int .i64 (m 8), .int .i64 (m 9), .int .i64 (m 10), .int .i64 (m 11)] 30)
      have hleb := hBa.size
      go_upto_region 5 with (fail)
      obtain ⟨wb, hwb⟩ : ∃ wb, wb = wr.alloc (.cells #[.int .i64 (m 8), .int .i64 (m 9), .int .i64 (m 10), .int .i64 (m 11)] 30) := ⟨_, rfl⟩
      have ca : wb.cell? ⟨wr.heap.size, 0, none⟩ = some (.int .i64 (m 8)) := by rw [hwb]; exact (Blk.new _ _ _).cell 0
      have cb : wb.cell? ⟨wr.heap.size, 2, none⟩ = some (.int .i64 (m 10)) := by rw [hwb]; exact (Blk.new _ _ _).cell 2
      rw [← hwb] at hYa hBa hleb ⊢
      clear hwb hY hBr
      go_region_law (refine step_two wb.drew (by rfl) (.tmp 21) (.tmp 28) (by rfl) w.heap.size v ((sixL m 0 2).take 4) (m 8) (m 10) (by rfl) (World.ownsRow.drew hYa) _ _ rfl (by rfl) (by simp [sixL]) hleb ?_; intro v' w' hY' hg
                     have hB' := below_own hBa.drew (World.ownsRow.drew hYa) hg
                     clear hg)
      all_goals
        go_wp2
        go_roundw
        case rel => exact ⟨3, v', by omega, by go_num, rfl, hB', hY'⟩
        case measure => simp [intOf]
    | 3, _ =>
      have hY : wr.ownsRow w.heap.size 2 1 v 6 ((sixL m 0 2).map (Value.int .i64)) := hY
      obtain ⟨A, c, rfl⟩ := own_form' hY
      have c1 := cs A c wr (Reads.of_own hY)
      go_wp2_with (go_at_call 27; (with_reducible refine c1.mono ?_); rintro e w' ⟨rfl, rfl⟩)
      go_ret2
      exact ⟨rfl, hBr⟩
    | k + 4, h => omega
set_option maxHeartbeats 8000000 in
theorem across_any (m : Nat → Int) (w : World) : Calls Try.prog 6 #[.agg (sidF m)] w fun e w' => e = .returned (.tuple #[.int .i64 (togF m 3 1).1, .bool (togF m 3 1).2]) ∧ Below w.heap.size w w' := by
  have c := fun w => together_31 m w
  have K := Blk.new w 32 (sidF m)
  have hB0 := below_al (Below.refl w.heap.size w) (.cells (sidF m) 32)
  generalize (togF m 3 1).1 = x at *
  generalize (togF m 3 1).2 = y at *
  go_enter Try.func6, Try.ntmps6
  go_wp2_with (first
    | (go_at_call 16; (with_reducible refine (c _).mono ?_); rintro e w1 ⟨rfl, hb⟩)
    | (refine wpList_load_row rfl 32 _ rfl (w.heap.size) rfl 32 (sidF m) (0, 0) _ K Try.underlying32 rfl (by kernel_rfl) ?_))
  go_ret2
  exact ⟨rfl, below_next hB0 hb⟩
set_option maxHeartbeats 8000000 in
theorem down_any (m : Nat → Int) (w : World) : Calls Try.prog 13 #[.agg (sidF m)] w fun e w' => e = .returned (.tuple #[.int .i64 (togF m 0 2).1, .bool (togF m 0 2).2]) ∧ Below w.heap.size w w' := by
  have c := fun w => together_02 m w
  have K := Blk.new w 32 (sidF m)
  have hB0 := below_al (Below.refl w.heap.size w) (.cells (sidF m) 32)
  generalize (togF m 0 2).1 = x at *
  generalize (togF m 0 2).2 = y at *
  go_enter Try.func13, Try.ntmps13
  go_wp2_with (first
    | (go_at_call 16; (with_reducible refine (c _).mono ?_); rintro e w1 ⟨rfl, hb⟩)
    | (refine wpList_load_row rfl 32 _ rfl (w.heap.size) rfl 32 (sidF m) (0, 0) _ K Try.underlying32 rfl (by kernel_rfl) ?_))
  go_ret2
  exact ⟨rfl, below_next hB0 hb⟩
end Go.Proofs.Ytfamhjmdffaphaa
