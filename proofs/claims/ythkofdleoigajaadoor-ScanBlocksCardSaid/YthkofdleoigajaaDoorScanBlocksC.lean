/- What scan's own Blocks answers, at a text of whose ends IndexAny tells. Conditions: the text is not too long; bytealg.MaxLen holds some number. -/
import Derived.Test.YthkofdleoigajaaDoorScanIter
import Derived.Test.YthkofdleoigajaaDoorRx7Blocks
namespace Go.Proofs.YthkofdleoigajaaDoor
open Go.ChangeShapes Go.WideShapes Go.ChangeAt Go.RowKit Go.Shelf
namespace blks
attribute [local go_sem] Oper.semAt_some
attribute [local go_sem] wide_fn
attribute [local simp] wide_fn
theorem sblk_info : (Tryd.prog.info? 29).map (fun i => (i.zero, i.size, i.bytes)) = some (some (.agg #[.string ⟨#[]⟩, .string ⟨#[]⟩]), 2, 32) := by kernel_rfl
theorem cell_two_new (w : World) (x y : Value) (t : TypeId) : ∀ j u, [x, y][j]? = some u → (w.alloc (.cells #[x, y] t)).cell? ((⟨w.heap.size, 0, none⟩ : Addr).add j) = some u := by
  intro j u hj
  rw [add_zero_, (Blk.new w t #[x, y]).cell j]
  match j, hj with
  | 0, hj => exact hj
  | 1, hj => exact hj
/-- A loop variable's block. -/
def Pair (W : World) (B : Nat) (x : Blk2) : Prop := W.heap[B]? = some (.cells #[.string (toB x.1), .string (toB x.2)] 29 (0, 0))
theorem Pair.cells {W : World} {B : Nat} {x : Blk2} (h : Pair W B x) : W.cell? ⟨B, 0, none⟩ = some (.string (toB x.1)) ∧ W.cell? ⟨B, 1, none⟩ = some (.string (toB x.2)) := by
  unfold Pair at h
  constructor <;> simp [World.cell?, h]
theorem pair_own (B : Nat) (x : Blk2) : Own (fun (_ : Unit) W => Pair W B x) := by
  intro s X Y row h hg hrow
  have hlt : B < X.heap.size := (Array.getElem?_eq_some_iff.1 h).1
  refine (hg.block B hlt (fun e => ?_)).trans h
  obtain ⟨o, ho, hc⟩ := hrow B e.symm
  rw [show X.heap[B]? = _ from h] at ho
  cases ho
  cases hc
set_option maxHeartbeats 8000000 in
set_option maxRecDepth 100000 in
theorem seq_in (s : ByteArray) (hs : s.size ≤ mostB) (cIA : IaC s) (Bs : Nat) (w : World) (hL : Lens w) (hBs : Bs < w.heap.size) (hc : w.cell? ⟨Bs, 0, none⟩ = some (.string s)) :
    CallsIn Fence.wide 8 Tryd.prog 34 #[.slice none 0 0, .func (.func 35) #[] #[.pointer (some ⟨Bs, 0, none⟩)]] w fun e w' => ∃ A n c, e = .returned (.slice A n c) ∧ Reads w' w'.heap.size 2 A n (flatB (blocksF s.data.toList)) ∧ Below w.heap.size w w' := by
  obtain ⟨i0, hi0, hz0, hz1, hz2⟩ := info_parts sblk_info
  have hs' : s.size ≤ 1000000 := hs
  refine callsIn_of_wp_marks Tryd.func34 rfl trivial ?_ rfl
  simp only [Tryd.ntmps34, List.size_toArray, List.length_cons, List.length_nil, Nat.reduceAdd, Nat.reduceSub, Array.replicate_succ, Array.replicate_zero, List.push_toArray, List.append_toArray, List.nil_append, List.cons_append]
  gi_wp2
  have bO := Boxed.new w 23 (.slice none 0 0)
  have hB0 : Below w.heap.size w (w.alloc (.cells #[.slice none 0 0] 23)) := below_al (Below.refl _ _) _
  have hsz : (w.alloc (.cells #[.slice none 0 0] 23)).heap.size = w.heap.size + 1 := by simp only [World.size_alloc]
  obtain ⟨W0, hW0⟩ : ∃ W0, w.alloc (.cells #[.slice none 0 0] 23) = W0 := ⟨_, rfl⟩
  rw [hW0] at hB0 bO hsz ⊢
  clear hW0
  have hc0 : W0.cell? ⟨Bs, 0, none⟩ = some (.string s) := (hB0.cell (p := ⟨Bs, 0, none⟩) hBs).trans hc
  have hL0 := hL.of hB0
  have hgl := hL.lt
  refine wpIn_rangeFunc_ownH (F := Fence.wide) rfl (by omega) (gf := 35) (lb := #[.pointer (some ⟨Bs, 0, none⟩)]) rfl trivial (enters_of Tryd.func35 (by kernel_rfl) rfl) (encs := encs)
    (Kp := KeepsBut w.heap.size (w.heap.size + 1)) (S := fun ys => ys = blocksF s.data.toList) (Sp := fun _ => True) (N := s.size + 1) (w0 := W0)
    (fun l J Jx W hW hJ _ hY h0 => iter_in l 7 Bs (w.heap.size + 1) w.heap.size s hs cIA (by omega) J Jx W (by have := hW.size; omega) hJ (by omega) (by omega) (hL0.of hW) hY ((hW.cell (p := ⟨Bs, 0, none⟩) (by show Bs < W0.heap.size; omega)).trans hc0) h0) keepsBut_t (keepsBut_b (by omega)) (Below.refl _ _) (fun _ => rfl)
    (fun pre W => (∃ v, Boxed W w.heap.size 23 v ∧ W.ownsRow (w.heap.size + 1) 29 2 v pre.length (flatB pre) ∧ True) ∧ KeepsBut w.heap.size (w.heap.size + 1) W0 W)
    (fun _ _ _ => False)
    (OwnFrom.and (Own.from (holdsRow_own (w.heap.size + 1) w.heap.size 23 29 2 (fun pre => pre.length) (fun pre => flatB pre) (fun pre v => True)) _) (ownFrom_keepsBut (by omega) (by omega)))
    (fun _ _ _ _ _ hs _ _ => hs)
    ⟨⟨_, bO, World.ownsRow_nil _ _ _ _, trivial⟩, KeepsBut.refl _ _ _⟩
    (fun x a' W => ∃ Bx, w.heap.size + 1 ≤ Bx ∧ Pair W Bx x ∧ a' = { tmps := #[.slice none 0 0, .func (.func 35) #[] #[.pointer (some ⟨Bs, 0, none⟩)], .pointer (some ⟨w.heap.size, 0, none⟩), undef, .slice none 0 0, .pointer (some ⟨Bx, 0, none⟩), .func (.func 35) #[] #[.pointer (some ⟨Bs, 0, none⟩)], .agg #[.string (toB x.1), .string (toB x.2)], undef, undef, undef, undef, undef], defers := [] })
    (fun x a' _ X Y row hs hg hr => by obtain ⟨Bx, h1, h2, h3⟩ := hs; exact ⟨Bx, h1, pair_own Bx x () X Y row h2 hg (fun r e => (hr r e).2), h3⟩)
    ?assign ?body ?done ?stop
  case assign =>
    rintro l pre x W K ⟨⟨v, hv, hrow, -⟩, hK⟩ hKK
    have hsW := hK.size
    dsimp only [encs]
    gi_wp2
    refine hKK _ _ ((KeepsOthers.alloc _ _).from _) ((KeepsBut.refl _ _ W).alloc (by omega) _) ⟨⟨v, hv.alloc _, hrow.alloc _, trivial⟩, hK.alloc (by omega) _⟩ ⟨W.heap.size, by omega, ?_, rfl⟩
    exact World.alloc_heap_new W _
  case body =>
    rintro l pre x a' W hl ⟨r, hr⟩ ⟨⟨v, hv, hrow, -⟩, hK⟩ ⟨Bx, hBx, bX, rfl⟩ hlt
    have hcv := hv.cell
    obtain ⟨cx, cy⟩ := bX.cells
    have hsW := hK.size
    have hfl : flatB (pre ++ [x]) = flatB pre ++ [.string (toB x.1), .string (toB x.2)] := flatB_snoc pre x
    have HF := Lib.hid hfl
    clear hfl
    gi_wp2_with (gi_at_builtin; (refine wpListIn_append_own _ rfl _ _ 23 rfl (w.heap.size + 1) 29 i0 (.agg #[.string ⟨#[]⟩, .string ⟨#[]⟩]) 2 32 Tryd.underlying23 hi0 hz0 hz1 hz2 rfl (by decide) _ _ _ rfl (hrow.alloc _) ⟨W.heap.size, 0, none⟩ 1 1 [.string (toB x.1), .string (toB x.2)] rfl rfl (cell_two_new _ _ _ _) (by simp [Value.oneCell']) (by simp only [maxLen]; omega) (by omega) (by simp; omega) ?_; intro v' w1 hown' hgrow _; obtain ⟨g', cap', rfl⟩ := ownsRow_succ hown'; obtain ⟨hv1, hv2, hr2, hk2, hb2⟩ := boxed_appended hv (by decide) hrow (by omega) hown' hgrow; have hc1 := hv1.cell; have hf1 := hv1.frozen))
    refine ⟨hk2.from _, hb2, ⟨_, hv2, ?_⟩, hK.trans hb2⟩
    rw [HF.out, List.length_append]
    first | exact hr2 | exact ⟨hr2, trivial⟩
  case done =>
    rintro D ys W hD rfl ⟨⟨v, hv, hrow, -⟩, hK⟩ hDef
    have hcv := hv.cell
    gi_wp2
    refine ⟨by simp, .inl ⟨_, _, rfl, run_takeDeferred hDef, ?_⟩⟩
    have hp := ownsRow_putObj hrow (.deferred none) hDef rfl
    obtain ⟨A, c, rfl⟩ := own_form' hp
    exact ⟨_, results_tmp rfl _ _ _, A, _, c, rfl, Reads.of_own hp, hB0.trans ((hK.below (m := w.heap.size) (by omega) (Nat.le_refl _)).trans (belowK_b (w := w) (Nat.le_refl _) W D _ _ (by omega) hDef rfl rfl))⟩
  case stop =>
    rintro D c pre W _ _ h _
    exact h.elim
theorem collect_any (s : ByteArray) (hs : s.size ≤ mostB) (cIA : IaC s) (Bs : Nat) (w : World) (hL : Lens w) (hBs : Bs < w.heap.size) (hc : w.cell? ⟨Bs, 0, none⟩ = some (.string s)) :
    Calls Tryd.prog 21 #[.func (.func 35) #[] #[.pointer (some ⟨Bs, 0, none⟩)]] w fun e w' => ∃ A n c, e = .returned (.slice A n c) ∧ Reads w' w'.heap.size 2 A n (flatB (blocksF s.data.toList)) ∧ Below w.heap.size w w' := by
  have c1 := callsIn_wide.1 (seq_in s hs cIA Bs w hL hBs hc)
  go_enter Tryd.func21, Tryd.ntmps21
  go_wp2_with (go_at_call 34; (with_reducible refine c1.mono ?_); rintro e w' ⟨A, n, c, rfl, hr, hb⟩)
  go_ret
  exact ⟨A, n, c, rfl, hr, hb⟩
theorem blocks_any (s : ByteArray) (cIA : IaC s) (w : World) (hL : Lens w) (hs : s.size ≤ mostB) :
    Calls Tryd.prog 8 #[.string s] w fun e w' => ∃ A n c, e = .returned (.slice A n c) ∧ Reads w' w'.heap.size 2 A n (flatB (blocksF s.data.toList)) ∧ Below w.heap.size w w' := by
  have hL1 : Lens (w.alloc (.cells #[.string s] 9)) := hL.alloc _
  have c1 := collect_any s hs cIA w.heap.size (w.alloc (.cells #[.string s] 9)) hL1 (by simp) (Boxed.new w 9 (.string s)).cell
  have cb : ∀ w, Calls Tryd.prog 22 #[.string s] w fun e w' => e = .returned (.func (.func 35) #[] #[.pointer (some ⟨w.heap.size, 0, none⟩)]) ∧ w' = w.alloc (.cells #[.string s] 9) := by
    intro w
    go_enter Tryd.func22, Tryd.ntmps22
    go_wp2
    go_ret
    exact ⟨rfl, rfl⟩
  go_enter Tryd.func8, Tryd.ntmps8
  go_wp2_with (first
    | (go_at_call 22; (with_reducible refine (cb _).mono ?_); rintro e w' ⟨rfl, rfl⟩)
    | (go_at_call 21; (with_reducible refine c1.mono ?_); rintro e w' ⟨A, n, c, rfl, hr, hb⟩))
  go_ret
  refine ⟨A, n, c, rfl, hr, (below_al (Below.refl _ _) (.cells #[.string s] 9)).trans (hb.mono (by simp))⟩
end blks
end Go.Proofs.YthkofdleoigajaaDoor
