/- What scan's own Words answers. Conditions: the text is not too long. -/
import Derived.Test.YtcacabpcobmgoaaGreatDoorScanPartsW
namespace Go.Proofs.YtcacabpcobmgoaaGreatDoor
open Go.ChangeShapes Go.WideShapes Go.ChangeAt Go.RowKit Go.Shelf
namespace partsW
attribute [local go_sem] Oper.semAt_some
attribute [local go_sem] wide_fn
attribute [local simp] wide_fn
def ne (pre : List Pt) : List (List UInt8) := (pre.map (·.1)).filter fun w => !w.isEmpty
theorem ne_hit (pre : List Pt) (x : Pt) (h : x.1.isEmpty = false) : ne (pre ++ [x]) = ne pre ++ [x.1] := by simp [ne, List.filter_append, h]
theorem ne_miss (pre : List Pt) (x : Pt) (h : x.1.isEmpty = true) : ne (pre ++ [x]) = ne pre := by simp [ne, List.filter_append, h]
theorem ne_len (pre : List Pt) : (ne pre).length ≤ pre.length := by
  have := List.length_filter_le (fun w : List UInt8 => !w.isEmpty) (pre.map (·.1))
  rw [List.length_map] at this
  exact this
set_option maxHeartbeats 8000000 in
set_option maxRecDepth 100000 in
theorem words_in (s : ByteArray) (hs : s.size ≤ mostB) (w : World) :
    CallsIn Fence.wide 8 Tryz.prog 54 #[.string s] w fun e w' => ∃ A n c, e = .returned (.slice A n c) ∧ Reads w' w'.heap.size 1 A n (strs (wordsF s.data.toList)) ∧ Below w.heap.size w w' := by
  obtain ⟨i0, hi0, hz0, hz1, hz2⟩ := info_parts str_info
  have hs' : s.size ≤ 1000000 := hs
  refine callsIn_of_wp_marks Tryz.func54 rfl trivial ?_ rfl
  simp only [Tryz.ntmps54, List.size_toArray, List.length_cons, List.length_nil, Nat.reduceAdd, Nat.reduceSub, Array.replicate_succ, Array.replicate_zero, List.push_toArray, List.append_toArray, List.nil_append, List.cons_append]
  gi_wp2_with (gi_at_call 74; (with_reducible refine (callsIn_wide.2 (parts_any s _)).mono ?_); rintro e w' ⟨rfl, rfl⟩)
  have bO := Boxed.new w 48 (.slice none 0 0)
  have hB0 : Below w.heap.size w (w.alloc (.cells #[.slice none 0 0] 48)) := below_al (Below.refl _ _) _
  have bS := Boxed.new (w.alloc (.cells #[.slice none 0 0] 48)) 9 (.string s)
  have bP := Boxed.new ((w.alloc (.cells #[.slice none 0 0] 48)).alloc (.cells #[.string s] 9)) 58 (.func (.func 75) #[] #[])
  simp only [World.size_alloc] at bS bP
  have hB1 := below_al hB0 (.cells #[.string s] 9)
  have hB2 := below_al hB1 (.cells #[.func (.func 75) #[] #[]] 58)
  have bO2 := (bO.alloc (.cells #[.string s] 9)).alloc (.cells #[.func (.func 75) #[] #[]] 58)
  have bS2 := bS.alloc (.cells #[.func (.func 75) #[] #[]] 58)
  have hsz : (((w.alloc (.cells #[.slice none 0 0] 48)).alloc (.cells #[.string s] 9)).alloc (.cells #[.func (.func 75) #[] #[]] 58)).heap.size = w.heap.size + 3 := by simp only [World.size_alloc]
  obtain ⟨W0, hW0⟩ : ∃ W0, ((w.alloc (.cells #[.slice none 0 0] 48)).alloc (.cells #[.string s] 9)).alloc (.cells #[.func (.func 75) #[] #[]] 58) = W0 := ⟨_, rfl⟩
  rw [hW0] at hB2 bO2 bS2 bP hsz ⊢
  clear hW0 bO bS hB0 hB1
  refine wpIn_rangeFunc_ownG (F := Fence.wide) rfl (by omega) (gf := 88) (lb := #[.pointer (some ⟨w.heap.size + 1, 0, none⟩), .pointer (some ⟨w.heap.size + 1 + 1, 0, none⟩)]) rfl trivial (enters_of Tryz.func88 (by kernel_rfl) rfl)
    (iter_stops 7 (w.heap.size + 1) (w.heap.size + 1 + 1) (w.heap.size + 3) w.heap.size s hs (by omega) (by omega) (by omega) (by omega) (by omega) W0 (by omega) bS2.cell bP.cell) keepsBut_t (keepsBut_b (by omega)) (Below.refl _ _) (fun _ => rfl)
    (fun pre W => (∃ v, Boxed W w.heap.size 48 v ∧ W.ownsRow (w.heap.size + 3) 9 1 v (ne pre).length (strs (ne pre)) ∧ True) ∧ KeepsBut w.heap.size (w.heap.size + 3) W0 W)
    (fun _ _ _ => False)
    (OwnFrom.and (Own.from (holdsRow_own (w.heap.size + 3) w.heap.size 48 9 1 (fun pre => (ne pre).length) (fun pre => strs (ne pre)) (fun pre v => True)) _) (ownFrom_keepsBut (by omega) (by omega)))
    (fun _ _ _ _ _ hs _ _ => hs)
    ⟨⟨_, bO2, World.ownsRow_nil _ _ _ _, trivial⟩, KeepsBut.refl _ _ _⟩
    (fun x => { tmps := #[.string s, undef, .slice none 0 0, .pointer (some ⟨w.heap.size, 0, none⟩), .string (toB x.1), .string s, .func (.func 88) #[] #[.pointer (some ⟨w.heap.size + 1, 0, none⟩), .pointer (some ⟨w.heap.size + 1 + 1, 0, none⟩)], .string (toB x.1), undef, undef, undef, undef, undef, undef, undef], defers := [] }) ?assign ?body ?done ?stop
  case assign =>
    intro l x W K hK
    dsimp only [encs]
    gi_wp2
    exact hK
  case body =>
    rintro l pre x W ⟨⟨v, hv, hrow, -⟩, hK⟩ hlt
    have hc := hv.cell
    have hpl := ne_len pre
    have hsW := hK.size
    have he := toB_beq x.1
    cases hem : x.1.isEmpty
    · have hne := ne_hit pre x hem
      rw [hem] at he
      have HNE := Lib.hid hne
      clear hne hem
      gi_wp2_with (gi_at_builtin; (refine wpListIn_append_own _ rfl _ _ 48 rfl (w.heap.size + 3) 9 i0 (.string ⟨#[]⟩) 1 16 Tryz.underlying48 hi0 hz0 hz1 hz2 rfl (by decide) _ _ _ rfl (hrow.alloc _) ⟨W.heap.size, 0, none⟩ 1 1 [.string (toB x.1)] rfl rfl (cell_one_new _ _ _) (by simp [Value.oneCell']) (by simp only [maxLen]; omega) (by omega) (by simp; omega) ?_; intro v' w1 hown' hgrow _; obtain ⟨g', cap', rfl⟩ := ownsRow_succ hown'; obtain ⟨hv1, hv2, hr2, hk2, hb2⟩ := boxed_appended hv (by decide) hrow (by omega) hown' hgrow; have hc1 := hv1.cell; have hf1 := hv1.frozen))
      refine ⟨hk2.from _, hb2, ⟨_, hv2, ?_⟩, hK.trans hb2⟩
      rw [HNE.out]
      have : strs (ne pre ++ [x.1]) = strs (ne pre) ++ [.string (toB x.1)] := by unfold strs; rw [List.map_append]; rfl
      rw [this, List.length_append]
      first | exact hr2 | exact ⟨hr2, trivial⟩
    · have hne := ne_miss pre x hem
      rw [hem] at he
      have HNE := Lib.hid hne
      clear hne hem
      gi_wp2
      refine ⟨KeepsFrom.refl _ _, KeepsBut.refl _ _ _, ⟨v, hv, ?_⟩, hK⟩
      rw [HNE.out]
      first | exact hrow | exact ⟨hrow, trivial⟩
  case done =>
    rintro D ys W hD hys ⟨⟨v, hv, hrow, -⟩, hK⟩ hDef
    have hc := hv.cell
    have hlt : ∀ g, v.ownBlock = some g → True := fun _ _ => trivial
    have e : ne ys = wordsF s.data.toList := by unfold ne wordsF; rw [hys]
    rw [e] at hrow
    gi_wp2
    refine ⟨by simp, .inl ⟨_, _, rfl, run_takeDeferred hDef, ?_⟩⟩
    have hp := ownsRow_putObj hrow (.deferred none) hDef rfl
    obtain ⟨A, c, rfl⟩ := own_form' hp
    exact ⟨_, results_tmp rfl _ _ _, A, _, c, rfl, Reads.of_own hp, hB2.trans ((hK.below (m := w.heap.size) (by omega) (Nat.le_refl _)).trans (belowK_b (w := w) (Nat.le_refl _) W D _ _ (by omega) hDef rfl rfl))⟩
  case stop =>
    rintro D c pre W _ _ h _
    exact h.elim
theorem words_any : WordsC := fun s w hs => callsIn_wide.1 (words_in s hs w)
end partsW
end Go.Proofs.YtcacabpcobmgoaaGreatDoor
