/- What the landed package line's gapsAndWidths and widened answer. Conditions: as the theorems' premises say. -/
import Derived.Test.YtgglffmfkhbcgaaLineA
import Derived.Test.YtgglffmfkhbcgaaLineO
namespace Go.Proofs.Ytgglffmfkhbcgaa
open Go.ChangeShapes Go.WideShapes Go.ChangeAt Go.RowKit
theorem own_cap {w : World} {base n m c : Nat} {e : TypeId} {size : Nat} {A : Option Addr} {xs : List Value} (h : w.ownsRow base e size (.slice A m c) n xs) : n ≤ c := by
  rcases h.2 with ⟨h1, h2⟩ | ⟨g, cap, cur, h1, _, _, h2, _⟩
  · omega
  · injection h1 with h1 h3 h4; omega
set_option maxHeartbeats 8000000 in
set_option maxRecDepth 100000 in
theorem gaw_any (A : Option Addr) (n c B : Nat) (l : List Pc) (w : World) (hB : B ≤ w.heap.size) (hr : Reads w B 6 A n (flatP l)) (hn : n ≤ 1000000) :
    Calls Try.prog 50 #[.slice A n c] w fun e w' => ∃ A' c', e = .returned (.slice A' (gwP l).length c') ∧ Reads w' w'.heap.size 1 A' (gwP l).length ((gwP l).map (Value.int .i64)) ∧ (gwP l).length ≤ c' ∧ Below w.heap.size w w' := by
  have HL := Lib.hid (len_P hr)
  go_enter Try.func50, Try.ntmps50
  go_wp2
  go_loopw [8, 3] (fun i s wr => ∃ (k : Nat) (v : Value), k ≤ n ∧ i = .int .i64 k ∧ v = s ∧ Below w.heap.size w wr ∧ IntsO wr w.heap.size v (gwP (l.take k))) (fun i _ _ => n - (intOf i).toNat)
  case atStart => exact ⟨0, _, Nat.zero_le _, rfl, rfl, Below.refl _ _, IntsO.nil _ _⟩
  case round =>
    obtain ⟨k, v, hk, rfl, rfl, hBr, hY⟩ := hrel
    have hr1 := hr.below (hBr.mono hB)
    have hle := hBr.size
    by_cases hlt : k < n
    · obtain ⟨p, hp⟩ : ∃ p, l[k]? = some p := ⟨l[k]'(by rw [HL.out]; exact hlt), List.getElem?_eq_getElem _⟩
      obtain ⟨ad, rfl, hb, e0, e1, e2, e3, e4, e5⟩ := pc_of hr1 hp
      have HS := Lib.hid (show gwP (l.take (k + 1)) = gwP (l.take k) ++ [p.g, p.w] by rw [List.take_add_one, hp]; exact gwP_snoc _ _)
      have hgl : (gwP (l.take k)).length ≤ 2000000 := by rw [gwP_len, List.length_take]; omega
      obtain ⟨pb, pw, ph, pg, pt, pk⟩ := p
      simp only at e0 e1 e2 e3 e4 e5 HS
      have hBa := below_al hBr (.cells #[.int .i64 pb, .int .i64 pw, .int .i64 ph, .int .i64 pg, .string pt, .bool pk] 32)
      have hYa : IntsO (wr.alloc (.cells #[.int .i64 pb, .int .i64 pw, .int .i64 ph, .int .i64 pg, .string pt, .bool pk] 32)) w.heap.size v (gwP (l.take k)) := World.ownsRow.alloc hY _
      clear hp hr1 hb
      generalize gwP (l.take k) = xs at *
      go_wp2_with (at_builtin; refine wpList_IntsO2 _ rfl (.tmp 12) (.tmp 17) rfl w.heap.size v xs pg pw rfl hYa (wr.heap.size + 1) _ (size_al wr _) rfl (by omega) hBa.size ?_; intro v' w' hY' hg
                   have hB' := below_own hBa hYa hg
                   clear hg)
      go_roundw
      case rel => exact ⟨k + 1, v', by omega, by go_num, rfl, hB', by rw [HS.out]; exact hY'⟩
      case measure => simp [intOf]; omega
    · obtain rfl : k = n := by omega
      have htk : l.take k = l := List.take_of_length_le (by rw [HL.out]; omega)
      rw [htk] at hY
      obtain ⟨A1, c1, rfl⟩ := own_form' hY
      go_wp2
      go_ret
      exact ⟨A1, c1, rfl, Reads.of_own hY, own_cap hY, hBr⟩
set_option maxHeartbeats 8000000 in
set_option maxRecDepth 100000 in
theorem widened_any (A : Option Addr) (n c B : Nat) (x : Int) (l : List Int) (w : World) (hB : B ≤ w.heap.size) (hr : Reads w B 1 A n (l.map (Value.int .i64))) (hn : n ≤ 2000000) :
    Calls Try.prog 49 #[.int .i64 x, .slice A n c] w fun e w' => e = .returned (.tuple #[.int .i64 (sumL (x :: l)).1, .bool (sumL (x :: l)).2]) ∧ Below w.heap.size w w' := by
  have hlen : l.length = n := by have := hr.1; simpa using this
  have hO := own_one w x
  have hra := (hr.more hB).alloc (Nat.le_refl _) (.cells #[.int .i64 x] 2)
  have hB1 := below_al (Below.refl w.heap.size w) (.cells #[.int .i64 x] 2)
  go_enter Try.func49, Try.ntmps49
  go_wp2_with (first
    | (at_builtin; (refine wpList_IntsOn _ rfl (.tmp 7) (.tmp 8) rfl w.heap.size _ [x] l rfl hO w.heap.size A n c rfl hra hlen (by simp; omega) (by simp) ?_); intro v' w' hY' hg
       have hB' := hB1.grown hg hB1.size (fun k hk => (hO.lt k hk).1)
       have hY2 : IntsO w' w.heap.size v' (x :: l) := hY'
       clear hg hY'
       unfold IntsO at hY2
       have hN : (x :: l).length ≤ 2000001 := by simp; omega
       generalize (x :: l).length = N at hY2 hN
       obtain ⟨A1, c1, rfl⟩ := own_form' hY2
       have sm := sum_any A1 N c1 w'.heap.size (x :: l) w' (Reads.of_own hY2) (by omega))
    | (go_at_call 33; (with_reducible refine sm.mono ?_); rintro e w9 ⟨rfl, rfl⟩))
  go_ret2
  exact ⟨rfl, hB'⟩
/-- Of a row that isn't empty: at least two numbers, and all but the first. -/
theorem gaw_row (A : Option Addr) (n c B : Nat) (l : List Pc) (w : World) (hB : B ≤ w.heap.size) (hr : Reads w B 6 A n (flatP l)) (hn : n ≤ 1000000) (hn0 : 0 < n) (N N2 : Nat) (hN : N = (gwP l).length) (hN2 : N2 = N - 1) :
    Calls Try.prog 50 #[.slice A n c] w fun e w' => ∃ b b2 c' c2, e = .returned (.slice (some b) N c') ∧ Reads w' w'.heap.size 1 (some b) N ((gwP l).map (Value.int .i64)) ∧ Reads w' w'.heap.size 1 (some b2) N2 (((gwP l).drop 1).map (Value.int .i64)) ∧
      (∀ w2, (Instr.slice 38 (.slice (some b) N c') (some (.int .i64 1)) none none).run Try.prog w2 = .ok (.slice (some b2) N2 c2) w2) ∧ Below w.heap.size w w' := by
  subst hN2
  have hl := len_P hr
  have hg := gwP_len l
  refine (gaw_any A n c B l w hB hr hn).mono ?_
  rintro e w' ⟨A', c', rfl, hr', hc, hb⟩
  rw [← hN] at hr' hc ⊢
  obtain ⟨b, rfl, hbb, hcells⟩ := hr'.2 (by omega)
  refine ⟨b, b.add 1, c', c' - 1, rfl, hr', ⟨by rw [List.length_map, List.length_drop]; omega, fun _ => ⟨_, rfl, by rw [block_of_add]; exact hbb, fun j u hu => ?_⟩⟩, fun w2 => ?_, hb⟩
  · rw [add_of_add]
    refine hcells _ u ?_
    rw [← hu, List.getElem?_map, List.getElem?_map, List.getElem?_drop]
  · have h := run_slice_l (P := Try.prog) (w := w2) (t := 38) (a := some b) (len := N) (cap := c') Try.underlying38 .i64 1 (by omega) (by omega)
    rw [h]
    have hs : (sizeOf (Try.prog.elem 38)).run Try.prog w2 = .ok 1 w2 := by kernel_rfl
    rw [hs]
    have hne : ¬ c' = 1 := by omega
    simp [Result.andThen, sliced, hne]
end Go.Proofs.Ytgglffmfkhbcgaa
