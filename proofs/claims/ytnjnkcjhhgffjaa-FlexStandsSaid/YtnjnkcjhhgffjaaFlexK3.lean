/- What the landed package flex's Order answers, of fewer than 20 numbers. Conditions: the list lies in memory as it is read. -/
import Derived.Test.YtnjnkcjhhgffjaaFlexK2
namespace Go.Proofs.Ytnjnkcjhhgffjaa
open Go.ChangeShapes Go.WideShapes Go.ChangeAt Go.RowKit
set_option maxHeartbeats 8000000 in
set_option maxRecDepth 100000 in
theorem stable_small (A : Option Addr) (n c gl gd cap E : Nat) (cs : Array Value) (l D : List Int) (w : World) (hr : Reads w E 1 A n (l.map (Value.int .i64))) (hgl : Blk w gl 41 #[.slice A n c]) (hgd : Blk w gd 3 cs) (hcs : Holds cs D) (hE : E ≤ gd) (hD : Within n D) (h1 : 1 ≤ D.length) (h2 : D.length < 20) :
    Calls Try.prog 67 #[.slice (some ⟨gd, 0, none⟩) D.length cap, .int .i64 (D.length : Int), .func (.func 52) #[] #[.pointer (some ⟨gl, 0, none⟩)]] w fun e w' => e = .returned (.tuple #[]) ∧
      (∃ cs', Blk w' gd 3 cs' ∧ Holds cs' (insTo l 0 D (D.length - 1))) ∧ Blk w' gl 41 #[.slice A n c] ∧ Below E w w' := by
  have ci := insertion_any A n c gl gd cap E 0 D.length cs l D w hr hgl hgd hcs hE hD (Nat.le_refl _) (by omega) h1
  have e0 : ((0 : Nat) : Int) = 0 := rfl
  rw [e0] at ci
  have hCS := Lib.hid hcs
  have hDD := Lib.hid hD
  have HX := Lib.hid (show insTo l 0 D (D.length - (0 + 1)) = insTo l 0 D (D.length - 1) from rfl)
  rw [HX.out] at ci
  clear hcs hD
  generalize insTo l 0 D (D.length - 1) = DD at *
  generalize D.length = N at *
  have g1 : ¬ (20 : Int) ≤ (N : Int) := by omega
  have g2 : ¬ (20 : Int) < (N : Int) := by omega
  go_enter Try.func67, Try.ntmps67
  go_wp2
  go_loopw [7, 8] (fun s7 s8 wr => s7 = .int .i64 0 ∧ s8 = .int .i64 20 ∧ wr = w) (fun _ _ _ => 0)
  case atStart => exact ⟨rfl, rfl, rfl⟩
  case round =>
    obtain ⟨rfl, rfl, hw⟩ := hrel
    subst hw
    go_wp2_with (go_at_call 75; (with_reducible refine ci.mono ?_); rintro e w1 ⟨rfl, h1, h2, h3⟩
                 have H1 := Lib.hid h1
                 clear h1)
    go_loopw [6] (fun s6 wr => s6 = .int .i64 20 ∧ wr = w1) (fun _ _ => 0)
    case atStart => exact ⟨rfl, rfl⟩
    case round =>
      obtain ⟨rfl, hw⟩ := hrel
      subst hw
      go_wp2
      go_end0
      exact ⟨rfl, H1.out, h2, h3⟩
theorem iota_in (n : Nat) : Within n ((List.range n).map fun (k : Nat) => (k : Int)) := by
  intro x hx
  obtain ⟨k, hk, rfl⟩ := List.mem_map.1 hx
  have := List.mem_range.1 hk
  omega
/-- The places of fewer than 20 numbers, rising. -/
def orderS (l : List Int) : List Int := insTo l 0 ((List.range l.length).map fun (k : Nat) => (k : Int)) (l.length - 1)
set_option maxHeartbeats 8000000 in
set_option maxRecDepth 100000 in
theorem order_small (A : Option Addr) (n c : Nat) (l : List Int) (w : World) (hr : Reads w w.heap.size 1 A n (l.map (Value.int .i64))) (h1 : 1 ≤ n) (h2 : n < 20) :
    Calls Try.prog 28 #[.slice A n c] w fun e w' => ∃ (A' : Option Addr) (c' : Nat), e = .returned (.slice A' n c') ∧ Reads w' w'.heap.size 1 A' n ((orderS l).map (Value.int .i64)) ∧ Below w.heap.size w w' := by
  have hlen : l.length = n := by have := hr.1; simpa using this
  have hmf : ∀ (fn : Fn) (first cap : Array Value) (w : World), (Instr.makeFunc fn first cap).run Try.prog w = .ok (.func fn first cap) w := fun _ _ _ _ => rfl
  have HO := Lib.hid (show insTo l 0 ((List.range n).map fun (k : Nat) => (k : Int)) (n - 1) = orderS l by unfold orderS; rw [hlen])
  have K0 := Blk.new w 41 #[.slice A n c]
  have hB0 := below_al (Below.refl w.heap.size w) (.cells #[.slice A n c] 41)
  have c0 : (w.alloc (.cells #[.slice A n c] 41)).cell? ⟨w.heap.size, 0, none⟩ = some (.slice A n c) := K0.cell 0
  clear hlen
  go_enter Try.func28, Try.ntmps28
  go_wp2
  clear c0
  go_loopw [7, 3] (fun i s wr => ∃ (k : Nat) (v : Value), k ≤ n ∧ i = .int .i64 k ∧ v = s ∧ Below w.heap.size w wr ∧ Blk wr w.heap.size 41 #[.slice A n c] ∧ IntsI wr w.heap.size v ((List.range k).map fun (k : Nat) => (k : Int))) (fun i _ _ => n - (intOf i).toNat)
  case atStart => exact ⟨0, _, Nat.zero_le _, rfl, rfl, hB0, K0, IntsI.nil _ _⟩
  case round =>
    obtain ⟨k, v, hk, rfl, rfl, hBr, K, hY⟩ := hrel
    clear K0 hB0
    have nv := own_blk_ne hY K (by decide)
    have hlk : ((List.range k).map fun (k : Nat) => (k : Int)).length = k := by rw [List.length_map, List.length_range]
    have HL := Lib.hid hlk
    clear hlk
    by_cases hlt : k < n
    · have HS := Lib.hid (show ((List.range (k + 1)).map fun (k : Nat) => (k : Int)) = ((List.range k).map fun (k : Nat) => (k : Int)) ++ [(k : Int)] by rw [List.range_succ, List.map_append]; rfl)
      generalize ((List.range k).map fun (k : Nat) => (k : Int)) = ks at *
      go_wp2_with (at_builtin; refine wpList_IntsI wr rfl (.tmp 10) (.tmp 12) rfl w.heap.size v ks k rfl hY _ _ rfl rfl (by rw [HL.out]; omega) hBr.size ?_; intro v' w' hY' hg
                   have hB' := below_own hBr hY hg
                   have K' := (K.alloc _).grown hg (fun e => nv e.symm)
                   clear hg)
      go_roundw
      case rel => exact ⟨k + 1, v', by omega, by go_num, rfl, hB', K', by rw [HS.out]; exact hY'⟩
      case measure => simp [intOf]; omega
    · obtain rfl : k = n := by omega
      have hYf : wr.ownsRow w.heap.size 3 1 v k (((List.range k).map fun (k : Nat) => (k : Int)).map (Value.int .i64)) := by have h := hY; unfold IntsI at h; rwa [HL.out] at h
      obtain ⟨gd0, cap, rfl, hgd0, hgdl⟩ := World.ownsRow.form hYf (by omega)
      obtain ⟨gd, cs, hA, hK, hC⟩ := (RowB.of_own (A := some ⟨gd0, 0, none⟩) (c := cap) hYf).2 (by omega)
      obtain rfl : gd0 = gd := by injection hA with hA; injection hA
      have hle : w.heap.size ≤ gd0 := (World.ownsRow.lt hYf gd0 rfl).1
      have hH : Holds cs ((List.range k).map fun (k : Nat) => (k : Int)) := fun j u hu => hC j _ (by rw [List.getElem?_map, hu]; rfl)
      have st := stable_small A k c w.heap.size gd0 cap w.heap.size cs l _ wr (hr.below hBr) K hK hH hle (by rw [HL.out.symm.trans HL.out] ; exact iota_in k) (by rw [HL.out]; exact h1) (by rw [HL.out]; exact h2)
      rw [HL.out, HO.out] at st
      have ss : Calls Try.prog 51 #[.slice (some ⟨gd0, 0, none⟩) k cap, .func (.func 52) #[] #[.pointer (some ⟨w.heap.size, 0, none⟩)]] wr fun e w' => e = .returned (.tuple #[]) ∧
          Hid (∃ cs', Blk w' gd0 3 cs' ∧ Holds cs' (orderS l)) ∧ Below w.heap.size wr w' := by
        go_enter Try.func51, Try.ntmps51
        go_wp2_with (go_at_call 67; (with_reducible refine st.mono ?_); rintro e w1 ⟨rfl, q1, q2, q3⟩
                     have Q1 := Lib.hid q1
                     clear q1)
        go_end0
        exact ⟨rfl, Q1, q3⟩
      clear hC hH st hYf hY hK hA
      go_wp2_with (go_at_call 51; (with_reducible refine ss.mono ?_); rintro e w1 ⟨rfl, Q1, q3⟩)
      go_ret
      obtain ⟨cs', q1, q2⟩ := Q1.out
      have hlo : (orderS l).length = k := by rw [← HO.out, insTo_len, HL.out]
      refine ⟨some ⟨gd0, 0, none⟩, cap, rfl, ⟨by simpa using hlo, fun _ => ⟨_, rfl, q1.lt, fun j u hu => ?_⟩⟩, hBr.trans q3⟩
      rw [add_zero_, q1.cell j]
      rw [List.getElem?_map] at hu
      cases hj : (orderS l)[j]? with
      | none => rw [hj] at hu; cases hu
      | some x =>
        rw [hj] at hu
        injection hu with hu
        rw [← hu]
        exact q2 j x hj
end Go.Proofs.Ytnjnkcjhhgffjaa
