/- What the document's own May, Has, Move, less and Inset of layer 2 answer. Conditions: none. -/
import Derived.Test.YtabijoohoofogaaRectMath2
import Derived.Test.YtabijoohoofogaaRx1Add
import Derived.Test.YtabijoohoofogaaRx1Sub
import Derived.Test.YtabijoohoofogaaBlk
import Derived.Outline
import Derived.WalkLawsBesides
namespace Go.Proofs.Ytabijoohoofogaa
open Go.ChangeShapes Go.WideShapes Go.ChangeAt Go.RowKit
/-- A slice that a literal made. -/
theorem Reads.lit (w : World) (t : TypeId) (cs : Array Value) (size n : Nat) (h : cs.size = n * size) : Reads (w.alloc (.cells cs t)) (w.heap.size + 1) size (some ⟨w.heap.size, 0, none⟩) n cs.toList := by
  refine ⟨by simpa using h, fun _ => ⟨_, rfl, by show w.heap.size < _; omega, ?_⟩⟩
  intro j u hu
  have hc : (w.alloc (.cells cs t)).cell? ⟨w.heap.size, j, none⟩ = cs[j]? := cell_of_row _ w.heap.size j cs t (0, 0) (heap_alloc_new w _)
  have ha : (⟨w.heap.size, 0, none⟩ : Addr).add j = ⟨w.heap.size, j, none⟩ := by
    unfold Addr.add
    split
    · subst_vars; rfl
    · simp
  rw [ha, hc, ← hu]
  simp
def nums (r : Plc) : List Int := [r.x, r.y, r.w, r.h]
theorem nums_ok {r : Plc} (h : ∀ j, j < 4 → ∀ x, (nums r)[j]? = some x → ok x = true) (hw : 0 ≤ r.w) (hh : 0 ≤ r.h) : mayB r = true := by
  have h0 := ok_iff.1 (h 0 (by omega) r.x rfl)
  have h1 := ok_iff.1 (h 1 (by omega) r.y rfl)
  have h2 := ok_iff.1 (h 2 (by omega) r.w rfl)
  have h3 := ok_iff.1 (h 3 (by omega) r.h rfl)
  exact mayB_iff.2 ⟨h0.1, h0.2, h1.1, h1.2, hw, h2.2, hh, h3.2⟩
theorem nums_no {r : Plc} {j : Nat} {x : Int} (hx : (nums r)[j]? = some x) (h : ok x = false) : mayB r = false := by
  cases hm : mayB r with
  | false => rfl
  | true =>
    obtain ⟨a, b, c, d, e, f, g, i⟩ := mayB_iff.1 hm
    have : ok x = true := by
      match j, hx with
      | 0, hx => obtain rfl : r.x = x := by simpa [nums] using hx
                 exact ok_iff.2 ⟨a, b⟩
      | 1, hx => obtain rfl : r.y = x := by simpa [nums] using hx
                 exact ok_iff.2 ⟨c, d⟩
      | 2, hx => obtain rfl : r.w = x := by simpa [nums] using hx
                 exact ok_iff.2 ⟨by omega, f⟩
      | 3, hx => obtain rfl : r.h = x := by simpa [nums] using hx
                 exact ok_iff.2 ⟨by omega, i⟩
      | j + 4, hx => simp [nums] at hx
    rw [h] at this
    cases this
set_option maxHeartbeats 2000000 in
set_option maxRecDepth 100000 in
theorem rmay_any (r : Plc) (w : World) : Calls Try.prog 21 #[r.v] w fun e w' => e = .returned (.bool (mayB r)) ∧ Below w.heap.size w w' := by
  have hr := Reads.lit (w.alloc (.cells #[.int .i64 r.x, .int .i64 r.y, .int .i64 r.w, .int .i64 r.h] 23)) 2 #[.int .i64 r.x, .int .i64 r.y, .int .i64 r.w, .int .i64 r.h] 1 4 rfl
  rw [size_al] at hr
  have hB := below_al (below_al (Below.refl w.heap.size w) (.cells #[.int .i64 r.x, .int .i64 r.y, .int .i64 r.w, .int .i64 r.h] 23)) (.cells #[.int .i64 r.x, .int .i64 r.y, .int .i64 r.w, .int .i64 r.h] 2)
  obtain ⟨lx, hl⟩ : ∃ lx, lx = nums r := ⟨_, rfl⟩
  have hr' : Reads ((w.alloc (.cells #[.int .i64 r.x, .int .i64 r.y, .int .i64 r.w, .int .i64 r.h] 23)).alloc (.cells #[.int .i64 r.x, .int .i64 r.y, .int .i64 r.w, .int .i64 r.h] 2)) (w.heap.size + 1 + 1) 1 (some ⟨w.heap.size + 1, 0, none⟩) 4 (lx.map (Value.int .i64)) := by rw [hl]; exact hr
  have hlen : lx.length = 4 := by rw [hl]; rfl
  have HL := Lib.hid hl
  clear hl hr
  obtain ⟨mb, hmb⟩ : ∃ mb, mb = mayB r := ⟨_, rfl⟩
  rw [← hmb]
  have HM := Lib.hid hmb
  clear hmb
  go_enter Try.func21, Try.ntmps21
  go_wp2
  have K := (Blk.new w 23 #[.int .i64 r.x, .int .i64 r.y, .int .i64 r.w, .int .i64 r.h]).alloc (.cells #[.int .i64 r.x, .int .i64 r.y, .int .i64 r.w, .int .i64 r.h] 2)
  generalize (w.alloc (.cells #[.int .i64 r.x, .int .i64 r.y, .int .i64 r.w, .int .i64 r.h] 23)).alloc (.cells #[.int .i64 r.x, .int .i64 r.y, .int .i64 r.w, .int .i64 r.h] 2) = W at hr' hB K ⊢
  obtain ⟨p0, p1, p2, p3⟩ := blk4 K
  go_loop [4] (fun i => ∃ k : Nat, k ≤ 4 ∧ i = .int .i64 k ∧ Hid (∀ j, j < k → ∀ x, lx[j]? = some x → ok x = true)) (fun i => 4 - (intOf i).toNat)
  case atStart => exact ⟨0, by omega, rfl, fun j hj => absurd hj (by omega)⟩
  case round =>
    obtain ⟨k, hk, rfl, HK⟩ := hrel
    by_cases hlt : k < 4
    · obtain ⟨ad, u, had, hb, hx, hcell⟩ := hr'.at_ hlt
      obtain rfl : (⟨w.heap.size + 1, 0, none⟩ : Addr) = ad := by injection had
      rw [add_zero_] at hcell
      have hkl : k < lx.length := by omega
      obtain ⟨x, hxe⟩ : ∃ x, lx[k]? = some x := ⟨lx[k], List.getElem?_eq_getElem hkl⟩
      rw [List.getElem?_map, hxe] at hx
      obtain rfl : .int .i64 x = u := by simpa using hx
      have hc := fun w => rclamp_any x w
      cases ho : ok x with
      | false =>
        have hno := nums_no (r := r) (by rw [← HL.out]; exact hxe) ho
        rw [ho] at hc
        obtain rfl : mb = false := by rw [HM.out]; exact hno
        clear hx hxe had hno ho hlen
        go_wp2_with (go_at_call 43; (with_reducible refine (hc _).mono ?_); rintro e w' ⟨rfl, rfl⟩)
        go_ret
        exact ⟨rfl, hB⟩
      | true =>
        have HN : Hid (∀ j, j < k + 1 → ∀ x, lx[j]? = some x → ok x = true) := by
          intro j hj y hy
          rcases Nat.lt_or_ge j k with h | h
          · exact HK.out j h y hy
          · obtain rfl : k = j := by omega
            rw [hxe] at hy
            injection hy with hy
            rw [← hy]; exact ho
        rw [ho] at hc
        clear hx hxe had ho hlen
        go_wp2_with (go_at_call 43; (with_reducible refine (hc _).mono ?_); rintro e w' ⟨rfl, rfl⟩)
        go_round
        case rel => exact ⟨k + 1, by omega, by go_num, HN⟩
        case measure => simp [intOf]; omega
    · obtain rfl : 4 = k := by omega
      have HK' := HK.out
      rw [HL.out] at HK'
      by_cases g1 : 0 ≤ r.w
      · by_cases g2 : 0 ≤ r.h
        · obtain rfl : mb = true := by rw [HM.out]; exact nums_ok HK' g1 g2
          clear HK' HK HL hr' hlen
          go_wp2
          go_ret
          exact ⟨rfl, hB⟩
        · have hm : mayB r = false := by
            cases hm : mayB r with
            | false => rfl
            | true => exact absurd (mayB_iff.1 hm).2.2.2.2.2.2.1 g2
          obtain rfl : mb = false := by rw [HM.out]; exact hm
          clear HK' HK HL hm hr' hlen
          have g3 : r.h < 0 := by omega
          go_wp2
          go_ret
          exact ⟨rfl, hB⟩
      · have hm : mayB r = false := by
          cases hm : mayB r with
          | false => rfl
          | true => exact absurd (mayB_iff.1 hm).2.2.2.2.1 g1
        obtain rfl : mb = false := by rw [HM.out]; exact hm
        clear HK' HK HL hm hr' hlen
        have g3 : r.w < 0 := by omega
        go_wp2
        go_ret
        exact ⟨rfl, hB⟩
end Go.Proofs.Ytabijoohoofogaa
