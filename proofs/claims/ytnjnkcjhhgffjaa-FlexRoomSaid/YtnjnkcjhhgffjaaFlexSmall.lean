/- What small of layer 18's laws answers. Conditions: the list lies in memory as it is read. -/
import Derived.Test.YtnjnkcjhhgffjaaFlexAwake
namespace Go.Proofs.Ytnjnkcjhhgffjaa
open Go.ChangeShapes Go.WideShapes Go.ChangeAt Go.RowKit
def fitB (x : FIt) : Bool := decide (0 ≤ x.b ∧ x.b ≤ 1099511627776 ∧ 0 ≤ x.e ∧ x.e ≤ 1099511627776 ∧ 0 ≤ x.g ∧ x.g ≤ 6400 ∧ 0 ≤ x.s ∧ x.s ≤ 6400)
def smallB (l : List FIt) : Bool := l.all fitB && decide (l.length ≤ 100)
theorem fitB_iff {x : FIt} : fitB x = true ↔ x.fit := by unfold fitB FIt.fit; exact decide_eq_true_iff
theorem small_iff {l : List FIt} : smallB l = true ↔ (∀ x ∈ l, x.fit) ∧ l.length ≤ 100 := by
  unfold smallB
  rw [Bool.and_eq_true, List.all_eq_true, decide_eq_true_iff]
  constructor
  · rintro ⟨h1, h2⟩; exact ⟨fun x hx => fitB_iff.1 (h1 x hx), h2⟩
  · rintro ⟨h1, h2⟩; exact ⟨fun x hx => fitB_iff.2 (h1 x hx), h2⟩
theorem min_if (x y : Int) : (if y < x then y else x) = min x y := by
  rw [Int.min_def]
  split <;> split <;> omega
theorem run_min4 {P : Program} (w : World) (ts : Array TypeId) (t : TypeId) (a b c d : Int) :
    (Builtin.min_ ts t #[.int .i64 a, .int .i64 b, .int .i64 c, .int .i64 d]).run P w = .ok (.int .i64 (min (min (min a b) c) d)) w := by
  simp [Builtin.min_, Builtin.min2, min_if]
set_option maxHeartbeats 8000000 in
set_option maxRecDepth 100000 in
theorem small_any (A : Option Addr) (n c : Nat) (l : List FIt) (w : World) (hr : Reads w w.heap.size 4 A n (flatF l)) (hn : n ≤ 4611686018427387904) :
    Calls Try.prog 30 #[.slice A n c] w fun e w' => e = .returned (.bool (smallB l)) ∧ Below w.heap.size w w' := by
  have hlen : l.length = n := by have := hr.1; rw [flatF_len] at this; omega
  obtain ⟨R, hR⟩ : ∃ R, R = smallB l := ⟨_, rfl⟩
  rw [← hR]
  have HR := Lib.hid hR
  have HL := Lib.hid hlen
  clear hR hlen
  have hm4 := fun (w : World) (ts : Array TypeId) (t : TypeId) (a b c d : Int) => run_min4 (P := Try.prog) w ts t a b c d
  go_enter Try.func30, Try.ntmps30
  go_wp2
  go_loopw [7] (fun i wr => ∃ (k : Nat), k ≤ n ∧ i = .int .i64 k ∧ Hid (∀ x ∈ l.take k, x.fit) ∧ Below w.heap.size w wr) (fun i _ => n - (intOf i).toNat)
  case atStart => exact ⟨0, Nat.zero_le _, rfl, Lib.hid (fun x hx => by simp at hx), Below.refl _ _⟩
  case round =>
    obtain ⟨k, hk, rfl, hK, hBr⟩ := hrel
    by_cases hlt : k < n
    · have hkl : k < l.length := by rw [HL.out]; exact hlt
      obtain ⟨x, hx⟩ : ∃ x, l[k]? = some x := ⟨l[k], List.getElem?_eq_getElem hkl⟩
      obtain ⟨ad, rfl, hab, e0, e1, e2, e3⟩ := it_of (hr.below hBr) hx
      have hno : ¬ x.fit → R = false := fun h => by
        rw [HR.out]
        cases hs : smallB l with
        | false => rfl
        | true => exact absurd ((small_iff.1 hs).1 x (List.mem_of_getElem? hx)) h
      have hyes : x.fit → ∀ y ∈ l.take (k + 1), y.fit := fun h y hy => by
        rw [List.take_add_one, hx] at hy
        rcases List.mem_append.1 hy with hy | hy
        · exact hK.out y hy
        · simp at hy; subst hy; exact h
      have hno := Lib.hid hno
      have hyes := Lib.hid hyes
      have hBa := below_al hBr (.cells #[.int .i64 x.b, .int .i64 x.e, .int .i64 x.g, .int .i64 x.s] 61)
      obtain ⟨xb, xe, xg, xs⟩ := x
      simp only at e0 e1 e2 e3 hBa
      clear hx hK hab
      by_cases c1 : min (min (min xb xe) xg) xs < 0
      · have hN := hno.out (by rintro ⟨h1, h2, h3, h4, h5, h6, h7, h8⟩; simp only at h1 h2 h3 h4 h5 h6 h7 h8; omega)
        subst hN
        go_wp2
        go_ret
        exact ⟨rfl, hBa⟩
      · by_cases c2 : 1099511627776 < max xb xe
        · have hN := hno.out (by rintro ⟨h1, h2, h3, h4, h5, h6, h7, h8⟩; simp only at h1 h2 h3 h4 h5 h6 h7 h8; omega)
          subst hN
          go_wp2
          go_ret
          exact ⟨rfl, hBa⟩
        · by_cases c3 : 6400 < max xg xs
          · have hN := hno.out (by rintro ⟨h1, h2, h3, h4, h5, h6, h7, h8⟩; simp only at h1 h2 h3 h4 h5 h6 h7 h8; omega)
            subst hN
            go_wp2
            go_ret
            exact ⟨rfl, hBa⟩
          · have hY := Lib.hid (hyes.out (by unfold FIt.fit; simp only; omega))
            clear hno hyes
            go_wp2
            go_roundw
            case rel => exact ⟨k + 1, by omega, by go_num, hY, hBa⟩
            case measure => simp [intOf]; omega
    · obtain rfl : k = n := by omega
      have hT : l.take k = l := List.take_of_length_le (by rw [HL.out]; omega)
      have hR2 : R = decide (k ≤ 100) := by
        rw [HR.out]
        unfold smallB
        rw [HL.out]
        have : l.all fitB = true := List.all_eq_true.2 fun x hx => fitB_iff.2 (hK.out x (by rw [hT]; exact hx))
        rw [this, Bool.true_and]
      have hR3 : R = decide ((k : Int) ≤ 100) := by rw [hR2]; congr 1; exact propext ⟨fun h => by omega, fun h => by omega⟩
      have HR3 := Lib.hid hR3
      clear hT hR2 hR3
      go_wp2
      go_ret
      exact ⟨by rw [HR3.out]; rfl, hBr⟩
end Go.Proofs.Ytnjnkcjhhgffjaa
