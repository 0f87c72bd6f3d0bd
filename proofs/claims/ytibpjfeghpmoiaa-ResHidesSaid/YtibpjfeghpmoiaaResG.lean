/- Two images, or two fonts, compared; what the document's own Same of layer 13 answers. Conditions: the lists lie in memory as they are read. -/
import Derived.Test.YtibpjfeghpmoiaaResF
namespace Go.Proofs.Ytibpjfeghpmoiaa
open Go.ChangeShapes Go.WideShapes Go.ChangeAt Go.RowKit
theorem neq_imgR (w : World) (a b : Img) : (binOp .neq 49 (.agg #[.string a.s, .int .i64 a.w, .int .i64 a.h, .bool a.o]) (.agg #[.string b.s, .int .i64 b.w, .int .i64 b.h, .bool b.o])).run Try.prog w = .ok (.bool (!a.eqb b)) w := by
  unfold Img.eqb
  rw [beq_toListBytes]
  cases h1 : (a.s.toList == b.s.toList) <;> cases h2 : (a.w == b.w) <;> cases h3 : (a.h == b.h) <;> cases h4 : (a.o == b.o) <;> go_simp
theorem neq_fontR (w : World) (a b : Int) (o p : Bool) : (binOp .neq 29 (.agg #[.int .i64 a, .bool o]) (.agg #[.int .i64 b, .bool p])).run Try.prog w = .ok (.bool (!((a == b) && (o == p)))) w := by
  cases h2 : (a == b) <;> cases h4 : (o == p) <;> go_simp
theorem sameI_len {l m : List Img} (h : l.length ≠ m.length) : sameI l m = false := by
  rw [← Bool.not_eq_true, sameI_iff]
  rintro rfl
  exact h rfl
theorem sameI_no {l m : List Img} {k : Nat} {a b : Img} (ha : l[k]? = some a) (hb : m[k]? = some b) (h : a.eqb b = false) : sameI l m = false := by
  rw [← Bool.not_eq_true, sameI_iff]
  rintro rfl
  rw [ha] at hb
  injection hb with hb
  subst hb
  rw [Img.eqb_refl] at h
  cases h
theorem sameI_all {l m : List Img} (hl : l.length = m.length) (h : ∀ (j : Nat) (x y : Img), l[j]? = some x → m[j]? = some y → x.eqb y = true) : sameI l m = true := by
  rw [sameI_iff]
  apply List.ext_getElem? 
  intro j
  by_cases hj : j < l.length
  · rw [List.getElem?_eq_getElem hj, List.getElem?_eq_getElem (by omega)]
    exact congrArg some (Img.eqb_iff.1 (h j _ _ (List.getElem?_eq_getElem hj) (List.getElem?_eq_getElem (by omega))))
  · rw [List.getElem?_eq_none (by omega), List.getElem?_eq_none (by omega)]
set_option maxHeartbeats 8000000 in
set_option maxRecDepth 100000 in
theorem rsame_any (A : Option Addr) (n c : Nat) (l : List Img) (a : Int) (o : Bool) (A2 : Option Addr) (m c2 : Nat) (l2 : List Img) (b : Int) (p : Bool) (w : World) (hr : Reads w w.heap.size 4 A n (flatI l)) (hr2 : Reads w w.heap.size 4 A2 m (flatI l2)) (hn : n ≤ 4611686018427387904) (hm : m ≤ 4611686018427387904) :
    Calls Try.prog 16 #[.agg #[.slice A n c, .int .i64 a, .bool o], .agg #[.slice A2 m c2, .int .i64 b, .bool p]] w fun e w' => e = .returned (.bool (sameT l a o l2 b p)) ∧ Below w.heap.size w w' := by
  have hlen : l.length = n := by have := hr.1; rw [flatI_len] at this; omega
  have hlen2 : l2.length = m := by have := hr2.1; rw [flatI_len] at this; omega
  have hB := below_al (below_al (Below.refl w.heap.size w) (.cells #[.slice A n c, .int .i64 a, .bool o] 31)) (.cells #[.slice A2 m c2, .int .i64 b, .bool p] 31)
  have K1 := (Blk.new w 31 #[.slice A n c, .int .i64 a, .bool o]).alloc (.cells #[.slice A2 m c2, .int .i64 b, .bool p] 31)
  have K2 := Blk.new (w.alloc (.cells #[.slice A n c, .int .i64 a, .bool o] 31)) 31 #[.slice A2 m c2, .int .i64 b, .bool p]
  rw [size_al] at K2
  unfold sameT
  by_cases hnm : n = m
  case neg =>
    rw [sameI_len (by omega), Bool.and_false, Bool.and_false]
    have hd : ((n : Int) != (m : Int)) = true := bne_iff_ne.2 (by omega)
    go_enter Try.func16, Try.ntmps16
    go_wp2
    go_ret
    exact ⟨rfl, hB⟩
  subst hnm
  have hf := fun w => neq_fontR w a b o p
  have hass : ((a == b) && ((o == p) && sameI l l2)) = (((a == b) && (o == p)) && sameI l l2) := (Bool.and_assoc _ _ _).symm
  rw [hass]
  clear hass
  cases hF : ((a == b) && (o == p)) with
  | false =>
    rw [hF] at hf
    rw [Bool.false_and]
    go_enter Try.func16, Try.ntmps16
    go_wp2
    go_ret
    exact ⟨rfl, hB⟩
  | true =>
    rw [hF] at hf
    rw [Bool.true_and]
    clear hF
    obtain ⟨R, hR⟩ : ∃ R, R = sameI l l2 := ⟨_, rfl⟩
    rw [← hR]
    have HR := Lib.hid hR
    clear hR
    go_enter Try.func16, Try.ntmps16
    go_wp2
    go_loopw [5] (fun i wr => ∃ k : Nat, k ≤ n ∧ i = .int .i64 k ∧ Hid (∀ (j : Nat) (x y : Img), j < k → l[j]? = some x → l2[j]? = some y → x.eqb y = true) ∧ Below w.heap.size w wr ∧ Blk wr w.heap.size 31 #[.slice A n c, .int .i64 a, .bool o] ∧ Blk wr (w.heap.size + 1) 31 #[.slice A2 n c2, .int .i64 b, .bool p]) (fun i _ => n - (intOf i).toNat)
    case atStart => exact ⟨0, Nat.zero_le _, rfl, fun j x y h => absurd h (by omega), hB, K1, K2⟩
    case round =>
      obtain ⟨k, hk, rfl, HK, hBr, Kr1, Kr2⟩ := hrel
      clear hB K1 K2
      have q0 := Kr1.cell 0
      have q1 := Kr2.cell 0
      by_cases hlt : k < n
      · have hkl : k < l.length := by omega
        have hkl2 : k < l2.length := by omega
        obtain ⟨r, hrk⟩ : ∃ r, l[k]? = some r := ⟨l[k], List.getElem?_eq_getElem hkl⟩
        obtain ⟨s, hsk⟩ : ∃ s, l2[k]? = some s := ⟨l2[k], List.getElem?_eq_getElem hkl2⟩
        obtain ⟨ad, rfl, hab, e0, e1, e2, e3⟩ := img_of (hr.below hBr) hrk
        obtain ⟨ad2, rfl, hab2, d0, d1, d2, d3⟩ := img_of (hr2.below hBr) hsk
        have hq := fun w => neq_imgR w r s
        cases hE : r.eqb s with
        | false =>
          obtain rfl : R = false := HR.out.trans (sameI_no hrk hsk hE)
          rw [hE] at hq
          clear hrk hsk hE HK
          go_wp2
          go_quiet (fail)
          go_wp2
          go_ret
          exact ⟨rfl, below_dr hBr _⟩
        | true =>
          have HK' : Hid (∀ (j : Nat) (x y : Img), j < k + 1 → l[j]? = some x → l2[j]? = some y → x.eqb y = true) := by
            intro j x y hj hx hy
            by_cases e : j = k
            · subst e
              rw [hrk] at hx
              rw [hsk] at hy
              injection hx with hx
              injection hy with hy
              rw [← hx, ← hy]
              exact hE
            · exact HK.out j x y (by omega) hx hy
          rw [hE] at hq
          clear hrk hsk hE HK
          go_wp2
          go_quiet (fail)
          go_wp2
          go_roundw
          case rel => exact ⟨k + 1, by omega, by go_num, HK', below_dr hBr _, Kr1.drewN _, Kr2.drewN _⟩
          case measure => simp [intOf]; omega
      · obtain rfl : k = n := by omega
        obtain rfl : R = true := HR.out.trans (sameI_all (by omega) (fun j x y hx hy => HK.out j x y (by have := (List.getElem?_eq_some_iff.1 hx).1; omega) hx hy))
        go_wp2
        go_ret
        exact ⟨rfl, hBr⟩
end Go.Proofs.Ytibpjfeghpmoiaa
