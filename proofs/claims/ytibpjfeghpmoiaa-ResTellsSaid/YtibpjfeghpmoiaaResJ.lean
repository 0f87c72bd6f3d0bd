/- What the document's own May and Public of layer 13, and the landed Alike answer. Conditions: the lists lie in memory as they are read. -/
import Derived.Test.YtibpjfeghpmoiaaResI
import Derived.Test.YtibpjfeghpmoiaaResD
namespace Go.Proofs.Ytibpjfeghpmoiaa
open Go.ChangeShapes Go.WideShapes Go.ChangeAt Go.RowKit
theorem alike_any (A : Option Addr) (n c : Nat) (l : List Img) (a : Int) (o : Bool) (A2 : Option Addr) (m c2 : Nat) (l2 : List Img) (b : Int) (p : Bool) (w : World) (hr : Reads w w.heap.size 4 A n (flatI l)) (hr2 : Reads w w.heap.size 4 A2 m (flatI l2)) (hn : n ≤ 4611686018427387904) (hm : m ≤ 4611686018427387904) :
    Calls Try.prog 19 #[.agg #[.slice A n c, .int .i64 a, .bool o], .agg #[.slice A2 m c2, .int .i64 b, .bool p]] w fun e w' => e = .returned (.bool (likeT l a o l2 b p)) ∧ Below w.heap.size w w' := by
  cases hF : ((pubA a o == pubA b p) && (o == p)) with
  | false => exact alike_no A n c l a o A2 m c2 l2 b p w hr hr2 hF
  | true =>
    cases hnm : ((n : Int) != (m : Int)) with
    | true => exact alike_len A n c l a o A2 m c2 l2 b p w hr hr2 hF hnm
    | false => exact alike_eq A n c l a o A2 m c2 l2 b p w hr hr2 hn hm hF hnm
theorem findI_same {l : List Img} {k : Nat} {r : Img} (hk : l[k]? = some r) (h : ∀ (j : Nat) (x : Img), j < k → l[j]? = some x → x.s ≠ r.s) : (findI l r.s == (k : Int)) = true := by
  rw [(findI_some hk rfl h).1]
  exact beq_self_eq_true _
theorem findI_dup {l : List Img} {k j : Nat} {r x : Img} (hj : j < k) (hx : l[j]? = some x) (h : x.s = r.s) : (findI l r.s == (k : Int)) = false := by
  rw [beq_eq_false_iff_ne]
  intro e
  rcases find_ways l r.s with ⟨h1, _, h3⟩ | ⟨k', i, h1, _, h3, _, h5⟩
  · exact h3 j x hx h
  · have : k' = k := by omega
    subst this
    exact h5 j x hj hx h
set_option maxHeartbeats 16000000 in
set_option maxRecDepth 100000 in
theorem rmay_any (A : Option Addr) (n c : Nat) (l : List Img) (a : Int) (o : Bool) (w : World) (hr : Reads w w.heap.size 4 A n (flatI l)) (hn : n ≤ 4611686018427387904) :
    Calls Try.prog 13 #[.agg #[.slice A n c, .int .i64 a, .bool o]] w fun e w' => e = .returned (.bool (mayT l a)) ∧ Below w.heap.size w w' := by
  have hlen : l.length = n := by have := hr.1; rw [flatI_len] at this; omega
  have hB := below_al (Below.refl w.heap.size w) (.cells #[.slice A n c, .int .i64 a, .bool o] 31)
  have K := Blk.new w 31 #[.slice A n c, .int .i64 a, .bool o]
  obtain ⟨R, hR⟩ : ∃ R, R = mayT l a := ⟨_, rfl⟩
  rw [← hR]
  unfold mayT at hR
  rw [hlen] at hR
  have HR := Lib.hid hR
  clear hR
  have HNo : Hid (∀ k, k < n → mayAt l k = false → R = false) := by
    intro k hk h
    rw [HR.out, mayUpTo_no h hk, Bool.and_false, Bool.and_false]
  go_enter Try.func13, Try.ntmps13
  go_wp2
  go_loopw [3] (fun i wr => ∃ k : Nat, k ≤ n ∧ i = .int .i64 k ∧ Hid (mayUpTo l k = true) ∧ Below w.heap.size w wr ∧ Blk wr w.heap.size 31 #[.slice A n c, .int .i64 a, .bool o]) (fun i _ => n - (intOf i).toNat)
  case atStart => exact ⟨0, Nat.zero_le _, rfl, (rfl : mayUpTo l 0 = true), hB, K⟩
  case round =>
    obtain ⟨k, hk, rfl, HK, hBr, Kr⟩ := hrel
    clear hB K
    have q0 := Kr.cell 0
    have q1 := Kr.cell 1
    have q2 := Kr.cell 2
    have zr := Kr.lt
    by_cases hlt : k < n
    · have hkl : k < l.length := by omega
      obtain ⟨r, hrk⟩ : ∃ r, l[k]? = some r := ⟨l[k], List.getElem?_eq_getElem hkl⟩
      have HA : mayAt l k = (inR r.w 1048576 && (inR r.h 1048576 && (findI l r.s == (k : Int)))) := by unfold mayAt; rw [hrk]
      have hno := HNo.out k hlt
      obtain ⟨ad, rfl, hab, e0, e1, e2, e3⟩ := img_of (hr.below hBr) hrk
      have nr : w.heap.size ≠ wr.heap.size := Nat.ne_of_lt zr
      have kb := below_al hBr (.cells #[.string r.s, .int .i64 r.w, .int .i64 r.h, .bool r.o] 49)
      have hways : (r.w < 0 ∨ (0 ≤ r.w ∧ r.h < 0) ∨ (0 ≤ r.w ∧ 0 ≤ r.h ∧ 1048576 < r.w) ∨ (0 ≤ r.w ∧ 0 ≤ r.h ∧ r.w ≤ 1048576 ∧ 1048576 < r.h)) ∨ (0 ≤ r.w ∧ 0 ≤ r.h ∧ r.w ≤ 1048576 ∧ r.h ≤ 1048576) := by omega
      rcases hways with hbad | hgood
      · have hf : mayAt l k = false := by
          rw [HA]
          unfold inR
          rcases hbad with h | ⟨_, h⟩ | ⟨_, _, h⟩ | ⟨_, _, _, h⟩
          · rw [decide_eq_false (by omega : ¬ 0 ≤ r.w)]; rfl
          · rw [decide_eq_false (by omega : ¬ 0 ≤ r.h)]; simp
          · rw [decide_eq_false (by omega : ¬ r.w ≤ 1048576)]; simp
          · rw [decide_eq_false (by omega : ¬ r.h ≤ 1048576)]; simp
        obtain rfl : R = false := hno hf
        clear HA hno hrk hf HK HR HNo
        rcases hbad with h | ⟨h0, h⟩ | ⟨h0, h1, h⟩ | ⟨h0, h1, h2, h⟩
        all_goals
          go_wp2
          go_ret
          exact ⟨rfl, kb⟩
      · obtain ⟨g1, g2, g3, g4⟩ := hgood
        have hA2 : mayAt l k = (findI l r.s == (k : Int)) := by
          rw [HA]
          unfold inR
          rw [decide_eq_true g1, decide_eq_true g2, decide_eq_true g3, decide_eq_true g4]
          rfl
        have Kx := Blk.new wr 49 #[.string r.s, .int .i64 r.w, .int .i64 r.h, .bool r.o]
        have Kt := Kr.alloc (.cells #[.string r.s, .int .i64 r.w, .int .i64 r.h, .bool r.o] 49)
        have hrr := hr
        have hnoD : Hid (∀ (j : Nat) (x : Img), j < k → l[j]? = some x → x.s = r.s → R = false) := by
          intro j x hj hx h
          exact hno (hA2.trans (findI_dup hj hx h))
        have hyes : Hid ((∀ (j : Nat) (x : Img), j < k → l[j]? = some x → x.s ≠ r.s) → mayUpTo l (k + 1) = true) := by
          intro h
          show (mayUpTo l k && mayAt l k) = true
          rw [HK.out, hA2, findI_same hrk h]
          rfl
        clear HA hno hrk HK hA2 HR HNo q1 q2
        go_wp2
        generalize wr.alloc (.cells #[.string r.s, .int .i64 r.w, .int .i64 r.h, .bool r.o] 49) = X at *
        generalize wr.heap.size = gx at *
        go_loopw [5] (fun i wx => ∃ j : Nat, j ≤ k ∧ i = .int .i64 j ∧ Hid (∀ (j' : Nat) (x : Img), j' < j → l[j']? = some x → x.s ≠ r.s) ∧ Below w.heap.size w wx ∧ Blk wx w.heap.size 31 #[.slice (some ad) n c, .int .i64 a, .bool o] ∧ Blk wx gx 49 #[.string r.s, .int .i64 r.w, .int .i64 r.h, .bool r.o]) (fun i _ => k - (intOf i).toNat)
        case atStart => exact ⟨0, Nat.zero_le _, rfl, fun j x h => absurd h (by omega), kb, Kt, Kx⟩
        case round =>
          obtain ⟨j, hj, rfl, HJ, hBx, Kt2, Kx2⟩ := hrel
          clear kb Kt Kx q0 e0 e1 e2 e3
          have q0 := Kt2.cell 0
          have x0 := Kx2.cell 0
          by_cases hlt2 : j < k
          · obtain ⟨x, hxj⟩ : ∃ x, l[j]? = some x := ⟨l[j], List.getElem?_eq_getElem (by omega)⟩
            obtain ⟨e0, e1, e2, e3⟩ := img_at (hrr.below hBx) hxj
            have hjn : j < n := by omega
            cases hm : (x.s == r.s) with
            | true =>
              obtain rfl : R = false := hnoD.out j x hlt2 hxj (bytes_beq.1 hm)
              have hm' := bytes_eq hm
              clear hxj hm hnoD hyes HJ
              go_wp2
              go_quiet (fail)
              go_wp2
              go_ret
              exact ⟨rfl, below_dr hBx _⟩
            | false =>
              have hne := bytes_bne.1 hm
              have HJ' : Hid (∀ (j' : Nat) (x : Img), j' < j + 1 → l[j']? = some x → x.s ≠ r.s) := by
                intro j' y hj' hy
                by_cases e : j' = j
                · subst e
                  rw [hxj] at hy
                  injection hy with hy
                  subst hy
                  exact hne
                · exact HJ.out j' y (by omega) hy
              have hm' := bytes_ne hm
              clear hxj hm hne HJ
              go_wp2
              go_quiet (fail)
              go_wp2
              go_roundw
              case rel => exact ⟨j + 1, by omega, by go_num, HJ', below_dr hBx _, Kt2.drewN _, Kx2.drewN _⟩
              case measure => simp [intOf]; omega
          · obtain rfl : j = k := by omega
            have HK' : Hid (mayUpTo l (j + 1) = true) := hyes.out HJ.out
            go_wp2
            go_roundw
            case rel => exact ⟨j + 1, by omega, by go_num, HK', hBx, Kt2⟩
            case measure => simp [intOf]; omega
    · obtain rfl : k = n := by omega
      have HF : R = (decide (k ≤ 20) && inR a 1024) := by rw [HR.out, HK.out, Bool.and_true]
      unfold inR at HF
      have HG := Lib.hid HF
      clear HF
      clear HR HNo HK
      by_cases h1 : k ≤ 20
      · by_cases h2 : 0 ≤ a
        · by_cases h3 : a ≤ 1024
          · obtain rfl : R = true := by rw [HG.out, decide_eq_true h1, decide_eq_true h2, decide_eq_true h3]; rfl
            go_wp2
            go_ret
            exact ⟨rfl, hBr⟩
          · obtain rfl : R = false := by rw [HG.out, decide_eq_false h3]; simp
            go_wp2
            go_ret
            exact ⟨rfl, hBr⟩
        · obtain rfl : R = false := by rw [HG.out, decide_eq_false h2]; simp
          go_wp2
          go_ret
          exact ⟨rfl, hBr⟩
      · obtain rfl : R = false := by rw [HG.out, decide_eq_false h1]; simp
        go_wp2
        go_ret
        exact ⟨rfl, hBr⟩
end Go.Proofs.Ytibpjfeghpmoiaa
