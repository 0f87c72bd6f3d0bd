/- What slices.insertionSortCmpFunc answers over the closure of Order. Conditions: the list lies in memory as it is read; the places are in it. -/
import Derived.Test.YtnjnkcjhhgffjaaFlexK
namespace Go.Proofs.Ytnjnkcjhhgffjaa
open Go.ChangeShapes Go.WideShapes Go.ChangeAt Go.RowKit
def Holds (cs : Array Value) (D : List Int) : Prop := ∀ (j : Nat) (u : Int), D[j]? = some u → cs[j]? = some (.int .i64 u)
theorem Holds.set {cs : Array Value} {D : List Int} (h : Holds cs D) (k : Nat) (u : Int) : Holds (cs.setIfInBounds k (.int .i64 u)) (D.set k u) := by
  intro j v hv
  by_cases e : k = j
  · subst e
    have hk : k < D.length := by
      have := (List.getElem?_eq_some_iff.1 hv).1
      rwa [List.length_set] at this
    rw [List.getElem?_set_self hk] at hv
    injection hv with hv
    subst hv
    have h1 := h k _ (List.getElem?_eq_getElem hk)
    have h2 : k < cs.size := (Array.getElem?_eq_some_iff.1 h1).1
    rw [Array.getElem?_setIfInBounds_self_of_lt h2]
  · rw [List.getElem?_set_ne e] at hv
    rw [Array.getElem?_setIfInBounds_ne e]
    exact h j v hv
theorem Holds.at_ {cs : Array Value} {D : List Int} (h : Holds cs D) {j : Nat} (hj : j < D.length) : cs[j]? = some (.int .i64 (D.getD j 0)) := h j _ (getD_some hj)
theorem bdn {E : Nat} {w w' : World} (h : Below E w w') (q : Nat) : Below E w (w'.drewN q) := ⟨h.os, h.tape, h.output, h.size, h.block⟩
set_option maxHeartbeats 16000000 in
set_option maxRecDepth 100000 in
theorem insertion_any (A : Option Addr) (n c gl gd cap E a b : Nat) (cs : Array Value) (l D : List Int) (w : World) (hr : Reads w E 1 A n (l.map (Value.int .i64))) (hgl : Blk w gl 41 #[.slice A n c]) (hgd : Blk w gd 3 cs) (hcs : Holds cs D) (hE : E ≤ gd) (hD : Within n D) (hb : b ≤ D.length) (hm : D.length ≤ 1000000) (ha : a + 1 ≤ b) :
    Calls Try.prog 75 #[.slice (some ⟨gd, 0, none⟩) D.length cap, .int .i64 (a : Int), .int .i64 (b : Int), .func (.func 52) #[] #[.pointer (some ⟨gl, 0, none⟩)]] w fun e w' => e = .returned (.tuple #[]) ∧
      (∃ cs', Blk w' gd 3 cs' ∧ Holds cs' (insTo l a D (b - (a + 1)))) ∧ Blk w' gl 41 #[.slice A n c] ∧ Below E w w' := by
  have HDl := Lib.hid (fun m => insTo_len l a D m)
  obtain ⟨N, hN⟩ : ∃ N, N = D.length := ⟨_, rfl⟩
  rw [← hN] at hb hm ⊢
  have HN := Lib.hid hN
  clear hN
  have HC := Lib.hid hcs
  have HD := Lib.hid hD
  clear hcs hD
  have ngd : gl ≠ gd := hgl.ne_ hgd (by decide)
  go_enter Try.func75, Try.ntmps75
  go_wp2
  go_loopw [8] (fun i wr => ∃ (i' m : Nat) (cs' : Array Value), i = .int .i64 (i' : Int) ∧ Hid (i' = a + 1 + m) ∧ i' ≤ b ∧ Blk wr gd 3 cs' ∧ Hid (Holds cs' (insTo l a D m)) ∧ Hid (Within n (insTo l a D m)) ∧ Blk wr gl 41 #[.slice A n c] ∧ Below E w wr) (fun i _ => b - (intOf i).toNat)
  case atStart => exact ⟨a + 1, 0, cs, by go_num, Lib.hid rfl, ha, hgd, HC, HD, hgl, Below.refl _ _⟩
  case round =>
    obtain ⟨i, m, cs', rfl, hi, hib, hgd', hH, hW, hgl', hBr⟩ := hrel
    clear hgd hgl HC
    by_cases hlt : i < b
    · have h0 : (0 : Int) ≤ (i : Int) := Int.natCast_nonneg _
      have hL := Lib.hid (show (insTo l a D m).length = N by rw [HDl.out, HN.out])
      have HT := Lib.hid (show bub l a i (insTo l a D m) = insTo l a D (m + 1) by rw [hi.out]; rfl)
      go_wp2
      go_loopw [9] (fun s9 wq => ∃ (j : Nat) (D1 : List Int) (cs1 : Array Value), s9 = .int .i64 (j : Int) ∧ j < N ∧ Hid (bub l a j D1 = insTo l a D (m + 1)) ∧ Hid (D1.length = N) ∧ Blk wq gd 3 cs1 ∧ Hid (Holds cs1 D1) ∧ Hid (Within n D1) ∧ Blk wq gl 41 #[.slice A n c] ∧ Below E w wq) (fun s9 _ => (intOf s9).toNat)
      case atStart => exact ⟨i, _, cs', rfl, by omega, HT, hL, hgd', hH, hW, hgl', hBr⟩
      case round =>
        obtain ⟨j, D1, cs1, rfl, hjN, hT1, hL1, hq, hH1, hW1, hgl1, hB1⟩ := hrel
        clear hgd' hH hW hgl' hBr HT hL
        rename World => wq
        have hrq := hr.below hB1
        have j0 : (0 : Int) ≤ (j : Int) := Int.natCast_nonneg _
        have stop : bub l a j D1 = D1 → Hid (Holds cs1 (insTo l a D (m + 1))) ∧ Hid (Within n (insTo l a D (m + 1))) := fun h => by
          rw [← hT1.out, h]; exact ⟨hH1, hW1⟩
        have stop := Lib.hid stop
        by_cases hja : a < j
        · obtain ⟨k, rfl⟩ : ∃ k, j = k + 1 := ⟨j - 1, by omega⟩
          have q1 := (hq.cell (k + 1)).trans (hH1.out.at_ (by rw [hL1.out]; exact hjN))
          have q0 := (hq.cell k).trans (hH1.out.at_ (by rw [hL1.out]; omega))
          have b1 := hW1.out.at_ (j := k + 1) (by rw [hL1.out]; exact hjN)
          have b0 := hW1.out.at_ (j := k) (by rw [hL1.out]; omega)
          have lc := fun q => less_any A n c E gl l (D1.getD (k + 1) 0) (D1.getD k 0) (wq.drewN q) (hrq.drewN q) ((hgl1.drewN q).cell 0) b1 b0
          have g1 : decide ((k : Int) + 1 > (a : Int)) = true := by simp; omega
          have g2 : decide (((k + 1 : Nat) : Int) > (a : Int)) = true := by simp; omega
          have g3 : (a : Int) < (k : Int) + 1 := by omega
          have w1 : IntKind.i64.wrap ((k : Int) + 1 - 1) = (k : Int) := by rw [IntKind.wrap_i64]; omega
          have w2 : IntKind.i64.wrap (((k + 1 : Nat) : Int) - 1) = (k : Int) := by rw [IntKind.wrap_i64]; omega
          have w3 : IntKind.i64.wrap (k : Int) = (k : Int) := by rw [IntKind.wrap_i64]; omega
          have k0 : (0 : Int) ≤ (k : Int) := Int.natCast_nonneg _
          have k1 : (k : Int) < (N : Int) := by omega
          have k2 : (k : Int) + 1 < (N : Int) := by omega
          have k3 := Int.toNat_natCast k
          have k4 : ((k : Int) + 1).toNat = k + 1 := by omega
          have hltd := cmpI_lt (atL l (D1.getD (k + 1) 0)) (atL l (D1.getD k 0))
          have HSw := Lib.hid (show swapL D1 k = (D1.set (k + 1) (D1.getD k 0)).set k (D1.getD (k + 1) 0) from rfl)
          cases hc : ltL l (D1.getD (k + 1) 0) (D1.getD k 0)
          · have hS := stop.out (bub_stop (.inr ⟨k, rfl, hc⟩))
            have hcr : decide (cmpI (atL l (D1.getD (k + 1) 0)) (atL l (D1.getD k 0)) < 0) = false := by rw [hltd]; exact hc
            clear hc hltd b1 b0
            generalize D1.getD (k + 1) 0 = x1 at *
            generalize D1.getD k 0 = x0 at *
            generalize cmpI (atL l x1) (atL l x0) = r at *
            have hcn : ¬ r < 0 := by simpa using hcr
            go_wp2
            go_quiet ((go_at_call 52; exact Calls.quiet_of (lc _)))
            go_wp2
            go_roundw
            case rel => exact ⟨i + 1, m + 1, cs1, by go_num, Lib.hid (by rw [hi.out]; omega), by omega, hq.drewN nq, hS.1, hS.2, hgl1.drewN nq, bdn hB1 nq⟩
            case measure => simp [intOf]; omega
          · have hS := Lib.hid (show bub l a k (swapL D1 k) = insTo l a D (m + 1) by rw [← hT1.out, bub_go (by omega) hc])
            have hcr : decide (cmpI (atL l (D1.getD (k + 1) 0)) (atL l (D1.getD k 0)) < 0) = true := by rw [hltd]; exact hc
            have hW2 := Lib.hid (hW1.out.swap (j := k) (by rw [hL1.out]; exact hjN))
            have hL2 := Lib.hid (show (swapL D1 k).length = N by rw [swapL_len, hL1.out])
            have hH2 := Lib.hid ((hH1.out.set (k + 1) (D1.getD k 0)).set k (D1.getD (k + 1) 0))
            rw [← HSw.out] at hH2
            clear hc hltd b1 b0 HSw
            generalize D1.getD (k + 1) 0 = x1 at *
            generalize D1.getD k 0 = x0 at *
            generalize cmpI (atL l x1) (atL l x0) = r at *
            have hcn : r < 0 := of_decide_eq_true hcr
            have f1 := hq.frozen (k + 1)
            have f0 := hq.frozen k
            have hq2 := fun nq => ((hq.drewN nq).set_ (k + 1) (.int .i64 x0)).set_ k (.int .i64 x1)
            have hgl2 := fun nq => ((hgl1.drewN nq).far (p := ⟨gd, k + 1, none⟩) ngd (.int .i64 x0)).far (p := ⟨gd, k, none⟩) ngd (.int .i64 x1)
            have hB2 := fun nq => ((bdn hB1 nq).setCell (p := ⟨gd, k + 1, none⟩) hE (.int .i64 x0)).setCell (p := ⟨gd, k, none⟩) hE (.int .i64 x1)
            go_wp2
            go_quiet ((go_at_call 52; exact Calls.quiet_of (lc _)))
            go_wp2
            go_region
            all_goals
              go_wp2
              go_roundw
              case rel => exact ⟨k, swapL D1 k, _, rfl, by omega, hS, hL2, (hq2 nq).drew, hH2, hW2, (hgl2 nq).drew, (hB2 nq).drew⟩
              case measure => simp [intOf]
        · have g1 : decide ((j : Int) > (a : Int)) = false := by simp; omega
          have g3 : ¬ (a : Int) < (j : Int) := by omega
          have hS := stop.out (bub_stop (.inl hja))
          go_wp2
          go_quiet (fail)
          go_wp2
          go_roundw
          case rel => exact ⟨i + 1, m + 1, cs1, by go_num, Lib.hid (by rw [hi.out]; omega), by omega, hq.drewN nq, hS.1, hS.2, hgl1.drewN nq, bdn hB1 nq⟩
          case measure => simp [intOf]; omega
    · have e : i = b := by omega
      have hm2 : b - (a + 1) = m := by rw [← e, hi.out]; omega
      go_wp2
      go_end0
      exact ⟨rfl, ⟨cs', hgd', by rw [hm2]; exact hH.out⟩, hgl', hBr⟩
end Go.Proofs.Ytnjnkcjhhgffjaa
