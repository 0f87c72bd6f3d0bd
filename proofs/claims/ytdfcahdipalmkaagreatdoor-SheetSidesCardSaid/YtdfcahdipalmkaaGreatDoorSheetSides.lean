/- Rows.SheetSidesSaid: the walk. Conditions: the tables are laid. -/
import Derived.Test.YtdfcahdipalmkaaGreatDoorShtI
import Derived.Test.YtdfcahdipalmkaaGreatDoorShtMath3
namespace Go.Proofs.YtdfcahdipalmkaaGreatDoor
open Go.ChangeShapes Go.WideShapes Go.ChangeAt Go.RowKit Go.Shelf
namespace sheetSides
open Sht
open RowG (Row)
set_option maxRecDepth 100000 in
theorem cut10 (d : Nat) (hd : d < 10) (w : World) : (Instr.slice 9 (.string ⟨#[48, 49, 50, 51, 52, 53, 54, 55, 56, 57]⟩) (some (.int .i64 d)) (some (.int .i64 ((d : Int) + 1))) none).run Tryz.prog w = .ok (.string (toB [UInt8.ofNat (48 + d)])) w := by
  match d, hd with
  | 0, _ => rfl
  | 1, _ => rfl
  | 2, _ => rfl
  | 3, _ => rfl
  | 4, _ => rfl
  | 5, _ => rfl
  | 6, _ => rfl
  | 7, _ => rfl
  | 8, _ => rfl
  | 9, _ => rfl
theorem idx4_any (m : Nat) (h1 : 1 ≤ m) (h4 : m ≤ 4) (w : World) : (Instr.index 48 (.agg #[.int .i64 0, .int .i64 0, .int .i64 0, .int .i64 0, .int .i64 0, .int .i64 1, .int .i64 0, .int .i64 1, .int .i64 0, .int .i64 1, .int .i64 2, .int .i64 1, .int .i64 0, .int .i64 1, .int .i64 2, .int .i64 3]) (.int .i64 ((m : Int) - 1))).run Tryz.prog w = .ok (.agg #[.int .i64 (whichL m 0 : Nat), .int .i64 (whichL m 1 : Nat), .int .i64 (whichL m 2 : Nat), .int .i64 (whichL m 3 : Nat)]) w := by
  have h : m = 1 ∨ m = 2 ∨ m = 3 ∨ m = 4 := by omega
  rcases h with rfl | rfl | rfl | rfl
  · exact idx4_0 w
  · exact idx4_1 w
  · exact idx4_2 w
  · exact idx4_3 w
def BI (b0 b1 b2 b3 : Int) (j : Nat) : Int := if j = 0 then b0 else if j = 1 then b1 else if j = 2 then b2 else b3
/-- The text of a side, once it is told. -/
def tc (B : Nat → Int) (k j : Nat) : Value := .string (toB (if j < k then txN (B j).toNat else []))
theorem tc_at {w : World} {g k i : Nat} {t : TypeId} {B : Nat → Int} (h : Blk w g t #[tc B i 0, tc B i 1, tc B i 2, tc B i 3]) (hk : k < 4) : w.cell? ⟨g, k, none⟩ = some (tc B i k) ∧ w.frozen? ⟨g, k, none⟩ = false := by
  have hk : k = 0 ∨ k = 1 ∨ k = 2 ∨ k = 3 := by omega
  rcases hk with rfl | rfl | rfl | rfl
  · exact ⟨h.cell 0, h.frozen 0⟩
  · exact ⟨h.cell 1, h.frozen 1⟩
  · exact ⟨h.cell 2, h.frozen 2⟩
  · exact ⟨h.cell 3, h.frozen 3⟩
theorem tc_set {w : World} {g k : Nat} {t : TypeId} {B : Nat → Int} (h : Blk w g t #[tc B k 0, tc B k 1, tc B k 2, tc B k 3]) (hk : k < 4) {v : ByteArray} (hv : v = toB (txN (B k).toNat)) : Blk (w.setCell ⟨g, k, none⟩ (.string v)) g t #[tc B (k + 1) 0, tc B (k + 1) 1, tc B (k + 1) 2, tc B (k + 1) 3] := by
  subst hv
  have hk : k = 0 ∨ k = 1 ∨ k = 2 ∨ k = 3 := by omega
  rcases hk with rfl | rfl | rfl | rfl
  · exact h.set_ 0 _
  · exact h.set_ 1 _
  · exact h.set_ 2 _
  · exact h.set_ 3 _
theorem side_at {w : World} {g k : Nat} {t : TypeId} (h : Blk w g t #[.string ⟨#[116, 111, 112]⟩, .string ⟨#[114, 105, 103, 104, 116]⟩, .string ⟨#[98, 111, 116, 116, 111, 109]⟩, .string ⟨#[108, 101, 102, 116]⟩]) (hk : k < 4) : w.cell? ⟨g, k, none⟩ = some (.string (toB (sideT k))) := by
  have hk : k = 0 ∨ k = 1 ∨ k = 2 ∨ k = 3 := by omega
  rcases hk with rfl | rfl | rfl | rfl
  · exact h.cell 0
  · exact h.cell 1
  · exact h.cell 2
  · exact h.cell 3
set_option maxRecDepth 100000 in
set_option maxHeartbeats 32000000 in
theorem walk (b0 b1 b2 b3 : Int) (many : Int) (s : Bool) (W : World) (hT : Val.Tabs W) :
    Calls Tryz.prog 6 #[.agg #[.int .i64 b0, .int .i64 b1, .int .i64 b2, .int .i64 b3], .int .i64 many, .bool s] W fun e w' => e = .returned (.bool true) ∧ Below W.heap.size W w' := by
  have hB0 := below_al (Below.refl W.heap.size W) (.cells #[.int .i64 b0, .int .i64 b1, .int .i64 b2, .int .i64 b3] 46)
  have K0 := Blk.new W 46 #[.int .i64 b0, .int .i64 b1, .int .i64 b2, .int .i64 b3]
  have ca := awake10_any _ (hT.at_ hB0)
  by_cases hm : 1 ≤ many ∧ many ≤ 4
  · obtain ⟨m, rfl⟩ : ∃ m : Nat, many = m := ⟨many.toNat, by omega⟩
    have hm1 : 1 ≤ m := by omega
    have hm4 : m ≤ 4 := by omega
    have g2 : ¬ ((m : Int) < 1) := by omega
    have g3 : ¬ (4 < (m : Int)) := by omega
    have hix := idx4_any m hm1 hm4
    obtain ⟨E, hE⟩ : ∃ E, E = toB (endT s) := ⟨_, rfl⟩
    have HE := Lib.hid hE
    have hEs : E.size ≤ 11 := by rw [hE, toB_size]; cases s <;> simp [endT, strongT]
    clear hE hm
    go_enter Tryz.func6, Tryz.ntmps6
    go_upto_if 23 with (go_at_call 8; (with_reducible refine ca.mono ?_); rintro e w1 ⟨rfl, hb1⟩)
    go_cut [7] (fun s7 wx => s7 = .string E ∧ wx = w1)
    case first =>
      cases s with
      | true =>
        go_wp2_with (fail)
        go_meet
        exact ⟨by rw [HE.out]; rfl, rfl⟩
      | false =>
        go_wp2_with (fail)
        go_meet
        exact ⟨by rw [HE.out]; rfl, rfl⟩
    case rest =>
      obtain ⟨rfl, rfl⟩ := hcut
      have K1 := K0.next hb1
      have hB1 := below_next hB0 hb1
      have hK3 := K1.alloc (.cells #[.string ⟨#[]⟩, .string ⟨#[]⟩, .string ⟨#[]⟩, .string ⟨#[]⟩] 47)
      have hK8 := Blk.new wc 47 #[.string ⟨#[]⟩, .string ⟨#[]⟩, .string ⟨#[]⟩, .string ⟨#[]⟩]
      have hB2 := below_al hB1 (.cells #[.string ⟨#[]⟩, .string ⟨#[]⟩, .string ⟨#[]⟩, .string ⟨#[]⟩] 47)
      have h38 : W.heap.size ≠ wc.heap.size := Nat.ne_of_lt K1.lt
      have hg8 : W.heap.size ≤ wc.heap.size := Nat.le_of_lt K1.lt
      clear K0 K1 hb1 hB1 ca
      go_wp2
      generalize wc.heap.size = g8 at *
      generalize (wc.alloc (.cells #[.string ⟨#[]⟩, .string ⟨#[]⟩, .string ⟨#[]⟩, .string ⟨#[]⟩] 47)) = wA at *
      have hT2 := fun w' (h : Below W.heap.size W w') => hT.at_ h
      clear hT
      go_loopw [9, 25] (fun s9 iv wr => ∃ (k : Nat) (x : ByteArray), k ≤ 4 ∧ iv = .int .i64 k ∧ s9 = .string x ∧ Hid (x = toB (shortN (fun j => (BI b0 b1 b2 b3 j).toNat) (min k m))) ∧ x.size ≤ 7 + 4 * k ∧ Hid (∀ j, j < k → 0 ≤ BI b0 b1 b2 b3 j ∧ BI b0 b1 b2 b3 j ≤ 9) ∧ Blk wr W.heap.size 46 #[.int .i64 b0, .int .i64 b1, .int .i64 b2, .int .i64 b3] ∧ Blk wr g8 47 #[tc (BI b0 b1 b2 b3) k 0, tc (BI b0 b1 b2 b3) k 1, tc (BI b0 b1 b2 b3) k 2, tc (BI b0 b1 b2 b3) k 3] ∧ Below W.heap.size W wr) (fun _ iv _ => 4 - (intOf iv).toNat)
      case atStart => exact ⟨0, _, by omega, rfl, rfl, by show _ = _; rw [Nat.zero_min]; rfl, by decide, fun j h => absurd h (by omega), hK3, hK8, hB2⟩
      case round =>
        obtain ⟨k, x, hk, rfl, rfl, HX, hxs, HG, K3, K8, hBr⟩ := hrel
        clear hK3 hK8 hB2
        by_cases hlt : k < 4
        · have hki : (k : Int) < 4 := by omega
          have hk0 : (0 : Int) ≤ (k : Int) := Int.natCast_nonneg _
          have e3 := four_at K3 k (BI b0 b1 b2 b3) ⟨rfl, rfl, rfl, rfl⟩ hlt
          obtain ⟨q, hq⟩ : ∃ q, BI b0 b1 b2 b3 k = q := ⟨_, rfl⟩
          rw [hq] at e3
          by_cases hg : 0 ≤ q ∧ q ≤ 9
          · obtain ⟨d, rfl⟩ : ∃ d : Nat, q = d := ⟨q.toNat, by omega⟩
            have hd : d < 10 := by omega
            have n1 : ¬ ((d : Int) < 0) := by omega
            have n2 : ¬ (9 < (d : Int)) := by omega
            have n3 : (d : Int) < 10 := by omega
            have n4 : (d : Int) + 1 ≤ 10 := by omega
            have n5 : (0 : Int) ≤ (d : Int) := Int.natCast_nonneg _
            have n6 : (d : Int) ≤ (d : Int) + 1 := by omega
            have hw1 : IntKind.i64.wrap ((d : Int) + 1) = (d : Int) + 1 := by rw [IntKind.wrap_i64]; omega
            have hct := fun w => cut10 d hd w
            obtain ⟨y, hy⟩ : ∃ y, y = toB [UInt8.ofNat (48 + d)] := ⟨_, rfl⟩
            rw [← hy] at hct
            have hys : y.size = 1 := by rw [hy, toB_size]; rfl
            have n7 : ¬ 9223372036854775807 < y.size + 2 := by omega
            obtain ⟨c8, f8⟩ := tc_at K8 hlt
            have hv : y ++ ⟨#[112, 120]⟩ = toB (txN (BI b0 b1 b2 b3 k).toNat) := by rw [hq, hy]; exact toB_cat _ _
            have HV := Lib.hid hv
            have HG' : Hid (∀ j, j < k + 1 → 0 ≤ BI b0 b1 b2 b3 j ∧ BI b0 b1 b2 b3 j ≤ 9) := by
              intro j hj
              by_cases e : j = k
              · subst e; rw [hq]; omega
              · exact HG.out j (by omega)
            have HQ := Lib.hid hq
            have kF : ∀ W' : World, Blk W' W.heap.size 46 #[.int .i64 b0, .int .i64 b1, .int .i64 b2, .int .i64 b3] → W'.cell? ⟨W.heap.size, k, none⟩ = some (.int .i64 d) := fun W' h => by
              have := four_at h k (BI b0 b1 b2 b3) ⟨rfl, rfl, rfl, rfl⟩ hlt
              rw [HQ.out] at this
              exact this
            clear hq hg HG hy hv
            go_upto_region 15 with (fail)
            go_cut [] from 38 to 48 (fun wx => Blk wx W.heap.size 46 #[.int .i64 b0, .int .i64 b1, .int .i64 b2, .int .i64 b3] ∧ Blk wx g8 47 #[tc (BI b0 b1 b2 b3) (k + 1) 0, tc (BI b0 b1 b2 b3) (k + 1) 1, tc (BI b0 b1 b2 b3) (k + 1) 2, tc (BI b0 b1 b2 b3) (k + 1) 3] ∧ Below W.heap.size W wx)
            case first =>
              go_region_held3 (fun W' => W'.cell? ⟨W.heap.size, k, none⟩ = some (.int .i64 d))
                (first | (with_reducible assumption) | exact kF _ (by repeat (first | (with_reducible exact K3) | (with_reducible apply Blk.drew) | (with_reducible refine Blk.far ?_ h38 _))))
                (fail)
              go_wp2_with (fail)
              go_meet
              exact ⟨(K3.far h38 _).drew, (tc_set K8 hlt HV.out).drew, (below_set hBr (p := ⟨g8, k, none⟩) hg8 _).drew⟩
            case rest =>
              obtain ⟨K3, K8, hBr⟩ := hcut
              have HL : Hid (y ++ ⟨#[112, 120]⟩ = toB (txN d)) := by show _ = _; rw [HV.out, HQ.out]; rfl
              have c9 := (tc_at K8 hlt).1
              unfold tc at c9
              rw [if_pos (Nat.lt_succ_self k), HQ.out] at c9
              obtain ⟨z, hz⟩ : ∃ z, z = toB (txN d) := ⟨_, rfl⟩
              change wc.cell? ⟨g8, k, none⟩ = some (.string (toB (txN d))) at c9
              rw [← hz] at c9
              have hzs : z.size = 3 := by rw [hz, toB_size]; rfl
              have m1 : ¬ 9223372036854775807 < 1 + z.size := by omega
              have m2 : ¬ 9223372036854775807 < x.size + (1 + z.size) := by omega
              by_cases hkm : k < m
              · have hkmi : (k : Int) < (m : Int) := by omega
                have HN : Hid (x ++ ((⟨#[32]⟩ : ByteArray) ++ z) = toB (shortN (fun j => (BI b0 b1 b2 b3 j).toNat) (min (k + 1) m))) := by
                  show _ = _
                  rw [show min (k + 1) m = k + 1 by omega, shortN_more, HX.out, show min k m = k by omega, hz, ← toB_cat]
                  show _ ++ (toB [32] ++ toB (txN d)) = _
                  rw [toB_cat, HQ.out]
                  rfl
                have hxs2 : (x ++ ((⟨#[32]⟩ : ByteArray) ++ z)).size ≤ 7 + 4 * (k + 1) := by
                  rw [ByteArray.size_append, ByteArray.size_append]
                  show x.size + (1 + z.size) ≤ _
                  omega
                clear HX hz hlt hct HV HQ HL
                go_wp2
                go_roundw
                case rel => exact ⟨k + 1, _, by omega, by go_num, rfl, HN, hxs2, HG', K3, K8, hBr⟩
                case measure => simp [intOf]; omega
              · have hkmi : ¬ ((k : Int) < (m : Int)) := by omega
                have HN : Hid (x = toB (shortN (fun j => (BI b0 b1 b2 b3 j).toNat) (min (k + 1) m))) := by
                  show _ = _
                  rw [HX.out, show min (k + 1) m = m by omega, show min k m = m by omega]
                clear HX hz hlt hct HV HQ HL
                go_wp2
                go_roundw
                case rel => exact ⟨k + 1, _, by omega, by go_num, rfl, HN, by omega, HG', K3, K8, hBr⟩
                case measure => simp [intOf]; omega
          · by_cases hg2 : q < 0
            · go_wp2
              go_ret
              exact ⟨rfl, hBr⟩
            · have n1 : ¬ (q < 0) := hg2
              have n2 : 9 < q := by omega
              go_wp2
              go_ret
              exact ⟨rfl, hBr⟩
        · obtain rfl : k = 4 := by omega
          have hb10 : ∀ j, (BI b0 b1 b2 b3 j).toNat < 10 := by
            intro j
            have h0 := HG.out 0 (by omega)
            have h1 := HG.out 1 (by omega)
            have h2 := HG.out 2 (by omega)
            have h3 := HG.out 3 (by omega)
            simp only [BI] at h0 h1 h2 h3 ⊢
            repeat' split
            all_goals simp_all
            all_goals omega
          have hxs2 : x.size ≤ 23 := by omega
          have HX2 : Hid (x = toB (shortN (fun j => (BI b0 b1 b2 b3 j).toNat) m)) := by show _ = _; rw [HX.out, show min 4 m = m by omega]
          have HT8 : Hid (∀ j, j < 4 → tc (BI b0 b1 b2 b3) 4 j = .string (toB (txN (BI b0 b1 b2 b3 j).toNat))) := by intro j hj; unfold tc; rw [if_pos hj]
          obtain ⟨B, hBd⟩ : ∃ B : Nat → Nat, B = fun j => (BI b0 b1 b2 b3 j).toNat := ⟨_, rfl⟩
          have HB : ∀ j, (BI b0 b1 b2 b3 j).toNat = B j := fun j => by rw [hBd]
          have hTr := hT2 wr hBr
          have hs := short_decls B (fun j => by rw [← HB]; exact hb10 j) m hm1 hm4 s
          have hl := long_decls B (fun j => by rw [← HB]; exact hb10 j) m s
          rw [← hBd] at HX2
          have KW := Blk.new wr 46 #[.int .i64 (whichL m 0 : Nat), .int .i64 (whichL m 1 : Nat), .int .i64 (whichL m 2 : Nat), .int .i64 (whichL m 3 : Nat)]
          have KS := Blk.new (wr.alloc (.cells #[.int .i64 (whichL m 0 : Nat), .int .i64 (whichL m 1 : Nat), .int .i64 (whichL m 2 : Nat), .int .i64 (whichL m 3 : Nat)] 46)) 9 #[.string ⟨#[116, 111, 112]⟩, .string ⟨#[114, 105, 103, 104, 116]⟩, .string ⟨#[98, 111, 116, 116, 111, 109]⟩, .string ⟨#[108, 101, 102, 116]⟩]
          rw [size_al] at KS
          have hA2 := below_al (below_al (Below.refl wr.heap.size wr) (.cells #[.int .i64 (whichL m 0 : Nat), .int .i64 (whichL m 1 : Nat), .int .i64 (whichL m 2 : Nat), .int .i64 (whichL m 3 : Nat)] 46)) (.cells #[.string ⟨#[116, 111, 112]⟩, .string ⟨#[114, 105, 103, 104, 116]⟩, .string ⟨#[98, 111, 116, 116, 111, 109]⟩, .string ⟨#[108, 101, 102, 116]⟩] 9)
          have KW2 := KW.alloc (.cells #[.string ⟨#[116, 111, 112]⟩, .string ⟨#[114, 105, 103, 104, 116]⟩, .string ⟨#[98, 111, 116, 116, 111, 109]⟩, .string ⟨#[108, 101, 102, 116]⟩] 9)
          have K82 := K8.next hA2
          clear HX HG hxs K3 K8 hBd hb10
          go_wp2
          have hBC := below_next hBr hA2
          have hTC := hT2 _ hBC
          generalize wr.heap.size = g11 at *
          generalize ((wr.alloc (.cells #[.int .i64 (whichL m 0 : Nat), .int .i64 (whichL m 1 : Nat), .int .i64 (whichL m 2 : Nat), .int .i64 (whichL m 3 : Nat)] 46)).alloc (.cells #[.string ⟨#[116, 111, 112]⟩, .string ⟨#[114, 105, 103, 104, 116]⟩, .string ⟨#[98, 111, 116, 116, 111, 109]⟩, .string ⟨#[108, 101, 102, 116]⟩] 9)) = wC at *
          clear hA2 hTr KW hT2
          go_loopw [12, 69] (fun s12 iv wr => ∃ (k : Nat) (y : ByteArray), k ≤ 4 ∧ iv = .int .i64 k ∧ s12 = .string y ∧ Hid (y = toB (longN B m s k)) ∧ y.size ≤ 40 * k ∧ wC = wr) (fun _ iv _ => 4 - (intOf iv).toNat)
          case atStart => exact ⟨0, _, by omega, rfl, rfl, rfl, by decide, rfl⟩
          case round =>
            obtain ⟨k, y, hk, rfl, rfl, HY, hys, rfl⟩ := hrel
            by_cases hlt : k < 4
            · have hki : (k : Int) < 4 := by omega
              have hk0 : (0 : Int) ≤ (k : Int) := Int.natCast_nonneg _
              have eS := side_at KS hlt
              have eW := four_at KW2 k (fun k => ((whichL m k : Nat) : Int)) ⟨rfl, rfl, rfl, rfl⟩ hlt
              obtain ⟨j, hj⟩ : ∃ j, whichL m k = j := ⟨_, rfl⟩
              have hjm : j < m := by rw [← hj]; exact which_lt hm1 hm4 hlt
              have e8 := (tc_at K82 (k := j) (by omega)).1
              rw [HT8.out j (by omega), HB] at e8
              rw [hj] at eW
              have hji : (j : Int) < 4 := by omega
              have hj0 : (0 : Int) ≤ (j : Int) := Int.natCast_nonneg _
              obtain ⟨z, hz⟩ : ∃ z, z = toB (txN (B j)) := ⟨_, rfl⟩
              obtain ⟨v, hv⟩ : ∃ v, v = toB (sideT k) := ⟨_, rfl⟩
              rw [← hz] at e8
              rw [← hv] at eS
              have hzs : z.size = 3 := by rw [hz, toB_size]; rfl
              have hvs : v.size ≤ 6 := by rw [hv, toB_size]; unfold sideT; (repeat' split) <;> decide
              have n1 : ¬ 9223372036854775807 < 7 + v.size := by omega
              have n2 : ¬ 9223372036854775807 < 7 + v.size + 2 := by omega
              have n3 : ¬ 9223372036854775807 < 7 + v.size + 2 + z.size := by omega
              have n4 : ¬ 9223372036854775807 < 7 + v.size + 2 + z.size + E.size := by omega
              have n5 : ¬ 9223372036854775807 < 7 + v.size + 2 + z.size + E.size + 1 := by omega
              have n6 : ¬ 9223372036854775807 < y.size + (7 + v.size + 2 + z.size + E.size + 1) := by omega
              have HN : Hid (y ++ ((⟨#[109, 97, 114, 103, 105, 110, 45]⟩ : ByteArray) ++ v ++ ⟨#[58, 32]⟩ ++ z ++ E ++ ⟨#[59]⟩) = toB (longN B m s (k + 1))) := by
                show _ = _
                rw [HY.out, HE.out, hz, hv, longN]
                unfold oneN
                rw [hj, ← toB_cat, ← toB_cat, ← toB_cat, ← toB_cat, ← toB_cat, ← toB_cat]
                rfl
              have hNs : (y ++ ((⟨#[109, 97, 114, 103, 105, 110, 45]⟩ : ByteArray) ++ v ++ ⟨#[58, 32]⟩ ++ z ++ E ++ ⟨#[59]⟩)).size ≤ 40 * (k + 1) := by
                rw [ByteArray.size_append, ByteArray.size_append, ByteArray.size_append, ByteArray.size_append, ByteArray.size_append, ByteArray.size_append]
                show y.size + (7 + v.size + 2 + z.size + E.size + 1) ≤ _
                omega
              clear HY hz hv hj hjm
              go_wp2
              go_roundw
              case rel => exact ⟨k + 1, _, by omega, by go_num, rfl, HN, hNs, by trivial⟩
              case measure => simp [intOf]; omega
            · obtain rfl : k = 4 := by omega
              have hxl := shortN_len B m
              have hyl := longN_len B m s 4
              have hel : (endT s).length ≤ 11 := by cases s <;> simp [endT, strongT]
              have c1 := fun w hT => decls_any (shortN B m ++ endT s) (by rw [List.length_append]; omega) w hT
              have c2 := fun w hT => decls_any (longN B m s 4) (by omega) w hT
              have ex : x ++ E = toB (shortN B m ++ endT s) := by rw [HX2.out, HE.out, toB_cat]
              rw [hs, ← ex] at c1
              rw [hl, ← HY.out] at c2
              have hQ : ((List.range 4).map (dN B m s)).length = 4 := rfl
              generalize (List.range 4).map (dN B m s) = Q at *
              have n1 : ¬ 9223372036854775807 < x.size + E.size := by omega
              clear HY ex hs hl HX2 KS KW2 K82 HB HT8
              go_wp2_with (first
                | (go_at_call 16; (with_reducible refine (c1 _ hTC).mono ?_); rintro e w2 ⟨⟨va, rfl, ha2⟩, hb2⟩
                   obtain ⟨Aa, cpa, hva⟩ := RowG.Row.form ha2
                   rw [hQ] at hva
                   subst hva
                   have ra2 := DcL.reads ha2)
                | (go_at_call 15; (with_reducible refine (own_decls _ _ _ Q (by omega) _ ra2).mono ?_); rintro e w3 ⟨⟨vb, rfl, hd3⟩, hb3⟩
                   obtain ⟨Ab, cpb, hvb⟩ := RowG.Row.form hd3
                   rw [hQ] at hvb
                   subst hvb
                   have rd3 := DeL.reads hd3
                   have hB3 := below_next hb2 hb3)
                | (go_at_call 16; (with_reducible refine (c2 _ (hTC.at_ hB3)).mono ?_); rintro e w4 ⟨⟨vc, rfl, hc4⟩, hb4⟩
                   obtain ⟨Ac, cpc, hvc⟩ := RowG.Row.form hc4
                   rw [hQ] at hvc
                   subst hvc
                   have rc4 := DcL.reads hc4
                   have rd4 := rd3.below hb4 hb4.size
                   have hB4 := below_next hB3 hb4)
                | (go_at_call 15; (with_reducible refine (own_decls _ _ _ Q (by omega) _ rc4).mono ?_); rintro e w5 ⟨⟨vd, rfl, he5⟩, hb5⟩
                   obtain ⟨Ad, cpd, hvd⟩ := RowG.Row.form he5
                   rw [hQ] at hvd
                   subst hvd
                   have re5 := DeL.reads he5
                   have rd5 := rd4.below hb5 hb5.size
                   have hB5 := below_next hB4 hb5)
                | (go_at_call 14; (with_reducible refine (sameDecls_any _ _ _ _ _ _ Q Q (by omega) _ rd5 re5).mono ?_); rintro e w6 ⟨rfl, hb6⟩
                   rw [decide_eq_true rfl]
                   have hB6 := below_next hB5 hb6)
                | (go_at_call 16; (with_reducible refine (c2 _ (hTC.at_ hB6)).mono ?_); rintro e w7 ⟨⟨ve, rfl, hf7⟩, hb7⟩
                   obtain ⟨Ae, cpe, hve⟩ := RowG.Row.form hf7
                   rw [hQ] at hve
                   subst hve
                   have hB7 := below_next hB6 hb7))
              go_ret
              exact ⟨rfl, below_next hBC hB7⟩
  · by_cases g2 : many < 1
    · go_enter Tryz.func6, Tryz.ntmps6
      go_wp2_with (go_at_call 8; (with_reducible refine ca.mono ?_); rintro e w1 ⟨rfl, hb1⟩)
      go_ret
      exact ⟨rfl, below_next hB0 hb1⟩
    · have g3 : 4 < many := by omega
      go_enter Tryz.func6, Tryz.ntmps6
      go_wp2_with (go_at_call 8; (with_reducible refine ca.mono ?_); rintro e w1 ⟨rfl, hb1⟩)
      go_ret
      exact ⟨rfl, below_next hB0 hb1⟩
end sheetSides
end Go.Proofs.YtdfcahdipalmkaaGreatDoor
