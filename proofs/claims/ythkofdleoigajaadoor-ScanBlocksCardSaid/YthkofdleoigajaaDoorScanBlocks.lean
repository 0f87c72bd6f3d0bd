/- ScanBlocks' walk, from what scan's functions answer. Conditions: those answers; the list lies in memory as it is read. -/
import Derived.Test.YthkofdleoigajaaDoorScanTells
import Derived.Test.YthkofdleoigajaaDoorScanWords
import Derived.Test.YthkofdleoigajaaDoorScanBMath
import Derived.Test.YthkofdleoigajaaDoorScanAwake
namespace Go.Proofs.YthkofdleoigajaaDoor
open Go.ChangeShapes Go.WideShapes Go.ChangeAt Go.RowKit
namespace scanBlocks
abbrev B2 := List UInt8 × List UInt8
def okT (t : List UInt8) : Prop := noB t ∧ trimL t = t
def okB (x : B2) : Prop := (okT x.1 ∧ okT x.2) ∧ x.1.length + x.2.length ≤ 50
def one (x : B2) : List UInt8 := [32] ++ x.1 ++ [123, 32] ++ x.2 ++ [10, 125]
def bsOf (xs : List B2) : List UInt8 := xs.flatMap one
theorem bsOf_snoc (xs : List B2) (x : B2) : bsOf (xs ++ [x]) = bsOf xs ++ one x := by unfold bsOf; rw [List.flatMap_append]; simp
theorem bsOf_len (xs : List B2) (h : ∀ x ∈ xs, okB x) : (bsOf xs).length ≤ 56 * xs.length := by
  induction xs with
  | nil => exact Nat.le_refl _
  | cons x t ih =>
    have h1 := (h x (by simp)).2
    have h2 := ih (fun y hy => h y (by simp [hy]))
    have e : bsOf (x :: t) = one x ++ bsOf t := rfl
    rw [e]
    unfold one
    simp only [List.length_append, List.length_cons, List.length_nil] at h2 ⊢
    omega
theorem blocks_written (xs : List B2) (h : ∀ x ∈ xs, okB x) : blocksF (bsOf xs) = xs := by
  induction xs with
  | nil => rfl
  | cons x t ih =>
    obtain ⟨⟨⟨n1, t1⟩, n2, t2⟩, _⟩ := h x (by simp)
    have e : bsOf (x :: t) = ([32] ++ x.1) ++ 123 :: (([32] ++ x.2 ++ [10]) ++ 125 :: bsOf t) := by
      show one x ++ bsOf t = _
      unfold one
      simp only [List.append_assoc, List.cons_append, List.nil_append]
    rw [e, blocks_one, ih (fun y hy => h y (by simp [hy]))]
    · have e1 : trimL ([32] ++ x.1) = x.1 := (trimL_head x.1 (by decide)).trans t1
      have e2 : trimL ([32] ++ x.2 ++ [10]) = x.2 := (trimL_last ([32] ++ x.2) (by decide)).trans ((trimL_head x.2 (by decide)).trans t2)
      rw [e1, e2]
    · intro c hc
      rcases List.mem_append.1 hc with hc | hc
      · obtain rfl := List.mem_singleton.1 hc; decide
      · exact n1 c hc
    · intro c hc
      rcases List.mem_append.1 hc with hc | hc
      · rcases List.mem_append.1 hc with hc | hc
        · obtain rfl := List.mem_singleton.1 hc; decide
        · exact (n2 c hc).2
      · obtain rfl := List.mem_singleton.1 hc; decide
theorem reads_strs (w : World) (t : TypeId) (a b : List UInt8) : Reads (w.alloc (.cells #[.string (toB a), .string (toB b)] t)) (w.heap.size + 1) 1 (some ⟨w.heap.size, 0, none⟩) 2 (strs [a, b]) := scanAwake.reads_two w t _ _
theorem quiet_byte (c : UInt8) (v : UInt8) (n : Int) (hv : (v.toNat : Int) = n) : ((c.toNat : Int) == n) = decide (c = v) := by
  by_cases h : c = v
  · rw [h, hv, decide_eq_true rfl, beq_self_eq_true]
  · rw [decide_eq_false h, beq_eq_false_iff_ne]
    intro e
    refine h (UInt8.toNat_inj.1 ?_)
    omega
set_option maxRecDepth 100000 in
set_option maxHeartbeats 8000000 in
theorem walk (cAwake : ∀ w, Lens w → Calls Tryd.prog 7 #[] w fun e w' => e = .returned (.bool true) ∧ Below w.heap.size w w') (cTrim : TrimC) (cBlocks : BlocksC)
    (A : Option Addr) (n c : Nat) (xs : List B2) (w : World) (hL : Lens w) (hn : n ≤ 17592186043904) (hr : Reads w w.heap.size 2 A n (flatB xs)) (hz : ∀ x ∈ xs, x.1.length ≤ 140737488351232 ∧ x.2.length ≤ 140737488351232) :
    Calls Tryd.prog 6 #[.slice A n c] w fun e w' => e = .returned (.bool true) ∧ Below w.heap.size w w' := by
  by_cases h5 : 20 < n
  · go_enter Tryd.func6, Tryd.ntmps6
    go_wp2_with (go_at_call 7; refine (cAwake _ hL).mono ?_; rintro e w1 ⟨rfl, hb⟩)
    go_ret
    exact ⟨rfl, hb⟩
  have h5' : n ≤ 20 := by omega
  clear h5
  have hlen : xs.length = n := by have := hr.1; rw [flatB_len] at this; omega
  have HZ := Lib.hid hz
  clear hz
  go_enter Tryd.func6, Tryd.ntmps6
  go_wp2_with (go_at_call 7; refine (cAwake _ hL).mono ?_; rintro e w1 ⟨rfl, hB⟩)
  go_loopw [3, 18] (fun sv i wr => ∃ k : Nat, k ≤ n ∧ i = .int .i64 k ∧ sv = .string (toB (bsOf (xs.take k))) ∧ Below w.heap.size w wr ∧ Hid (∀ x ∈ xs.take k, okB x)) (fun _ i _ => n - (intOf i).toNat)
  case atStart => exact ⟨0, Nat.zero_le _, rfl, rfl, hB, fun x hx => by simp at hx⟩
  case round =>
    obtain ⟨k, hk, rfl, rfl, hBr, HO⟩ := hrel
    clear hB
    have hr1 := hr.below hBr
    by_cases hkl : k < n
    · obtain ⟨x, hx⟩ : ∃ x, xs[k]? = some x := ⟨xs[k], List.getElem?_eq_getElem (by omega)⟩
      obtain ⟨ad, rfl, -, e0, e1⟩ := block_of hr1 hx
      have zx := HZ.out x (List.mem_of_getElem? hx)
      obtain ⟨zx1, zx2⟩ := zx
      have HX := Lib.hid hx
      clear hx hr1
      have z1 := toB_size x.1
      have z2 := toB_size x.2
      have s1 : IntKind.i64.wrap (((toB x.1).size : Int) + ((toB x.2).size : Int)) = ((toB x.1).size : Int) + ((toB x.2).size : Int) := IntWalk.i64_in _ (by omega)
      have hb1 := below_al hBr (.cells #[.string (toB x.1), .string (toB x.2)] 29)
      by_cases h50 : 50 < x.1.length + x.2.length
      · clear HO
        go_wp2
        go_ret
        exact ⟨rfl, hb1⟩
      · have hb2 := below_al hb1 (.cells #[.string (toB x.1), .string (toB x.2)] 9)
        have hrs := reads_strs (wr.alloc (.cells #[.string (toB x.1), .string (toB x.2)] 29)) 9 x.1 x.2
        rw [size_al] at hrs
        go_wp2
        have K0 : ((wr.alloc (.cells #[.string (toB x.1), .string (toB x.2)] 29)).alloc (.cells #[.string (toB x.1), .string (toB x.2)] 9)).cell? ⟨wr.heap.size, 0, none⟩ = some (.string (toB x.1)) := by
          rw [World.cell?_alloc_lt _ _ _ (by rw [size_al]; exact Nat.lt_succ_self _)]
          exact (Blk.new wr 29 #[.string (toB x.1), .string (toB x.2)]).cell 0
        have K1 : ((wr.alloc (.cells #[.string (toB x.1), .string (toB x.2)] 29)).alloc (.cells #[.string (toB x.1), .string (toB x.2)] 9)).cell? ⟨wr.heap.size, 1, none⟩ = some (.string (toB x.2)) := by
          rw [World.cell?_alloc_lt _ _ _ (by rw [size_al]; exact Nat.lt_succ_self _)]
          exact (Blk.new wr 29 #[.string (toB x.1), .string (toB x.2)]).cell 1
        have hsz : wr.heap.size + 2 ≤ ((wr.alloc (.cells #[.string (toB x.1), .string (toB x.2)] 29)).alloc (.cells #[.string (toB x.1), .string (toB x.2)] 9)).heap.size := by rw [size_al, size_al]; omega
        clear hb1
        generalize (wr.alloc (.cells #[.string (toB x.1), .string (toB x.2)] 29)).alloc (.cells #[.string (toB x.1), .string (toB x.2)] 9) = WB at *
        have hrs' := hrs.more (B' := WB.heap.size) (by omega)
        generalize hH0 : wr.heap.size = H0 at *
        have HK0 := Lib.hid K0
        have HK1 := Lib.hid K1
        clear K0 K1 hrs
        have H50 := Lib.hid h50
        clear h50 zx1 zx2 s1
        go_loopw [36] (fun i wi => ∃ j : Nat, j ≤ 2 ∧ i = .int .i64 j ∧ Below WB.heap.size WB wi ∧ Hid (∀ z ∈ [x.1, x.2].take j, okT z)) (fun i _ => 2 - (intOf i).toNat)
        case atStart => exact ⟨0, by omega, rfl, Below.refl _ _, fun z hz => by simp at hz⟩
        case round =>
          obtain ⟨j, hj, rfl, hBi, HJ⟩ := hrel
          have hBo := below_next hb2 hBi
          by_cases hjl : j < 2
          · obtain ⟨z, hz⟩ : ∃ z, [x.1, x.2][j]? = some z := ⟨_, List.getElem?_eq_getElem (by simpa using hjl)⟩
            obtain ⟨_, e, -, ez⟩ := text_of (hrs'.below hBi) hz
            injection e with e
            subst e
            rw [add_zero_] at ez
            have lz : z.length ≤ 50 := by
              have := H50.out
              have h01 : j = 0 ∨ j = 1 := by omega
              rcases h01 with rfl | rfl
              · simp at hz; subst hz; omega
              · simp at hz; subst hz; omega
            have htk : [x.1, x.2].take (j + 1) = [x.1, x.2].take j ++ [z] := take_one hz
            have zz : (toB z).size ≤ 50 := by rw [toB_size]; exact lz
            have HJ' : okT z → Hid (∀ z ∈ [x.1, x.2].take (j + 1), okT z) := by
              intro h y hy
              rw [htk] at hy
              rcases List.mem_append.1 hy with h1 | h1
              · exact HJ.out y h1
              · obtain rfl := List.mem_singleton.1 h1; exact h
            have HHJ := Lib.hid HJ'
            clear HJ' HJ htk hz lz z1 z2
            have hbz : (toB z).data.toList = z := rfl
            have cT := fun w => cTrim (toB z) w (by unfold mostB; omega)
            generalize hbze : toB z = bz at *
            have HBZ : Hid (toB z = bz) := hbze
            clear hbze
            subst hbz
            go_wp2
            go_loop [8] (fun i => ∃ q : Nat, q ≤ bz.size ∧ i = .int .i64 q ∧ Hid (noB (bz.data.toList.take q))) (fun i => bz.size - (intOf i).toNat)
            case atStart => exact ⟨0, Nat.zero_le _, rfl, fun c hc => by simp at hc⟩
            case round =>
              obtain ⟨q, hq, rfl, HQ⟩ := hrel
              by_cases hql : q < bz.size
              · have HQ' : ¬ bz[q] = 123 → ¬ bz[q] = 125 → Hid (noB (bz.data.toList.take (q + 1))) := by
                  intro q1 q2 c hc
                  have htk : bz.data.toList.take (q + 1) = bz.data.toList.take q ++ [bz[q]] := List.take_succ_eq_append_getElem (l := bz.data.toList) (i := q) (by rw [size_list]; exact hql)
                  rw [htk] at hc
                  rcases List.mem_append.1 hc with h | h
                  · exact HQ.out c h
                  · obtain rfl := List.mem_singleton.1 h; exact ⟨q1, q2⟩
                have b1 := quiet_byte bz[q] 123 123 rfl
                have b2 := quiet_byte bz[q] 125 125 rfl
                cases t1 : ((bz[q].toNat : Int) == 123)
                case true =>
                  clear HQ HQ' b1 b2
                  go_wp2
                  go_ret
                  exact ⟨rfl, hBo⟩
                case false =>
                  cases t2 : ((bz[q].toNat : Int) == 125)
                  case true =>
                    clear HQ HQ' b1 b2
                    go_wp2
                    go_ret
                    exact ⟨rfl, hBo⟩
                  case false =>
                    have HN := HQ' (of_decide_eq_false (b1.symm.trans t1)) (of_decide_eq_false (b2.symm.trans t2))
                    clear HQ HQ' b1 b2
                    go_wp2
                    go_round
                    case rel => exact ⟨q + 1, by omega, by go_num, HN⟩
                    case measure => simp [intOf]; omega
              · obtain rfl : q = bz.size := by omega
                have htq : bz.data.toList.take bz.size = bz.data.toList := List.take_of_length_le (by rw [size_list]; exact Nat.le_refl _)
                rw [htq] at HQ
                clear htq
                by_cases ht : trimL bz.data.toList = bz.data.toList
                · have e2 : onB trimL bz = bz := by
                    refine bytes_inj ?_
                    rw [onB_list]
                    exact ht
                  rw [e2] at cT
                  have HN := HHJ.out ⟨HQ.out, ht⟩
                  clear HQ ht e2
                  go_wp2_with (go_at_call 12; (with_reducible refine (cT _).mono ?_); rintro e w4 ⟨rfl, hb⟩)
                  go_roundw
                  case rel => exact ⟨j + 1, by omega, by go_num, below_next hBi hb, HN⟩
                  case measure => simp [intOf]; omega
                · have e2 : ((onB trimL bz).toList == bz.toList) = false := by
                    rw [ByteArray.toList_eq, ByteArray.toList_eq, onB_list, beq_eq_false_iff_ne]
                    exact ht
                  clear HQ ht
                  go_wp2_with (go_at_call 12; (with_reducible refine (cT _).mono ?_); rintro e w4 ⟨rfl, hb⟩)
                  go_ret
                  exact ⟨rfl, below_next hBo hb⟩
          · obtain rfl : j = 2 := by omega
            have k0 := (hBi.cell (p := ⟨H0, 0, none⟩) (by show H0 < _; omega)).trans HK0.out
            have k1 := (hBi.cell (p := ⟨H0, 1, none⟩) (by show H0 < _; omega)).trans HK1.out
            have hok : okB x := ⟨⟨HJ.out x.1 (by simp), HJ.out x.2 (by simp)⟩, by have := H50.out; omega⟩
            have htk1 := take_one HX.out
            have hO' : Hid (∀ x ∈ xs.take (k + 1), okB x) := by
              intro y hy
              rw [htk1] at hy
              rcases List.mem_append.1 hy with h | h
              · exact HO.out y h
              · obtain rfl := List.mem_singleton.1 h; exact hok
            have lS := bsOf_len (xs.take k) HO.out
            have hlk : (xs.take k).length ≤ 20 := by rw [List.length_take]; omega
            have lX := H50.out
            have q1 : (⟨#[32]⟩ : ByteArray) ++ toB x.1 = toB ([32] ++ x.1) := toB_cat [32] _
            have q2 : toB ([32] ++ x.1) ++ (⟨#[123, 32]⟩ : ByteArray) = toB ([32] ++ x.1 ++ [123, 32]) := toB_cat _ [123, 32]
            have q3 : toB ([32] ++ x.1 ++ [123, 32]) ++ toB x.2 = toB ([32] ++ x.1 ++ [123, 32] ++ x.2) := toB_cat _ _
            have q4 : toB ([32] ++ x.1 ++ [123, 32] ++ x.2) ++ (⟨#[10, 125]⟩ : ByteArray) = toB (one x) := toB_cat _ [10, 125]
            have q5 : toB (bsOf (xs.take k)) ++ toB (one x) = toB (bsOf (xs.take (k + 1))) := by rw [toB_cat, htk1, bsOf_snoc]
            have y1 : (toB ([32] ++ x.1)).size ≤ 51 := by rw [toB_size, List.length_append]; simp only [List.length_cons, List.length_nil]; omega
            have y2 : (toB ([32] ++ x.1 ++ [123, 32])).size ≤ 53 := by rw [toB_size]; simp only [List.length_append, List.length_cons, List.length_nil]; omega
            have y3 : (toB ([32] ++ x.1 ++ [123, 32] ++ x.2)).size ≤ 103 := by rw [toB_size]; simp only [List.length_append, List.length_cons, List.length_nil]; omega
            have y4 : (toB (one x)).size ≤ 105 := by rw [toB_size]; unfold one; simp only [List.length_append, List.length_cons, List.length_nil]; omega
            have y5 : (toB (bsOf (xs.take k))).size ≤ 1120 := by rw [toB_size]; omega
            have y6 : (toB x.1).size ≤ 50 := by omega
            have y7 : (toB x.2).size ≤ 50 := by omega
            clear HJ HO htk1 lS hlk lX hok H50 HX z1 z2 hrs'
            generalize hS1 : toB (bsOf (xs.take (k + 1))) = S1 at q5
            have HS1 := Lib.hid hS1
            clear hS1 HK0 HK1 e0 e1
            generalize toB (bsOf (xs.take k)) = S0 at *
            generalize toB (one x) = C4 at *
            generalize toB ([32] ++ x.1 ++ [123, 32] ++ x.2) = C3 at *
            generalize toB ([32] ++ x.1 ++ [123, 32]) = C2 at *
            generalize toB ([32] ++ x.1) = C1 at *
            generalize toB x.1 = X1 at *
            generalize toB x.2 = X2 at *
            go_wp2
            go_roundw
            case rel => exact ⟨k + 1, by omega, by go_num, congrArg Value.string HS1.out.symm, hBo, hO'⟩
            case measure => simp [intOf]; omega
    · obtain rfl : k = n := by omega
      have htk : xs.take k = xs := List.take_of_length_le (by omega)
      rw [htk] at HO
      rw [htk]
      have lS := bsOf_len xs HO.out
      have c1 := fun hl => cBlocks (toB (bsOf xs)) wr hl (by rw [toB_size]; unfold mostB; omega)
      have e1 : blocksF (toB (bsOf xs)).data.toList = xs := blocks_written xs HO.out
      rw [e1] at c1
      generalize toB (bsOf xs) = sb at *
      clear e1 HO lS htk
      go_wp2_with (first
        | (go_at_call 8; (with_reducible refine (c1 (hL.of hBr)).mono ?_); rintro e w2 ⟨B, m, d, rfl, hq, hb2⟩
           have hmn : k = m := by have h2 := hq.1; rw [flatB_len] at h2; omega
           subst hmn
           have hr3 := hr1.below (hb2.mono hBr.size)
           have hB3 := below_next hBr hb2))
      clear hr1 hr
      go_loopw [81] (fun i wi => ∃ j q : Nat, j ≤ k ∧ i = .int .i64 j ∧ wi = w2.drewN q) (fun i _ => k - (intOf i).toNat)
      case atStart => exact ⟨0, 0, Nat.zero_le _, rfl, rfl⟩
      case round =>
        obtain ⟨j, q, hj, rfl, rfl⟩ := hrel
        by_cases hjl : j < k
        · obtain ⟨b, hb⟩ : ∃ b, xs[j]? = some b := ⟨xs[j], List.getElem?_eq_getElem (by omega)⟩
          obtain ⟨ad, rfl, -, e0, e1⟩ := block_of hr3 hb
          obtain ⟨bd, rfl, -, f0, f1⟩ := block_of hq hb
          clear hb c1 hr3 hq
          go_wp2
          go_quiet (fail)
          go_wp2
          go_roundw
          case rel => exact ⟨j + 1, q + nq, by omega, by go_num, rfl⟩
          case measure => simp [intOf]; omega
        · obtain rfl : j = k := by omega
          clear hr3 hq c1
          have hB' := below_dr hB3 q
          go_wp2
          go_ret
          exact ⟨rfl, hB'⟩
end scanBlocks
end Go.Proofs.YthkofdleoigajaaDoor
