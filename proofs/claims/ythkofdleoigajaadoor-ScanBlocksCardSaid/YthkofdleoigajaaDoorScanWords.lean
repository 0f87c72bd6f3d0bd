/- ScanWords' walk, from what scan's functions answer. Conditions: those answers; the list lies in memory as it is read. -/
import Derived.Test.YthkofdleoigajaaDoorScanWMath
import Derived.Test.YthkofdleoigajaaDoorRx7Same
namespace Go.Proofs.YthkofdleoigajaaDoor
open Go.ChangeShapes Go.WideShapes Go.ChangeAt Go.RowKit
theorem toB_cat (a b : List UInt8) : toB a ++ toB b = toB (a ++ b) := by
  refine bytes_inj ?_
  show ((toB a) ++ (toB b)).data.toList = a ++ b
  rw [ByteArray.data_append, Array.toList_append]
  rfl
namespace scanWords
def blanksOf (b : Nat) : List UInt8 := ([32, 9, 10, 13] : List UInt8).drop b
theorem blanks_are (b : Nat) : ∀ c ∈ blanksOf b, isBlank c = true := by
  intro c hc
  have : ∀ c ∈ ([32, 9, 10, 13] : List UInt8), isBlank c = true := by decide
  exact this c (List.mem_of_mem_drop hc)
theorem blanks_ext (b : Nat) : (⟨#[32, 9, 10, 13]⟩ : ByteArray).extract b 4 = toB (blanksOf b) := by
  refine bytes_inj ?_
  rw [extract_list]
  rfl
theorem sOf_len (bl : List UInt8) (xs : List (List UInt8)) (hb : bl.length ≤ 4) (h : ∀ x ∈ xs, x.length ≤ 20) : (sOf bl xs).length ≤ 25 * xs.length := by
  induction xs with
  | nil => exact Nat.le_refl _
  | cons x t ih =>
    have e : sOf bl (x :: t) = (bl ++ x ++ [32]) ++ sOf bl t := rfl
    have h1 := h x (by simp)
    have h2 := ih (fun y hy => h y (by simp [hy]))
    rw [e]
    simp only [List.length_append, List.length_cons, List.length_nil] at h2 ⊢
    omega
theorem tOf_len (xs : List (List UInt8)) (h : ∀ x ∈ xs, x.length ≤ 20) : (tOf xs).length ≤ 23 * xs.length := by
  induction xs with
  | nil => exact Nat.le_refl _
  | cons x t ih =>
    have h1 := h x (by simp)
    have h2 := ih (fun y hy => h y (by simp [hy]))
    cases t with
    | nil => show x.length ≤ _; simp only [List.length_cons, List.length_nil]; omega
    | cons y r =>
      show (x ++ [32, 44, 32] ++ tOf (y :: r)).length ≤ _
      simp only [List.length_append, List.length_cons, List.length_nil] at h2 ⊢
      omega
def okW (w : List UInt8) : Prop := good w ∧ w.length ≤ 20
set_option maxHeartbeats 8000000 in
theorem walk (cAwake : ∀ w, Lens w → Calls Tryd.prog 7 #[] w fun e w' => e = .returned (.bool true) ∧ Below w.heap.size w w') (cSplit : SplitC) (cWords : WordsC)
    (A : Option Addr) (n c : Nat) (xs : List (List UInt8)) (b : Int) (w : World) (hL : Lens w) (hn : n ≤ 17592186043904) (hr : Reads w w.heap.size 1 A n (strs xs)) :
    Calls Tryd.prog 5 #[.slice A n c, .int .i64 b] w fun e w' => e = .returned (.bool true) ∧ Below w.heap.size w w' := by
  by_cases h5 : 50 < n
  · go_enter Tryd.func5, Tryd.ntmps5
    go_wp2_with (go_at_call 7; refine (cAwake _ hL).mono ?_; rintro e w1 ⟨rfl, hb⟩)
    go_ret
    exact ⟨rfl, hb⟩
  have h5' : n ≤ 50 := by omega
  clear h5
  by_cases h6 : b < 0
  · go_enter Tryd.func5, Tryd.ntmps5
    go_wp2_with (go_at_call 7; refine (cAwake _ hL).mono ?_; rintro e w1 ⟨rfl, hb⟩)
    go_ret
    exact ⟨rfl, hb⟩
  have h6' : 0 ≤ b := by omega
  clear h6
  by_cases h7 : 3 < b
  · go_enter Tryd.func5, Tryd.ntmps5
    go_wp2_with (go_at_call 7; refine (cAwake _ hL).mono ?_; rintro e w1 ⟨rfl, hb⟩)
    go_ret
    exact ⟨rfl, hb⟩
  have h7' : b ≤ 3 := by omega
  clear h7
  have hlen : xs.length = n := by have := hr.1; rw [strs_len] at this; omega
  go_enter Tryd.func5, Tryd.ntmps5
  go_wp2_with (go_at_call 7; refine (cAwake _ hL).mono ?_; rintro e w1 ⟨rfl, hB⟩)
  have hr1 := hr.below hB
  go_loop [5, 6, 26] (fun sv tv i => ∃ k : Nat, k ≤ n ∧ i = .int .i64 k ∧ sv = .string (toB (sOf (blanksOf b.toNat) (xs.take k))) ∧ tv = .string (toB (tOf (xs.take k))) ∧ Hid (∀ x ∈ xs.take k, okW x)) (fun _ _ i => n - (intOf i).toNat)
  case atStart => exact ⟨0, Nat.zero_le _, rfl, rfl, rfl, fun x hx => by simp at hx⟩
  case round =>
    obtain ⟨k, hk, rfl, rfl, rfl, HO⟩ := hrel
    by_cases hkl : k < n
    · obtain ⟨x, hx⟩ : ∃ x, xs[k]? = some x := ⟨xs[k], List.getElem?_eq_getElem (by omega)⟩
      obtain ⟨ad, rfl, -, ex⟩ := text_of hr1 hx
      by_cases hem : x = []
      · have e0 : ((toB x).toList == []) = true := by rw [toB_beq, hem]; rfl
        clear HO hx
        generalize toB x = bx at *
        go_wp2
        go_ret
        exact ⟨rfl, hB⟩
      · have e0 : ((toB x).toList == []) = false := by
          rw [toB_beq]
          cases x with
          | nil => exact absurd rfl hem
          | cons _ _ => rfl
        have z0 := toB_size x
        by_cases hl : 20 < x.length
        · have z1 : 20 < (toB x).size := by omega
          clear HO hx z0
          generalize toB x = bx at *
          go_wp2
          go_ret
          exact ⟨rfl, hB⟩
        · have z1 : (toB x).size ≤ 20 := by omega
          have hbx : (toB x).data.toList = x := rfl
          generalize hbxe : toB x = bx at *
          have HBX : Hid (toB x = bx) := hbxe
          clear hbxe
          subst hbx
          have HL : Hid (bx.data.toList.length ≤ 20) := by show _ ≤ 20; omega
          clear z0 hl
          have HX := Lib.hid hx
          clear hx
          have HEM := Lib.hid hem
          clear hem
          go_wp2
          go_loop [9] (fun i => ∃ j : Nat, j ≤ bx.size ∧ i = .int .i64 j ∧ Hid (∀ c ∈ bx.data.toList.take j, isBlank c = false ∧ ¬ c = 44)) (fun i => bx.size - (intOf i).toNat)
          case atStart => exact ⟨0, Nat.zero_le _, rfl, fun c hc => by simp at hc⟩
          case round =>
            obtain ⟨j, hj, rfl, HJ⟩ := hrel
            by_cases hjl : j < bx.size
            · have hcc := isBlank_is bx[j]
              have HJ' : isBlank bx[j] = false → ¬ bx[j] = 44 → Hid (∀ c ∈ bx.data.toList.take (j + 1), isBlank c = false ∧ ¬ c = 44) := by
                intro q1 q2 c hc
                have htk : bx.data.toList.take (j + 1) = bx.data.toList.take j ++ [bx[j]] := List.take_succ_eq_append_getElem (l := bx.data.toList) (i := j) (by rw [size_list]; exact hjl)
                rw [htk] at hc
                rcases List.mem_append.1 hc with h | h
                · exact HJ.out c h
                · obtain rfl := List.mem_singleton.1 h; exact ⟨q1, q2⟩
              have h44 : ((bx[j].toNat : Int) == 44) = decide (bx[j] = 44) := by
                by_cases h : bx[j] = 44
                · rw [h]; rfl
                · rw [decide_eq_false h, beq_eq_false_iff_ne]
                  intro e
                  refine h (UInt8.toNat_inj.1 ?_)
                  have : (44 : UInt8).toNat = 44 := rfl
                  omega
              cases t1 : ((bx[j].toNat : Int) == 32)
              case true =>
                clear HJ HJ' hcc h44
                go_wp2
                go_ret
                exact ⟨rfl, hB⟩
              case false =>
                cases t2 : ((bx[j].toNat : Int) == 9)
                case true =>
                  clear HJ HJ' hcc h44
                  go_wp2
                  go_ret
                  exact ⟨rfl, hB⟩
                case false =>
                  cases t3 : ((bx[j].toNat : Int) == 10)
                  case true =>
                    clear HJ HJ' hcc h44
                    go_wp2
                    go_ret
                    exact ⟨rfl, hB⟩
                  case false =>
                    cases t4 : ((bx[j].toNat : Int) == 13)
                    case true =>
                      clear HJ HJ' hcc h44
                      go_wp2
                      go_ret
                      exact ⟨rfl, hB⟩
                    case false =>
                      cases t5 : ((bx[j].toNat : Int) == 44)
                      case true =>
                        clear HJ HJ' hcc h44
                        go_wp2
                        go_ret
                        exact ⟨rfl, hB⟩
                      case false =>
                        have HN := HJ' (by rw [hcc, t1, t2, t3, t4]; rfl) (of_decide_eq_false (by rw [← h44]; exact t5))
                        clear HJ HJ' hcc h44
                        go_wp2
                        go_round
                        case rel => exact ⟨j + 1, by omega, by go_num, HN⟩
                        case measure => simp [intOf]; omega
            · obtain rfl : j = bx.size := by omega
              have htk : bx.data.toList.take bx.size = bx.data.toList := List.take_of_length_le (by rw [size_list]; exact Nat.le_refl _)
              have hg : good bx.data.toList := ⟨HEM.out, by have := HJ.out; rwa [htk] at this⟩
              have htk1 := take_one HX.out
              have hO' : Hid (∀ x ∈ xs.take (k + 1), okW x) := by
                intro x hx
                rw [htk1] at hx
                rcases List.mem_append.1 hx with h | h
                · exact HO.out x h
                · obtain rfl := List.mem_singleton.1 h; exact ⟨hg, HL.out⟩
              have hlk : (xs.take k).length ≤ 50 := by rw [List.length_take]; omega
              have lS := sOf_len (blanksOf b.toNat) (xs.take k) (by unfold blanksOf; rw [List.length_drop]; simp) (fun x hx => (HO.out x hx).2)
              have lT := tOf_len (xs.take k) (fun x hx => (HO.out x hx).2)
              have lB : (blanksOf b.toNat).length ≤ 4 := by unfold blanksOf; rw [List.length_drop]; simp
              have lX := HL.out
              have hsl : ∀ w, (Instr.slice 9 (.string ⟨#[32, 9, 10, 13]⟩) (some (.int .i64 b)) none none).run Tryd.prog w = .ok (.string (toB (blanksOf b.toNat))) w := by
                intro w
                have h4 : ((⟨#[32, 9, 10, 13]⟩ : ByteArray).size : Int) = 4 := rfl
                have := run_slice_string_l (P := Tryd.prog) (w := w) (t := 9) (s := ⟨#[32, 9, 10, 13]⟩) Tryd.underlying9 .i64 b h6' (by omega)
                have e4 : (⟨#[32, 9, 10, 13]⟩ : ByteArray).size = 4 := rfl
                rwa [e4, blanks_ext] at this
              have q1 : toB (blanksOf b.toNat) ++ bx = toB (blanksOf b.toNat ++ bx.data.toList) := (congrArg (toB (blanksOf b.toNat) ++ ·) HBX.out.symm).trans (toB_cat _ _)
              have q2 : toB (blanksOf b.toNat ++ bx.data.toList) ++ (⟨#[32]⟩ : ByteArray) = toB (blanksOf b.toNat ++ bx.data.toList ++ [32]) := toB_cat _ [32]
              have q3 : toB (sOf (blanksOf b.toNat) (xs.take k)) ++ toB (blanksOf b.toNat ++ bx.data.toList ++ [32]) = toB (sOf (blanksOf b.toNat) (xs.take (k + 1))) := by rw [toB_cat, htk1, sOf_snoc]
              have r1 : toB (tOf (xs.take k)) ++ (⟨#[32, 44, 32]⟩ : ByteArray) = toB (tOf (xs.take k) ++ [32, 44, 32]) := toB_cat _ [32, 44, 32]
              have z2 : (toB (blanksOf b.toNat)).size ≤ 4 := by rw [toB_size]; exact lB
              have z3 : (toB (blanksOf b.toNat ++ bx.data.toList)).size ≤ 24 := by rw [toB_size, List.length_append]; omega
              have z4 : (toB (blanksOf b.toNat ++ bx.data.toList ++ [32])).size ≤ 25 := by rw [toB_size, List.length_append, List.length_append]; simp only [List.length_cons, List.length_nil]; omega
              have z5 : (toB (sOf (blanksOf b.toNat) (xs.take k))).size ≤ 1250 := by rw [toB_size]; omega
              have z6 : (toB (tOf (xs.take k))).size ≤ 1150 := by rw [toB_size]; omega
              have z7 : (toB (tOf (xs.take k) ++ [32, 44, 32])).size ≤ 1153 := by rw [toB_size, List.length_append]; simp only [List.length_cons, List.length_nil]; omega
              by_cases hk0 : 0 < k
              · have r2 : toB (tOf (xs.take k) ++ [32, 44, 32]) ++ bx = toB (tOf (xs.take (k + 1))) := by
                  refine (congrArg (toB (tOf (xs.take k) ++ [32, 44, 32]) ++ ·) HBX.out.symm).trans ?_
                  show toB _ ++ toB _ = _
                  rw [toB_cat, htk1, tOf_snoc]
                  intro e
                  have := congrArg List.length e
                  rw [List.length_take] at this
                  simp only [List.length_nil] at this
                  omega
                clear HJ HO htk htk1 hg lS lT lB lX hlk HBX HL HX HEM
                generalize hS1 : toB (sOf (blanksOf b.toNat) (xs.take (k + 1))) = S1 at q3
                generalize hT1 : toB (tOf (xs.take (k + 1))) = T1 at r2
                have HS1 := Lib.hid hS1
                have HT1 := Lib.hid hT1
                clear hS1 hT1
                generalize toB (sOf (blanksOf b.toNat) (xs.take k)) = S0 at *
                generalize toB (tOf (xs.take k) ++ [32, 44, 32]) = TM at *
                generalize toB (tOf (xs.take k)) = T0 at *
                generalize toB (blanksOf b.toNat ++ bx.data.toList ++ [32]) = B2 at *
                generalize toB (blanksOf b.toNat ++ bx.data.toList) = B1 at *
                generalize toB (blanksOf b.toNat) = B0 at *
                go_wp2
                go_round
                case rel => exact ⟨k + 1, by omega, by go_num, congrArg Value.string HS1.out.symm, congrArg Value.string HT1.out.symm, hO'⟩
                case measure => simp [intOf]; omega
              · have hk00 : k = 0 := by omega
                have r2 : toB (tOf (xs.take k)) ++ bx = toB (tOf (xs.take (k + 1))) := by
                  refine (congrArg (toB (tOf (xs.take k)) ++ ·) HBX.out.symm).trans ?_
                  show toB _ ++ toB _ = _
                  rw [toB_cat, htk1, hk00]
                  rfl
                clear HJ HO htk htk1 hg lS lT lB lX hlk HBX HL HX HEM hk00 r1 z7
                generalize hS1 : toB (sOf (blanksOf b.toNat) (xs.take (k + 1))) = S1 at q3
                generalize hT1 : toB (tOf (xs.take (k + 1))) = T1 at r2
                have HS1 := Lib.hid hS1
                have HT1 := Lib.hid hT1
                clear hS1 hT1
                generalize toB (sOf (blanksOf b.toNat) (xs.take k)) = S0 at *
                generalize toB (tOf (xs.take k)) = T0 at *
                generalize toB (blanksOf b.toNat ++ bx.data.toList ++ [32]) = B2 at *
                generalize toB (blanksOf b.toNat ++ bx.data.toList) = B1 at *
                generalize toB (blanksOf b.toNat) = B0 at *
                go_wp2
                go_round
                case rel => exact ⟨k + 1, by omega, by go_num, congrArg Value.string HS1.out.symm, congrArg Value.string HT1.out.symm, hO'⟩
                case measure => simp [intOf]; omega
    · obtain rfl : k = n := by omega
      have htk : xs.take k = xs := List.take_of_length_le (by omega)
      rw [htk] at HO
      rw [htk]
      have lS := sOf_len (blanksOf b.toNat) xs (by unfold blanksOf; rw [List.length_drop]; simp) (fun x hx => (HO.out x hx).2)
      have lT := tOf_len xs (fun x hx => (HO.out x hx).2)
      have hgood : ∀ x ∈ xs, good x := fun x hx => (HO.out x hx).1
      have c2 := fun w => cWords (toB (sOf (blanksOf b.toNat) xs)) w (by rw [toB_size]; unfold mostB; omega)
      have e2 : wordsF (toB (sOf (blanksOf b.toNat) xs)).data.toList = xs := words_joined _ (blanks_are _) xs hgood
      rw [e2] at c2
      have c1 := fun w => cSplit (toB (tOf xs)) 44 w (by rw [toB_size]; unfold mostB; omega)
      have hsame : ∀ A n c B m d k0 k1 w, Reads w k0 1 A n (strs xs) → Reads w k1 1 B m (strs xs) → Calls Tryd.prog 14 #[.slice A n c, .slice B m d] w fun e w' => e = .returned (.bool true) ∧ ∃ q, w.drewN q = w' := by
        intro A n c B m d k0 k1 w hx hy
        have lx : xs.length = n := by have := hx.1; rw [strs_len] at this; omega
        have ly : xs.length = m := by have := hy.1; rw [strs_len] at this; omega
        have := rsame_any A B n c m d k0 k1 xs xs w hx hy (by omega) (by omega)
        rwa [show sameS xs xs = true from decide_eq_true rfl] at this
      generalize toB (sOf (blanksOf b.toNat) xs) = sb at *
      by_cases h0 : 0 < k
      · have e1 : splitF 44 (toB (tOf xs)).data.toList = xs := split_joined xs (by intro e; rw [e] at hlen; simp at hlen; omega) hgood
        simp only [e1, show (((44 : UInt8).toNat : Nat) : Int) = 44 from rfl] at c1
        generalize toB (tOf xs) = tb at *
        clear e1 e2 htk HO lS lT hgood
        go_wp2_with (first
          | (go_at_call 15; (with_reducible refine (c1 _).mono ?_); rintro e w4 ⟨A4, n4, c4, rfl, hr4, hb⟩; replace hr1 := hr1.below (hb.mono hB.size); replace hB := below_next hB hb; clear hb)
          | (go_at_call 17; (with_reducible refine (c2 _).mono ?_); rintro e w5 ⟨A5, n5, c5, rfl, hr5, hb⟩; replace hr1 := Reads.below hr1 (hb.mono hB.size); replace hB := below_next hB hb; clear hb)
          | (go_at_call 14; (first | (with_reducible refine (hsame _ _ _ _ _ _ _ _ _ hr5 hr1).mono ?_) | (with_reducible refine (hsame _ _ _ _ _ _ _ _ _ hr4 hr1).mono ?_)); rintro e w6 ⟨rfl, q, rfl⟩; replace hB := below_dr hB q; replace hr1 := hr1.drewN q))
        go_ret
        exact ⟨rfl, hB⟩
      · have hx0 : ¬ 0 < k := h0
        generalize toB (tOf xs) = tb at *
        clear e2 htk HO lS lT hgood c1
        go_wp2_with (first
          | (go_at_call 17; (with_reducible refine (c2 _).mono ?_); rintro e w5 ⟨A5, n5, c5, rfl, hr5, hb⟩; replace hr1 := Reads.below hr1 (hb.mono hB.size); replace hB := below_next hB hb; clear hb)
          | (go_at_call 14; (with_reducible refine (hsame _ _ _ _ _ _ _ _ _ hr5 hr1).mono ?_); rintro e w6 ⟨rfl, q, rfl⟩; replace hB := below_dr hB q; replace hr1 := hr1.drewN q))
        go_ret
        exact ⟨rfl, hB⟩
end scanWords
end Go.Proofs.YthkofdleoigajaaDoor
