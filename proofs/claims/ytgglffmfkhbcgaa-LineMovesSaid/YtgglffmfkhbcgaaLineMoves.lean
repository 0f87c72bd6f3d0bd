/- Rows.LineMovesSaid: the law's walk. Conditions: none beyond the row's own. -/
import Derived.Test.YtgglffmfkhbcgaaLineI
import Derived.Test.YtgglffmfkhbcgaaLineS
import Derived.Deep.Cut
import Derived.Deep.CutRange
import Derived.Deep.DeepCutAuto
namespace Go.Proofs.Ytgglffmfkhbcgaa
open Go.ChangeShapes Go.WideShapes Go.ChangeAt Go.RowKit
namespace lineMoves
theorem half_nn {n : Int} (h : 0 ≤ n) : n.tdiv 2 = n / 2 := Int.tdiv_eq_ediv_of_nonneg h
set_option maxHeartbeats 16000000 in
set_option maxRecDepth 100000 in
theorem walkA (A : Option Addr) (n c : Nat) (l : List Pc) (room : Int) (W : World) (hnc : n ≤ c) (hr : Reads W W.heap.size 6 A n (flatP l)) (h200 : n ≤ 200) (hall : fillE l room 0 = true ∧ fillE l room 1 = true ∧ fillE l room 2 = true) :
    Calls Try.prog 5 #[.slice A n c, .int .i64 room] W fun e W' => e = .returned (.bool true) ∧ Below W.heap.size W W' := by
  have HL := Lib.hid (len_P hr)
  have cA := fun w => lineAwake w
  have i200 : (n : Int) ≤ 200 := by omega
  have c0 := fun w' (hb : Below W.heap.size W w') => rowsL.fill_any A n c l room 0 w' (hr.onward hb) h200 hnc
  have c1 := fun w' (hb : Below W.heap.size W w') => rowsL.fill_any A n c l room 1 w' (hr.onward hb) h200 hnc
  have c2 := fun w' (hb : Below W.heap.size W w') => rowsL.fill_any A n c l room 2 w' (hr.onward hb) h200 hnc
  obtain ⟨ea, eb, ec⟩ := hall
  obtain ⟨hm, hro1, hro2, hPA, hHA, hH0, hH1⟩ := fill_exact ea
  obtain ⟨-, -, -, hPB, hHB, -, -⟩ := fill_exact eb
  obtain ⟨-, -, -, hPC, hHC, -, -⟩ := fill_exact ec
  have hC := lines_ok l room
  rw [ea, hHA] at c0
  rw [eb, hHB] at c1
  rw [ec, hHC] at c2
  rw [hHA] at hH0 hH1
  generalize highs l (linesP l room) (linesP l room).length = H at *
  clear hHA hHB hHC ea eb ec
  generalize fillP l room 0 = PA at *
  generalize fillP l room 1 = PB at *
  generalize fillP l room 2 = PC at *
  generalize linesP l room = C at *
  have HC := Lib.hid hC
  have HPA := Lib.hid hPA
  have HPB := Lib.hid hPB
  have HPC := Lib.hid hPC
  have HM := Lib.hid hm
  have LA := Lib.hid (hPA.len.trans HL.out)
  have LB := Lib.hid (hPB.len.trans HL.out)
  have LC := Lib.hid (hPC.len.trans HL.out)
  clear hC hPA hPB hPC hm
  go_enter Try.func5, Try.ntmps5
  go_wp2_with (first
    | (go_at_call 10; (with_reducible refine (cA _).mono ?_); rintro e w1 ⟨rfl, hb1⟩)
    | (go_at_call 11; (first
        | ((with_reducible refine (c0 _ (by with_reducible assumption)).mono ?_); rintro e w2 ⟨v1, rfl, hp1, hb⟩
           have hB2 := below_next hb1 hb
           obtain ⟨A1, k1, rfl, hrA⟩ := pls_reads hp1 LA.out
           clear hb hp1 c0)
        | ((with_reducible refine (c1 _ (by with_reducible assumption)).mono ?_); rintro e w3 ⟨v2, rfl, hp2, hb⟩
           have hB3 := below_next hB2 hb
           have hrA3 := hrA.onward hb
           obtain ⟨A2, k2, rfl, hrB⟩ := pls_reads hp2 LB.out
           clear hb hp2 c1 hrA)
        | ((with_reducible refine (c2 _ (by with_reducible assumption)).mono ?_); rintro e w4 ⟨v3, rfl, hp3, hb⟩
           have hB4 := below_next hB3 hb
           have hrA4 := hrA3.onward hb
           have hrB4 := hrB.onward hb
           obtain ⟨A3, k3, rfl, hrC⟩ := pls_reads hp3 LC.out
           clear hb hp3 c2 hrA3 hrB))))
  clear cA
  go_loopw [78, 14] (fun i s wr => ∃ (k f q : Nat), k ≤ n ∧ i = .int .i64 k ∧ s = .int .i64 f ∧ Hid ((k = 0 → f = 0) ∧ ∀ (m j a b : Nat), k = m + 1 → C[j]? = some (a, b) → a ≤ m → m < b → f = a) ∧ wr = w4.drewN q) (fun i _ _ => n - (intOf i).toNat)
  case atStart => exact ⟨0, 0, 0, Nat.zero_le _, rfl, rfl, Lib.hid ⟨fun _ => rfl, fun m j a b e => by omega⟩, rfl⟩
  case round =>
    obtain ⟨k, f, q, hk, rfl, rfl, HF, rfl⟩ := hrel
    by_cases hlt : k < n
    · obtain ⟨p, hp⟩ : ∃ p, l[k]? = some p := ⟨l[k]'(by rw [HL.out]; exact hlt), List.getElem?_eq_getElem _⟩
      obtain ⟨j, a, b, hj, hak, hkb0⟩ := line_of HC.out k (by rw [HL.out]; exact hlt)
      obtain ⟨X, Y, by_, d1, d2, d3, d4, d5, d6, d7, d8, d9⟩ := moves_at HPA.out HPB.out HPC.out hj hak hkb0 hp
      obtain ⟨p1, p2, p3, p4, p5, p6⟩ := may_at HM.out hp
      obtain ⟨ad1, rfl, _, e0, e1, e2, e3, e4, e5⟩ := pl_of hrA4 d1
      obtain ⟨ad2, rfl, _, f0, f1, f2, f3, f4, f5⟩ := pl_of hrB4 d2
      obtain ⟨ad3, rfl, _, g0, g1, g2, g3, g4, g5⟩ := pl_of hrC d3
      have dW := Lib.hid d9
      have dBy := Lib.hid d7
      have dF := Lib.hid (show (k + 1 = 0 → a = 0) ∧ ∀ (m j' a' b' : Nat), k + 1 = m + 1 → C[j']? = some (a', b') → a' ≤ m → m < b' → a = a' from ⟨fun e => by omega, fun m j' a' b' e h1 h2 h3 => by
        obtain rfl : m = k := by omega
        obtain rfl := line_same HC.out hj h1 hak hkb0 h2 h3
        rw [hj] at h1; injection h1 with h1; injection h1⟩)
      have ik : (k : Int) < (n : Int) := by omega
      have ik0 : (0 : Int) ≤ (k : Int) := Int.natCast_nonneg _
      have ij0 : (0 : Int) ≤ (j : Int) := Int.natCast_nonneg _
      have hj := Lib.hid hj
      have hpk := Lib.hid hp
      obtain ⟨pb, pw, ph, pg, pt, pk⟩ := p
      simp only at e0 e1 e2 e3 e4 e5 f0 f1 f2 f3 f4 f5 g0 g1 g2 g3 g4 g5 p1 p2 d6 dW
      have w1 : IntKind.i64.wrap (by_ + X - X) = by_ := by rw [IntKind.wrap_i64]; omega
      have w2 : IntKind.i64.wrap (by_ / 2 + X - X) = by_ / 2 := by rw [IntKind.wrap_i64]; omega
      have w3 : IntKind.i64.wrap (by_ + X + pw) = by_ + X + pw := by rw [IntKind.wrap_i64]; omega
      have w5 := half_nn d4
      have w6 : IntKind.i64.wrap (by_ / 2) = by_ / 2 := by rw [IntKind.wrap_i64]; omega
      have nby : ¬ by_ < 0 := by omega
      clear d7 d9 hp e0 e5 f0 f4 f5 g0 g5
      obtain ⟨pa, hpa⟩ : ∃ pa, l[a]? = some pa := ⟨l[a]'(by rw [HL.out]; omega), List.getElem?_eq_getElem _⟩
      obtain ⟨Xa, Ya, bya, x1, -, -, -, -, -, -, x8, -⟩ := moves_at HPA.out HPB.out HPC.out hj.out (Nat.le_refl a) (by omega) hpa
      have hXa := x8 rfl
      subst hXa
      obtain ⟨ad1', hd, _, s0, s1, s2, s3, s4, s5⟩ := pl_of hrA4 x1
      injection hd with hd
      subst hd
      simp only at s1 s2
      have ia : (a : Int) < (n : Int) := by omega
      have ia0 : (0 : Int) ≤ (a : Int) := Int.natCast_nonneg _
      have ia2 : a < n := by omega
      clear d8 hpa x1 s0 s3 s4 s5 d1 d2 d3
      go_upto_region 16 with (fail)
      go_cut [91] (fun s wx => ∃ (bq : Bool) (q' : Nat), s = .bool bq ∧ Hid (bq = true → k = a) ∧ Hid (bq = false → f = a) ∧ wx = w4.drewN q')
      case first =>
        by_cases hka : k = a
        · by_cases hk0 : k = 0
          · have hfa : f = a := by rw [← hka, hk0]; exact HF.out.1 hk0
            subst hfa
            clear HF dF hk0 hka
            as_aux_lemma =>
              go_quiet (fail)
              go_wp2_with (fail)
              go_meet
              exact ⟨false, _, rfl, Lib.hid (fun h => by cases h), Lib.hid (by intros; first | trivial | rfl), rfl⟩
          · obtain ⟨j', a', hjj', hja⟩ := line_ahead HC.out hj.out (by omega)
            have hlt' := (HC.out.chain _ _ _ hja).1
            obtain ⟨m, hkm⟩ : ∃ m, k = m + 1 := ⟨k - 1, by omega⟩
            have hfa : f = a' := HF.out.2 m j' a' a hkm hja (by omega) (by omega)
            obtain ⟨pa, hpa⟩ : ∃ pa, l[a']? = some pa := ⟨l[a']'(by rw [HL.out]; omega), List.getElem?_eq_getElem _⟩
            obtain ⟨Xz, Yz, byz, x1, -, -, -, -, -, -, -, -⟩ := moves_at HPA.out HPB.out HPC.out hja (Nat.le_refl a') hlt' hpa
            obtain ⟨ad1', hd, _, s0', s1', s2', s3', s4', s5'⟩ := pl_of hrA4 x1
            injection hd with hd
            subst hd
            subst hfa
            simp only at s1'
            have iaf : (f : Int) < (n : Int) := by omega
            have iaf0 : (0 : Int) ≤ (f : Int) := Int.natCast_nonneg _
            have iaf2 : f < n := by omega
            have hne : ((j : Int) != (j' : Int)) = true := by simp; omega
            have hne2 : ((j : Int) == (j' : Int)) = false := by simp; omega
            have HKA := Lib.hid hka
            clear HF dF hkm hpa x1 s0' s2' s3' s4' s5' hk0 hjj' hja hlt' hka
            as_aux_lemma =>
              go_quiet (fail)
              go_wp2_with (fail)
              go_meet
              exact ⟨true, _, rfl, Lib.hid (fun _ => HKA.out), Lib.hid (fun h => by cases h), rfl⟩
        · obtain ⟨m, hkm⟩ : ∃ m, k = m + 1 := ⟨k - 1, by omega⟩
          have hfa : f = a := HF.out.2 m j a b hkm hj.out (by omega) (by omega)
          subst hfa
          clear HF dF hkm hka
          as_aux_lemma =>
            go_quiet (fail)
            go_wp2_with (fail)
            go_meet
            exact ⟨false, _, rfl, Lib.hid (fun h => by cases h), Lib.hid (by intros; first | trivial | rfl), rfl⟩
      case rest =>
        obtain ⟨bq, q', rfl, hbt, hbf, rfl⟩ := hcut
        refine (‹∀ (a : Act) (w : World), Code.wp Try.prog (Code.cond (.tmp 91) _ _) _ a w → _›) _ _ ?_
        go_cut [14] (fun s wx => s = .int .i64 a ∧ wx = w4.drewN q')
        case first =>
          cases bq
          · obtain rfl := hbf.out rfl
            go_wp2_with (fail)
            go_meet
            exact ⟨rfl, rfl⟩
          · have HKA := Lib.hid (hbt.out rfl)
            go_wp2_with (fail)
            go_meet
            exact ⟨by rw [HKA.out], rfl⟩
        obtain ⟨rfl, rfl⟩ := hcut
        clear hbt hbf
        have dF2 : Hid ((k + 1 = 0 → a = 0) ∧ ∀ (m j' a' b' : Nat), k + 1 = m + 1 → C[j']? = some (a', b') → a' ≤ m → m < b' → a = a') := dF
        clear dF HF
        as_aux_lemma =>
          go_wp2
          go_quiet (fail)
          go_wp2
          go_quiet (fail)
          go_wp2
          rcases (show k + 1 = n ∨ (k + 1 < n ∧ k + 1 = b) ∨ (k + 1 < n ∧ k + 1 < b) by omega) with hl | ⟨hl, hkb⟩ | ⟨hl, hkb⟩
          · have hkb : k + 1 = b := by have := (HC.out.chain j a b hj.out).2.1; rw [HL.out] at this; omega
            have hW := dW.out hkb
            have il : (k : Int) + 1 = (n : Int) := by omega
            have HKN := Lib.hid hl
            have hby := dBy.out
            by_cases hb0 : 0 < by_
            · have hb2 : by_ + X + pw = room := by omega
              have w3r : IntKind.i64.wrap (by_ + X + pw) = room := by rw [IntKind.wrap_i64]; omega
              clear w3
              have hb1 : (by_ == 0) = false := by simp; omega
              clear hkb hl dW dBy hby hW
              as_aux_lemma =>
                go_quiet (fail)
                go_wp2
                go_quiet (fail)
                go_wp2
                go_roundw
                case rel => exact ⟨n, a, _, Nat.le_refl _, rfl, rfl, by rw [← HKN.out]; exact dF2, rfl⟩
                case measure => simp [intOf]; omega
            · have hlt9 : ¬ X + pw < room := by omega
              have w3b : IntKind.i64.wrap (X + pw) = X + pw := by rw [IntKind.wrap_i64]; omega
              obtain rfl : by_ = 0 := by omega
              clear w3
              clear hkb hl dW dBy hby hW
              as_aux_lemma =>
                go_quiet (fail)
                go_wp2
                go_quiet (fail)
                go_wp2
                go_roundw
                case rel => exact ⟨n, a, _, Nat.le_refl _, rfl, rfl, by rw [← HKN.out]; exact dF2, rfl⟩
                case measure => simp [intOf]; omega
          · have hW := dW.out hkb
            have il : ¬ (k : Int) + 1 = (n : Int) := by omega
            have il2 : ((k : Int) + 1 == (n : Int)) = false := by simpa using il
            obtain ⟨k9, hk9⟩ : ∃ k9, k9 = k + 1 := ⟨_, rfl⟩
            have HK9 := Lib.hid hk9
            obtain ⟨p9, hp9⟩ : ∃ p9, l[k9]? = some p9 := ⟨l[k9]'(by rw [HL.out]; omega), List.getElem?_eq_getElem _⟩
            obtain ⟨j9, a9, b9, hj9, ha9, hb9⟩ := line_of HC.out k9 (by rw [HL.out]; omega)
            obtain ⟨X9, Y9, by9, n1, _, _, _, _, _, _, _, _⟩ := moves_at HPA.out HPB.out HPC.out hj9 ha9 hb9 hp9
            obtain ⟨ad9, hd9, _, t0, t1, t2, t3, t4, t5⟩ := pl_of hrA4 n1
            injection hd9 with hd9
            subst hd9
            simp only at t1
            have i9 : IntKind.i64.wrap ((k : Int) + 1) = (k9 : Int) := by rw [IntKind.wrap_i64]; omega
            have i9b : (k9 : Int) < (n : Int) := by omega
            have il9 : ((k9 : Int) == (n : Int)) = false := by simp; omega
            have i9c : (0 : Int) ≤ (k9 : Int) := by omega
            have hjj : ((j9 : Int) == (j : Int)) = false := by
              have : j9 ≠ j := by
                rintro rfl
                rw [hj.out] at hj9; injection hj9 with hj9; injection hj9 with _ hj9; omega
              simp; omega
            have hjj2 : ((j9 : Int) != (j : Int)) = true := by rw [bne, hjj]; rfl
            have hby := dBy.out
            by_cases hb0 : 0 < by_
            · have hb2 : by_ + X + pw = room := by omega
              have w3r : IntKind.i64.wrap (by_ + X + pw) = room := by rw [IntKind.wrap_i64]; omega
              clear w3
              have hb1 : (by_ == 0) = false := by simp; omega
              clear hkb hl dW dBy hby hW t0 t2 t3 t4 t5 n1 hp9 hj9 ha9 hb9 hk9
              as_aux_lemma =>
                go_quiet (fail)
                go_wp2
                go_quiet (fail)
                go_wp2
                go_roundw
                case rel => exact ⟨k9, a, _, by omega, rfl, rfl, by rw [HK9.out]; exact dF2, rfl⟩
                case measure => have := HK9.out; simp [intOf]; omega
            · have hlt9 : ¬ X + pw < room := by omega
              have w3b : IntKind.i64.wrap (X + pw) = X + pw := by rw [IntKind.wrap_i64]; omega
              obtain rfl : by_ = 0 := by omega
              clear w3
              clear hkb hl dW dBy hby hW t0 t2 t3 t4 t5 n1 hp9 hj9 ha9 hb9 hk9
              as_aux_lemma =>
                go_quiet (fail)
                go_wp2
                go_quiet (fail)
                go_wp2
                go_roundw
                case rel => exact ⟨k9, a, _, by omega, rfl, rfl, by rw [HK9.out]; exact dF2, rfl⟩
                case measure => have := HK9.out; simp [intOf]; omega
          · have il : ¬ (k : Int) + 1 = (n : Int) := by omega
            have il2 : ((k : Int) + 1 == (n : Int)) = false := by simpa using il
            obtain ⟨k9, hk9⟩ : ∃ k9, k9 = k + 1 := ⟨_, rfl⟩
            have HK9 := Lib.hid hk9
            obtain ⟨p9, hp9⟩ : ∃ p9, l[k9]? = some p9 := ⟨l[k9]'(by rw [HL.out]; omega), List.getElem?_eq_getElem _⟩
            obtain ⟨X9, Y9, by9, n1, _, _, _, _, _, _, _, _⟩ := moves_at HPA.out HPB.out HPC.out hj.out (show a ≤ k9 by omega) (show k9 < b by omega) hp9
            obtain ⟨ad9, hd9, _, t0, t1, t2, t3, t4, t5⟩ := pl_of hrA4 n1
            injection hd9 with hd9
            subst hd9
            simp only at t1
            have i9 : IntKind.i64.wrap ((k : Int) + 1) = (k9 : Int) := by rw [IntKind.wrap_i64]; omega
            have i9b : (k9 : Int) < (n : Int) := by omega
            have il9 : ((k9 : Int) == (n : Int)) = false := by simp; omega
            have i9c : (0 : Int) ≤ (k9 : Int) := by omega
            clear hkb hl dW dBy t0 t2 t3 t4 t5 n1 hp9 hk9
            as_aux_lemma =>
              go_quiet (fail)
              go_wp2
              go_roundw
              case rel => exact ⟨k9, a, _, by omega, rfl, rfl, by rw [HK9.out]; exact dF2, rfl⟩
              case measure => have := HK9.out; simp [intOf]; omega
    · go_wp2
      go_ret
      exact ⟨rfl, below_dr hB4 _⟩
set_option maxHeartbeats 16000000 in
set_option maxRecDepth 100000 in
theorem walkN (A : Option Addr) (n c : Nat) (l : List Pc) (room : Int) (W : World) (hnc : n ≤ c) (hr : Reads W W.heap.size 6 A n (flatP l)) (h200 : n ≤ 200) (hall : ¬ (fillE l room 0 = true ∧ fillE l room 1 = true ∧ fillE l room 2 = true)) :
    Calls Try.prog 5 #[.slice A n c, .int .i64 room] W fun e W' => e = .returned (.bool true) ∧ Below W.heap.size W W' := by
  have cA := fun w => lineAwake w
  have i200 : (n : Int) ≤ 200 := by omega
  have c0 := fun w' (hb : Below W.heap.size W w') => rowsL.fill_any A n c l room 0 w' (hr.onward hb) h200 hnc
  have c1 := fun w' (hb : Below W.heap.size W w') => rowsL.fill_any A n c l room 1 w' (hr.onward hb) h200 hnc
  have c2 := fun w' (hb : Below W.heap.size W w') => rowsL.fill_any A n c l room 2 w' (hr.onward hb) h200 hnc
  have MA : ∃ m, (fillP l room 0).length = m := ⟨_, rfl⟩
  have MB : ∃ m, (fillP l room 1).length = m := ⟨_, rfl⟩
  have MC : ∃ m, (fillP l room 2).length = m := ⟨_, rfl⟩
  generalize fillP l room 0 = PA at *
  generalize fillP l room 1 = PB at *
  generalize fillP l room 2 = PC at *
  generalize fillH l room 0 = H0 at *
  generalize fillH l room 1 = H1 at *
  generalize fillH l room 2 = H2 at *
  generalize fillE l room 0 = E0 at *
  generalize fillE l room 1 = E1 at *
  generalize fillE l room 2 = E2 at *
  have HALL := Lib.hid hall
  obtain ⟨m1, hm1⟩ := MA
  obtain ⟨m2, hm2⟩ := MB
  obtain ⟨m3, hm3⟩ := MC
  have LA := Lib.hid hm1
  have LB := Lib.hid hm2
  have LC := Lib.hid hm3
  clear hall hm1 hm2 hm3
  cases E0 <;> cases E1 <;> cases E2
  case true.true.true => exact absurd ⟨rfl, rfl, rfl⟩ HALL.out
  all_goals
    go_enter Try.func5, Try.ntmps5
    go_wp2_with (first
      | (go_at_call 10; (with_reducible refine (cA _).mono ?_); rintro e w1 ⟨rfl, hb1⟩)
      | (go_at_call 11; (first
          | ((with_reducible refine (c0 _ (by with_reducible assumption)).mono ?_); rintro e w2 ⟨v1, rfl, hp1, hb⟩
             have hB2 := below_next hb1 hb
             obtain ⟨A1, k1, rfl, hrA⟩ := pls_reads hp1 LA.out
             clear hb hp1 c0)
          | ((with_reducible refine (c1 _ (by with_reducible assumption)).mono ?_); rintro e w3 ⟨v2, rfl, hp2, hb⟩
             have hB3 := below_next hB2 hb
             have hrA3 := hrA.onward hb
             obtain ⟨A2, k2, rfl, hrB⟩ := pls_reads hp2 LB.out
             clear hb hp2 c1 hrA)
          | ((with_reducible refine (c2 _ (by with_reducible assumption)).mono ?_); rintro e w4 ⟨v3, rfl, hp3, hb⟩
             have hB4 := below_next hB3 hb
             have hrA4 := hrA3.onward hb
             have hrB4 := hrB.onward hb
             obtain ⟨A3, k3, rfl, hrC⟩ := pls_reads hp3 LC.out
             clear hb hp3 c2 hrA3 hrB))))
    go_ret
    exact ⟨rfl, hB4⟩
set_option maxHeartbeats 16000000 in
set_option maxRecDepth 100000 in
theorem walkB (A : Option Addr) (n c : Nat) (room : Int) (W : World) (h200 : ¬ n ≤ 200) :
    Calls Try.prog 5 #[.slice A n c, .int .i64 room] W fun e W' => e = .returned (.bool true) ∧ Below W.heap.size W W' := by
  have cA := fun w => lineAwake w
  have i200 : ¬ (n : Int) ≤ 200 := by omega
  have i201 : (200 : Int) < (n : Int) := by omega
  go_enter Try.func5, Try.ntmps5
  go_wp2_with (go_at_call 10; (with_reducible refine (cA _).mono ?_); rintro e w1 ⟨rfl, hb1⟩)
  go_ret
  exact ⟨rfl, hb1⟩
theorem walk (A : Option Addr) (n c : Nat) (l : List Pc) (room : Int) (W : World) (_ : n ≤ 17592186043904) (hnc : n ≤ c) (hr : Reads W W.heap.size 6 A n (flatP l)) :
    Calls Try.prog 5 #[.slice A n c, .int .i64 room] W fun e W' => e = .returned (.bool true) ∧ Below W.heap.size W W' := by
  by_cases h200 : n ≤ 200
  · by_cases hall : fillE l room 0 = true ∧ fillE l room 1 = true ∧ fillE l room 2 = true
    · exact walkA A n c l room W hnc hr h200 hall
    · exact walkN A n c l room W hnc hr h200 hall
  · exact walkB A n c room W h200
end lineMoves
end Go.Proofs.Ytgglffmfkhbcgaa
