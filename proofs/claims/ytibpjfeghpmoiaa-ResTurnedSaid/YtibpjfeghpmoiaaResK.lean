/- What the document's own Public of layer 13 answers. Conditions: the list lies in memory as it is read. -/
import Derived.Test.YtibpjfeghpmoiaaResD
namespace Go.Proofs.Ytibpjfeghpmoiaa
open Go.ChangeShapes Go.WideShapes Go.ChangeAt Go.RowKit
set_option maxHeartbeats 16000000 in
set_option maxRecDepth 100000 in
theorem rpublic_any (A : Option Addr) (n c : Nat) (l : List Img) (a : Int) (o : Bool) (w : World) (hr : Reads w w.heap.size 4 A n (flatI l)) (hn : n ≤ 100) :
    Calls Try.prog 18 #[.agg #[.slice A n c, .int .i64 a, .bool o]] w fun e w' => ∃ A' c', e = .returned (.agg #[.slice A' n c', .int .i64 (pubA a o), .bool o]) ∧ Reads w' w'.heap.size 4 A' n (flatI (l.map pubI)) ∧ Below w.heap.size w w' := by
  have hlen : l.length = n := by have := hr.1; rw [flatI_len] at this; omega
  obtain ⟨pa, hpa⟩ : ∃ pa, pa = pubA a o := ⟨_, rfl⟩
  rw [← hpa]
  have HP := Lib.hid hpa
  clear hpa
  have hB0 := below_al (below_al (below_al (Below.refl w.heap.size w) (.cells #[.slice A n c, .int .i64 a, .bool o] 31)) (.cells #[.slice none 0 0, .int .i64 0, .bool false] 31)) (.cells #[.slice none 0 0, .int .i64 0, .bool false] 31)
  have K1 := ((Blk.new w 31 #[.slice A n c, .int .i64 a, .bool o]).alloc (.cells #[.slice none 0 0, .int .i64 0, .bool false] 31)).alloc (.cells #[.slice none 0 0, .int .i64 0, .bool false] 31)
  have K2 := (Blk.new (w.alloc (.cells #[.slice A n c, .int .i64 a, .bool o] 31)) 31 #[.slice none 0 0, .int .i64 0, .bool false]).alloc (.cells #[.slice none 0 0, .int .i64 0, .bool false] 31)
  have K3 := Blk.new ((w.alloc (.cells #[.slice A n c, .int .i64 a, .bool o] 31)).alloc (.cells #[.slice none 0 0, .int .i64 0, .bool false] 31)) 31 #[.slice none 0 0, .int .i64 0, .bool false]
  rw [size_al] at K2
  rw [size_al, size_al] at K3
  have hY0 : ImgsR (((w.alloc (.cells #[.slice A n c, .int .i64 a, .bool o] 31)).alloc (.cells #[.slice none 0 0, .int .i64 0, .bool false] 31)).alloc (.cells #[.slice none 0 0, .int .i64 0, .bool false] 31)) w.heap.size (.slice none 0 0) [] := ⟨rfl, .inl ⟨rfl, rfl⟩⟩
  go_enter Try.func18, Try.ntmps18
  go_wp2
  go_loopw [4] (fun i wr => ∃ (k : Nat) (v : Value), k ≤ n ∧ i = .int .i64 k ∧ Below w.heap.size w wr ∧ Blk wr w.heap.size 31 #[.slice A n c, .int .i64 a, .bool o] ∧ Blk wr (w.heap.size + 1) 31 #[.slice none 0 0, .int .i64 0, .bool false] ∧ Blk wr (w.heap.size + 1 + 1) 31 #[v, .int .i64 0, .bool false] ∧ ImgsR wr w.heap.size v ((l.take k).map pubI)) (fun i _ => n - (intOf i).toNat)
  case atStart => exact ⟨0, _, Nat.zero_le _, rfl, hB0, K1, K2, K3, hY0⟩
  case round =>
    obtain ⟨k, v, hk, rfl, hBr, Kr1, Kr2, Kr3, hY⟩ := hrel
    clear hB0 K1 K2 K3 hY0
    have hle := hBr.size
    have z1 := Kr1.lt
    have z3 := Kr3.lt
    have q0 := Kr1.cell 0
    by_cases hlt : k < n
    · have hkl : k < l.length := by omega
      obtain ⟨r, hrk⟩ : ∃ r, l[k]? = some r := ⟨l[k], List.getElem?_eq_getElem hkl⟩
      obtain ⟨ad, rfl, hab, e0, e1, e2, e3⟩ := img_of (hr.below hBr) hrk
      have HT := take_pub hrk pubI
      have hol : ((l.take k).map pubI).length < 400000000 := by simp; omega
      have nv := own_blk_ne (t := 31) hY Kr3 (by decide)
      have nv2 := own_blk_ne (t := 31) hY Kr2 (by decide)
      have nv1 := own_blk_ne (t := 31) hY Kr1 (by decide)
      have c3 := Kr3.cell 0
      have n1 : w.heap.size ≠ wr.heap.size := Nat.ne_of_lt z1
      have n3 : w.heap.size + 1 + 1 ≠ wr.heap.size := Nat.ne_of_lt z3
      have n32 : w.heap.size + 1 ≠ w.heap.size + 1 + 1 := by omega
      have n31 : w.heap.size ≠ w.heap.size + 1 + 1 := by omega
      have n20 : w.heap.size + 1 ≠ wr.heap.size := Nat.ne_of_lt Kr2.lt
      have hvx : v.ownBlock ≠ some wr.heap.size := fun h => absurd (hY.lt _ h).2 (by omega)
      obtain ⟨rs, rw_, rh, ro⟩ := r
      simp only at e0 e1 e2 e3
      cases ro
      · have hp : pubI ⟨rs, rw_, rh, false⟩ = ⟨rs, 0, 0, false⟩ := rfl
        rw [hp] at HT
        clear hp hrk
        have hYa : ImgsR (wr.alloc (.cells #[.string rs, .int .i64 0, .int .i64 0, .bool false] 49)) w.heap.size v ((l.take k).map pubI) := World.ownsRow.alloc hY _
        have hBa := below_al hBr (.cells #[.string rs, .int .i64 0, .int .i64 0, .bool false] 49)
        have Ka3 := Kr3.alloc (.cells #[.string rs, .int .i64 0, .int .i64 0, .bool false] 49)
        have Ka2 := Kr2.alloc (.cells #[.string rs, .int .i64 0, .int .i64 0, .bool false] 49)
        have Ka1 := Kr1.alloc (.cells #[.string rs, .int .i64 0, .int .i64 0, .bool false] 49)
        have hlea : w.heap.size ≤ (wr.alloc (.cells #[.string rs, .int .i64 0, .int .i64 0, .bool false] 49)).heap.size := hBa.size
        have hwr : w.heap.size ≤ wr.heap.size := hle
        have Kb3 := Ka3.alloc (.cells #[.string rs, .int .i64 0, .int .i64 0, .bool false] 49)
        have Kb2 := Ka2.alloc (.cells #[.string rs, .int .i64 0, .int .i64 0, .bool false] 49)
        have Kb1 := Ka1.alloc (.cells #[.string rs, .int .i64 0, .int .i64 0, .bool false] 49)
        go_wp2_with (first
          | (at_builtin; refine wpList_R (wr.alloc (.cells #[.string rs, .int .i64 0, .int .i64 0, .bool false] 49)) rfl (.tmp 25) (.tmp 27) rfl w.heap.size v ((l.take k).map pubI) ⟨rs, 0, 0, false⟩ rfl hYa _ _ (size_al wr _) rfl hol hlea ?_; intro v' w' hY' hg
             have hB' := below_own hBa hYa hg
             have K3' := Kb3.grown hg (fun e => nv e.symm)
             have K2' := Kb2.grown hg (fun e => nv2 e.symm)
             have K1' := Kb1.grown hg (fun e => nv1 e.symm)
             have f3 := K3'.frozen 0
             have c3' := K3'.cell 0
             clear c3
             have nv' := own_blk_ne (t := 31) hY' K3' (by decide)
             obtain ⟨A1, m1, c1, rfl⟩ := own_slice hY'))
        have hB2 := below_set hB' (p := ⟨w.heap.size + 1 + 1, 0, none⟩) (by show w.heap.size ≤ w.heap.size + 1 + 1; omega) (.slice A1 m1 c1)
        have K32 := K3'.set_ 0 (.slice A1 m1 c1)
        have K22 := K2'.far (p := ⟨w.heap.size + 1 + 1, 0, none⟩) n32 (.slice A1 m1 c1)
        have K12 := K1'.far (p := ⟨w.heap.size + 1 + 1, 0, none⟩) n31 (.slice A1 m1 c1)
        have hY2 := ownsRow_setCell_other hY' (a := ⟨w.heap.size + 1 + 1, 0, none⟩) nv' (.slice A1 m1 c1)
        rw [← HT] at hY2
        go_roundw
        case rel => exact ⟨k + 1, .slice A1 m1 c1, by omega, by go_num, hB2, K12, K22, K32, hY2⟩
        case measure => simp [intOf]; omega
      · have hp : pubI ⟨rs, rw_, rh, true⟩ = ⟨rs, rw_, rh, true⟩ := rfl
        rw [hp] at HT
        clear hp hrk
        have hYa : ImgsR (wr.alloc (.cells #[.string rs, .int .i64 rw_, .int .i64 rh, .bool true] 49)) w.heap.size v ((l.take k).map pubI) := World.ownsRow.alloc hY _
        have hBa := below_al hBr (.cells #[.string rs, .int .i64 rw_, .int .i64 rh, .bool true] 49)
        have Ka3 := Kr3.alloc (.cells #[.string rs, .int .i64 rw_, .int .i64 rh, .bool true] 49)
        have Ka2 := Kr2.alloc (.cells #[.string rs, .int .i64 rw_, .int .i64 rh, .bool true] 49)
        have Ka1 := Kr1.alloc (.cells #[.string rs, .int .i64 rw_, .int .i64 rh, .bool true] 49)
        have hlea : w.heap.size ≤ (wr.alloc (.cells #[.string rs, .int .i64 rw_, .int .i64 rh, .bool true] 49)).heap.size := hBa.size
        have hwr : w.heap.size ≤ wr.heap.size := hle
        have Kb3 := Ka3.alloc (.cells #[.string rs, .int .i64 rw_, .int .i64 rh, .bool true] 49)
        have Kb2 := Ka2.alloc (.cells #[.string rs, .int .i64 rw_, .int .i64 rh, .bool true] 49)
        have Kb1 := Ka1.alloc (.cells #[.string rs, .int .i64 rw_, .int .i64 rh, .bool true] 49)
        go_wp2_with (first
          | (at_builtin; refine wpList_R (wr.alloc (.cells #[.string rs, .int .i64 rw_, .int .i64 rh, .bool true] 49)) rfl (.tmp 25) (.tmp 27) rfl w.heap.size v ((l.take k).map pubI) ⟨rs, rw_, rh, true⟩ rfl hYa _ _ (size_al wr _) rfl hol hlea ?_; intro v' w' hY' hg
             have hB' := below_own hBa hYa hg
             have K3' := Kb3.grown hg (fun e => nv e.symm)
             have K2' := Kb2.grown hg (fun e => nv2 e.symm)
             have K1' := Kb1.grown hg (fun e => nv1 e.symm)
             have f3 := K3'.frozen 0
             have c3' := K3'.cell 0
             clear c3
             have nv' := own_blk_ne (t := 31) hY' K3' (by decide)
             obtain ⟨A1, m1, c1, rfl⟩ := own_slice hY'))
        have hB2 := below_set hB' (p := ⟨w.heap.size + 1 + 1, 0, none⟩) (by show w.heap.size ≤ w.heap.size + 1 + 1; omega) (.slice A1 m1 c1)
        have K32 := K3'.set_ 0 (.slice A1 m1 c1)
        have K22 := K2'.far (p := ⟨w.heap.size + 1 + 1, 0, none⟩) n32 (.slice A1 m1 c1)
        have K12 := K1'.far (p := ⟨w.heap.size + 1 + 1, 0, none⟩) n31 (.slice A1 m1 c1)
        have hY2 := ownsRow_setCell_other hY' (a := ⟨w.heap.size + 1 + 1, 0, none⟩) nv' (.slice A1 m1 c1)
        rw [← HT] at hY2
        go_roundw
        case rel => exact ⟨k + 1, .slice A1 m1 c1, by omega, by go_num, hB2, K12, K22, K32, hY2⟩
        case measure => simp [intOf]; omega
    · obtain rfl : k = n := by omega
      have htk : l.take k = l := List.take_of_length_le (by omega)
      rw [htk] at hY
      have q1 := Kr1.cell 1
      have q2 := Kr1.cell 2
      have c31 := Kr3.cell 1
      have c32 := Kr3.cell 2
      have f30 := Kr3.frozen 0
      have f31 := Kr3.frozen 1
      have f32 := Kr3.frozen 2
      have f20 := Kr2.frozen 0
      have f21 := Kr2.frozen 1
      have f22 := Kr2.frozen 2
      have c20 := Kr2.cell 0
      have c21 := Kr2.cell 1
      have c22 := Kr2.cell 2
      have n32 : w.heap.size + 1 ≠ w.heap.size + 1 + 1 := by omega
      have n31 : w.heap.size ≠ w.heap.size + 1 + 1 := by omega
      have hlm : (l.map pubI).length = k := by simp; omega
      have c30 := Kr3.cell 0
      obtain ⟨A', c', rfl⟩ := own_form' hY
      rw [hlm] at c30
      have hYk : wr.ownsRow w.heap.size 49 4 (.slice A' k c') k (flatI (l.map pubI)) := by
        have h := hY
        unfold ImgsR at h
        rw [hlm] at h
        exact h
      rw [hlm] at Kr3
      have nv2 := own_blk_ne (t := 31) hYk Kr2 (by decide)
      have nv3 := own_blk_ne (t := 31) hYk Kr3 (by decide)
      cases o
      · obtain rfl : pa = 0 := HP.out
        go_wp2
        refine bodyPost_ret (v := .agg #[.slice A' k c', .int .i64 0, .bool false]) (by simp [results, Try.results18, go_sem, c20, c21, c22]) rfl ⟨A', c', rfl, ?_, ?_⟩
        · refine Reads.of_own (base := w.heap.size) (e := 49) (c := c') ?_
          repeat (first | (with_reducible refine ownsRow_setCell_other ?_ (by first | exact nv2 | exact nv3) _) | (with_reducible exact hYk))
        · repeat (first | (with_reducible refine below_set ?_ (by dsimp only; omega) _) | (with_reducible exact hBr))
      · obtain rfl : pa = a := HP.out
        go_wp2
        refine bodyPost_ret (v := .agg #[.slice A' k c', .int .i64 pa, .bool true]) (by simp [results, Try.results18, go_sem, c20, c21, c22]) rfl ⟨A', c', rfl, ?_, ?_⟩
        · refine Reads.of_own (base := w.heap.size) (e := 49) (c := c') ?_
          repeat (first | (with_reducible refine ownsRow_setCell_other ?_ (by first | exact nv2 | exact nv3) _) | (with_reducible exact hYk))
        · repeat (first | (with_reducible refine below_set ?_ (by dsimp only; omega) _) | (with_reducible exact hBr))
end Go.Proofs.Ytibpjfeghpmoiaa
