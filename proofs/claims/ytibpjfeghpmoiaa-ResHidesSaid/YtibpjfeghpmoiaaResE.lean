/- What the landed package res's Public answers. Conditions: the list lies in memory as it is read. -/
import Derived.Test.YtibpjfeghpmoiaaResD
import Derived.Deep.RegionLaw
import Derived.Deep.RegionWith
namespace Go.Proofs.Ytibpjfeghpmoiaa
open Go.ChangeShapes Go.WideShapes Go.ChangeAt Go.RowKit
set_option maxHeartbeats 8000000 in
set_option maxRecDepth 100000 in
theorem public_any (A : Option Addr) (n c : Nat) (l : List Img) (a : Int) (o : Bool) (w : World) (hr : Reads w w.heap.size 4 A n (flatI l)) (hn : n ≤ 100) :
    Calls Try.prog 17 #[.agg #[.slice A n c, .int .i64 a, .bool o]] w fun e w' => ∃ A' c', e = .returned (.agg #[.slice A' n c', .int .i64 (pubA a o), .bool o]) ∧ Reads w' w'.heap.size 4 A' n (flatI (l.map pubI)) ∧ Below w.heap.size w w' := by
  have hlen : l.length = n := by have := hr.1; rw [flatI_len] at this; omega
  have hB0 := below_al (below_al (Below.refl w.heap.size w) (.cells #[.slice A n c, .int .i64 a, .bool o] 26)) (.cells #[.slice none 0 0, .int .i64 0, .bool false] 26)
  have K1 := (Blk.new w 26 #[.slice A n c, .int .i64 a, .bool o]).alloc (.cells #[.slice none 0 0, .int .i64 0, .bool false] 26)
  have K2 := Blk.new (w.alloc (.cells #[.slice A n c, .int .i64 a, .bool o] 26)) 26 #[.slice none 0 0, .int .i64 0, .bool false]
  rw [size_al] at K2
  have u1 := fun w => pubf_any a o w
  generalize pubA a o = pa at *
  go_enter Try.func17, Try.ntmps17
  go_wp2_with (first
    | (go_at_call 22; (with_reducible refine (u1 _).mono ?_); rintro e w1 ⟨rfl, hb⟩
       have hB1 := below_next hB0 hb
       have K11 := K1.next hb
       have K21 := K2.next hb
       have c10 := K11.cell 0
       have z11 := K11.lt
       have n11 : w.heap.size ≠ w1.heap.size := Nat.ne_of_lt z11
       clear hb hB0 K1 K2))
  have hB0 := below_al hB1 (.cells #[.slice none 0 0, .int .i64 pa, .bool o] 26)
  have K2 := K21.alloc (.cells #[.slice none 0 0, .int .i64 pa, .bool o] 26)
  have K3 := Blk.new w1 26 #[.slice none 0 0, .int .i64 pa, .bool o]
  have hY0 : ImgsC (w1.alloc (.cells #[.slice none 0 0, .int .i64 pa, .bool o] 26)) w.heap.size (.slice none 0 0) [] := ⟨rfl, .inl ⟨rfl, rfl⟩⟩
  have z21 := K21.lt
  have n3 : w.heap.size + 1 ≠ w1.heap.size := Nat.ne_of_lt z21
  have hw1 : w.heap.size ≤ w1.heap.size := hB1.size
  go_loopw [13] (fun i wr => ∃ (k : Nat) (v : Value), k ≤ n ∧ i = .int .i64 k ∧ Below w.heap.size w wr ∧ Blk wr (w.heap.size + 1) 26 #[.slice none 0 0, .int .i64 0, .bool false] ∧ Blk wr w1.heap.size 26 #[v, .int .i64 pa, .bool o] ∧ ImgsC wr w.heap.size v ((l.take k).map pubI)) (fun i _ => n - (intOf i).toNat)
  case atStart => exact ⟨0, _, Nat.zero_le _, rfl, hB0, K2, K3, hY0⟩
  case round =>
    obtain ⟨k, v, hk, rfl, hBr, Kr2, Kr3, hY⟩ := hrel
    clear hB0 K2 K3 hY0 K11 K21 c10 hB1
    generalize w1.heap.size = g3 at *
    have hle := hBr.size
    have z3 := Kr3.lt
    by_cases hlt : k < n
    · have hkl : k < l.length := by omega
      obtain ⟨r, hrk⟩ : ∃ r, l[k]? = some r := ⟨l[k], List.getElem?_eq_getElem hkl⟩
      obtain ⟨ad, rfl, hab, e0, e1, e2, e3⟩ := img_of (hr.below hBr) hrk
      have HT := take_pub hrk pubI
      have u2 := fun w => pubi_any r w
      have hol : ((l.take k).map pubI).length < 400000000 := by simp; omega
      have nv := own_blk_ne (t := 26) hY Kr3 (by decide)
      have nv2 := own_blk_ne (t := 26) hY Kr2 (by decide)
      have c3 := Kr3.cell 0
      have n4 : g3 ≠ wr.heap.size := Nat.ne_of_lt z3
      generalize pubI r = p at *
      obtain ⟨rs, rw_, rh, ro⟩ := r
      obtain ⟨ps, pw, ph, po⟩ := p
      simp only at e0 e1 e2 e3 HT u2
      have hYa : ImgsC (wr.alloc (.cells #[.string rs, .int .i64 rw_, .int .i64 rh, .bool ro] 47)) w.heap.size v ((l.take k).map pubI) := World.ownsRow.alloc hY _
      have hBa := below_al hBr (.cells #[.string rs, .int .i64 rw_, .int .i64 rh, .bool ro] 47)
      have Ka3 := Kr3.alloc (.cells #[.string rs, .int .i64 rw_, .int .i64 rh, .bool ro] 47)
      have Ka2 := Kr2.alloc (.cells #[.string rs, .int .i64 rw_, .int .i64 rh, .bool ro] 47)
      clear hrk hab hr
      go_wp2
      first
      | (go_region_law (first
          | (refine step_C wb (by rfl) (.tmp 18) (.tmp 21) (by rfl) w.heap.size v ((l.take k).map pubI) ⟨ps, pw, ph, po⟩ (by rfl) hYb _ _ rfl (by rfl) hol hleb ?_; intro v' w' hY' hg
             have hB' := below_own hBb hYb hg
             have K3' := (Kb3.alloc _).grown hg (fun e => nv e.symm)
             have K2' := (Kb2.alloc _).grown hg (fun e => nv2 e.symm)
             have f3 := K3'.frozen 0
             have c3' := K3'.cell 0
             have nv' := own_blk_ne (t := 26) hY' K3' (by decide)
             clear c3 hg
             obtain ⟨A1, m1, c1, rfl⟩ := own_slice hY')
          | ((try go_simp); go_at_call 23; (with_reducible refine (u2 _).mono ?_); rintro e wb ⟨rfl, hb⟩
             have hBb := below_next hBa.drew hb
             have hYb := own_below (World.ownsRow.drew hYa) hb
             have Kb3 := Ka3.drew.next hb
             have Kb2 := Ka2.drew.next hb
             have hleb := hBb.size
             have cb3 := Kb3.cell 0
             have z5 := Kb3.lt
             have n5 : g3 ≠ wb.heap.size := Nat.ne_of_lt z5)))
      | (fail)
      all_goals
        have hB2 := below_set hB' (p := ⟨g3, 0, none⟩) hw1 (.slice A1 m1 c1)
        have K32 := K3'.set_ 0 (.slice A1 m1 c1)
        have K22 := K2'.far (p := ⟨g3, 0, none⟩) n3 (.slice A1 m1 c1)
        have hY2 := ownsRow_setCell_other hY' (a := ⟨g3, 0, none⟩) nv' (.slice A1 m1 c1)
        rw [← HT] at hY2
        go_wp2
        go_roundw
        case rel => exact ⟨k + 1, .slice A1 m1 c1, by omega, by go_num, hB2, K22, K32, hY2⟩
        case measure => simp [intOf]; omega
    · obtain rfl : k = n := by omega
      have htk : l.take k = l := List.take_of_length_le (by omega)
      rw [htk] at hY
      have c30 := Kr3.cell 0
      have c31 := Kr3.cell 1
      have c32 := Kr3.cell 2
      have f20 := Kr2.frozen 0
      have f21 := Kr2.frozen 1
      have f22 := Kr2.frozen 2
      have c20 := Kr2.cell 0
      have c21 := Kr2.cell 1
      have c22 := Kr2.cell 2
      have nv2 := own_blk_ne (t := 26) hY Kr2 (by decide)
      have hlm : (l.map pubI).length = k := by simp; omega
      obtain ⟨A', c', rfl⟩ := own_form' hY
      rw [hlm] at c30
      go_wp2
      refine bodyPost_ret (v := .agg #[.slice A' k c', .int .i64 pa, .bool o]) (by simp [results, Try.results17, go_sem, c20, c21, c22]) rfl ⟨A', c', rfl, ?_, ?_⟩
      · have hY3 := ownsRow_setCell_other (ownsRow_setCell_other (ownsRow_setCell_other hY (a := ⟨w.heap.size + 1, 0, none⟩) nv2 (.slice A' k c')) (a := ⟨w.heap.size + 1, 1, none⟩) nv2 (.int .i64 pa)) (a := ⟨w.heap.size + 1, 2, none⟩) nv2 (.bool o)
        rw [hlm] at hY3
        exact Reads.of_own hY3
      · exact below_set (below_set (below_set hBr (by show w.heap.size ≤ w.heap.size + 1; omega) _) (by show w.heap.size ≤ w.heap.size + 1; omega) _) (by show w.heap.size ≤ w.heap.size + 1; omega) _
end Go.Proofs.Ytibpjfeghpmoiaa
