/- What the landed package rect's Union answers. Conditions: the list lies in memory as it is read. -/
import Derived.Test.YtabijoohoofogaaRectCodeC
import Derived.Test.YtabijoohoofogaaRx2D
import Derived.Test.YtabijoohoofogaaOpen
namespace Go.Proofs.Ytabijoohoofogaa
open Go.ChangeShapes Go.WideShapes Go.ChangeAt Go.RowKit
/-- What the code begins with. -/
def acc0 : Acc := ⟨1099511627776, 1099511627776, -1099511627776, -1099511627776, true⟩
def accC (l : List Plc) : Acc := l.foldl un1 acc0
theorem accC_snoc (l : List Plc) (r : Plc) : accC (l ++ [r]) = un1 (accC l) r := by unfold accC; rw [List.foldl_append]; rfl
theorem add2_lo (a b : Int) : -1099511627776 ≤ add2 a b := cl_lo _
theorem acc0_un (r : Plc) (h : mayB r = true) : un1 acc0 r = un0 r := by
  have m := mayB_iff.1 h
  have h1 := add2_lo r.x r.w
  have h2 := add2_lo r.y r.h
  unfold un1 un0 acc0
  simp only [Bool.true_and, Acc.mk.injEq]
  refine ⟨by omega, by omega, by omega, by omega, trivial⟩
theorem accC_all {l : List Plc} (hl : l ≠ []) (h : l.all mayB = true) : accC l = accOf l := by
  cases l with
  | nil => exact absurd rfl hl
  | cons r t =>
    rw [List.all_cons, Bool.and_eq_true] at h
    show t.foldl un1 (un1 acc0 r) = t.foldl un1 (un0 r)
    rw [acc0_un r h.1]
theorem unionF_C {l : List Plc} (hl : l ≠ []) (h : l.all mayB = true) : unionF l = unD (accC l) := by rw [accC_all hl h, unionF_acc hl h]
theorem tally_two (c o1 o2 : Bool) : (!c || !o1 || !o2) = !(c && (o1 && o2)) := by cases c <;> cases o1 <;> cases o2 <;> rfl
theorem tly_eq {w : World} {g : Nat} {c d : Bool} (h : Tly w g c) (e : c = d) : Tly w g d := e ▸ h
theorem reads_own {w : World} {B n : Nat} {A : Option Addr} {xs : List Value} (h : Reads w B 4 A n xs) : Reads w w.heap.size 4 A n xs := by
  refine ⟨h.1, fun hn => ?_⟩
  obtain ⟨ad, e, _, hc⟩ := h.2 hn
  refine ⟨ad, e, ?_, hc⟩
  have hl : 0 < xs.length := by have := h.1; omega
  have := lt_of_cell (hc 0 _ (List.getElem?_eq_getElem hl))
  rwa [block_of_add] at this
theorem union_none (c : Nat) (A : Option Addr) (w : World) :
    Calls Try.prog 16 #[.slice A 0 c] w fun e w' => e = .returned (.tuple #[.agg #[.int .i64 0, .int .i64 0, .int .i64 0, .int .i64 0], .bool true]) ∧ Below w.heap.size w w' := by
  go_enter Try.func16, Try.ntmps16
  go_wp2
  refine bodyPost_ret (v := .tuple #[.agg #[.int .i64 0, .int .i64 0, .int .i64 0, .int .i64 0], .bool true]) (by simp [results, Try.results16, go_sem]) rfl ⟨rfl, ?_⟩
  first | exact below_al (Below.refl _ _) _ | exact below_set4 (below_al (Below.refl _ _) _) (Nat.le_refl _) _ _ _ _
set_option maxHeartbeats 16000000 in
set_option maxRecDepth 100000 in
theorem union_some (A : Option Addr) (n c B : Nat) (l : List Plc) (w : World) (hr0 : Reads w B 4 A n (flat l)) (hBw : B ≤ w.heap.size) (hn : n ≤ 17592186043904) (h0 : 0 < n) :
    Calls Try.prog 16 #[.slice A n c] w fun e w' => e = .returned (.tuple #[(unionF l).1.v, .bool (unionF l).2]) ∧ Below w.heap.size w w' := by
  have hr := hr0.more hBw
  have hlen : l.length = n := by have := hr.1; rw [flat_length] at this; omega
  have hne : l ≠ [] := by intro e; subst e; simp at hlen; omega
  obtain ⟨R, hR⟩ : ∃ R, R = unionF l := ⟨_, rfl⟩
  rw [← hR]
  have HR := Lib.hid hR
  clear hR
  have h0'' : ((n : Int) == 0) = false := by rw [beq_eq_false_iff_ne]; omega
  go_enter Try.func16, Try.ntmps16
  go_wp2
  have T0 : Tly ((w.alloc (.cells #[.int .i64 0, .int .i64 0, .int .i64 0, .int .i64 0] 23)).alloc (.cells #[.bool false] 56)) (w.heap.size + 1) false := by
    have := Blk.new (w.alloc (.cells #[.int .i64 0, .int .i64 0, .int .i64 0, .int .i64 0] 23)) 56 #[.bool false]
    rwa [size_al] at this
  have B0 := below_al (below_al (Below.refl w.heap.size w) (.cells #[.int .i64 0, .int .i64 0, .int .i64 0, .int .i64 0] 23)) (.cells #[.bool false] 56)
  have K0 := (Blk.new w 23 #[.int .i64 0, .int .i64 0, .int .i64 0, .int .i64 0]).alloc (.cells #[.bool false] 56)
  go_loopw [6, 7, 8, 9, 20] (fun x y u v i wr => ∃ k : Nat, k ≤ n ∧ i = .int .i64 k ∧ x = .int .i64 (accC (l.take k)).x ∧ y = .int .i64 (accC (l.take k)).y ∧ u = .int .i64 (accC (l.take k)).u ∧ v = .int .i64 (accC (l.take k)).v ∧
    Hid ((l.take k).all mayB = true) ∧ Below w.heap.size w wr ∧ Blk wr w.heap.size 23 #[.int .i64 0, .int .i64 0, .int .i64 0, .int .i64 0] ∧ Tly wr (w.heap.size + 1) (!(accC (l.take k)).is)) (fun _ _ _ _ i _ => n - (intOf i).toNat)
  case atStart => exact ⟨0, Nat.zero_le _, rfl, rfl, rfl, rfl, rfl, rfl, B0, K0, T0⟩
  case round =>
    obtain ⟨k, hk, rfl, rfl, rfl, rfl, rfl, HA, hBr, Kr, Tr⟩ := hrel
    clear T0 B0 K0
    by_cases hlt : k < n
    · have hkl : k < l.length := by omega
      obtain ⟨r, hrk⟩ : ∃ r, l[k]? = some r := ⟨l[k], List.getElem?_eq_getElem hkl⟩
      obtain ⟨ad, rfl, hab, e0, e1, e2, e3⟩ := place_of (hr.below hBr) hrk
      have hmem := List.mem_of_getElem? hrk
      have c1 := fun w => may_any r w
      cases hm : mayB r with
      | false =>
        have hno := unionF_no hmem hm
        rw [hm] at c1
        obtain ⟨R1, R2⟩ := R
        obtain ⟨rfl, rfl⟩ : R1 = Plc.zero ∧ R2 = false := by have := HR.out; rw [hno] at this; injection this with a b; exact ⟨a, b⟩
        obtain ⟨rx, ry, rw_, rh⟩ := r
        clear hrk hmem hm hno
        go_wp2_with (first
          | (go_at_call 20; (with_reducible refine (c1 _).mono ?_); rintro e w1 ⟨rfl, hb⟩
             have hB1 := below_next (below_al hBr _) hb
             have Ks1 := (Kr.alloc _).next hb
             clear hb
             obtain ⟨cs0, cs1, cs2, cs3⟩ := blk4 Ks1
             obtain ⟨f0, f1, f2, f3⟩ := fz4 Ks1))
        refine bodyPost_ret (v := .tuple #[.agg #[.int .i64 0, .int .i64 0, .int .i64 0, .int .i64 0], .bool false]) (by simp [results, Try.results16, go_sem, cs0, cs1, cs2, cs3]) rfl ⟨rfl, below_set4 hB1 (Nat.le_refl _) _ _ _ _⟩
      | true =>
        have c2 := fun w => add_any r.x r.w w
        have c3 := fun w => add_any r.y r.h w
        rw [hm] at c1
        have HA' : Hid ((l.take (k + 1)).all mayB = true) := by
          show (l.take (k + 1)).all mayB = true
          rw [List.take_add_one, hrk, List.all_append, HA.out]
          simp [hm]
        have HN : Hid (accC (l.take (k + 1)) = ⟨min (accC (l.take k)).x r.x, min (accC (l.take k)).y r.y, max (accC (l.take k)).u (add2 r.x r.w), max (accC (l.take k)).v (add2 r.y r.h), (accC (l.take k)).is && (addOk r.x r.w && addOk r.y r.h)⟩) := by
          show accC (l.take (k + 1)) = _
          rw [List.take_add_one, hrk]
          exact accC_snoc _ _
        generalize add2 r.x r.w = p at *
        generalize addOk r.x r.w = o1 at *
        generalize add2 r.y r.h = q at *
        generalize addOk r.y r.h = o2 at *
        generalize accC (l.take k) = a at *
        obtain ⟨ax, ay, au, av, ai⟩ := a
        obtain ⟨rx, ry, rw_, rh⟩ := r
        simp only at c2 c3 HN Tr
        clear hrk hmem hm hr hr0
        go_wp2_with (first
          | (go_at_call 20; (with_reducible refine (c1 _).mono ?_); rintro e w1 ⟨rfl, hb⟩
             have hB1 := below_next (below_al hBr _) hb
             have Ks1 := (Kr.alloc _).next hb
             have T1 : Tly w1 (w.heap.size + 1) (!ai) := Blk.next (Blk.alloc Tr _) hb
             have Kr1 := (Blk.new wr 23 _).next hb
             clear hb
             have zz := Tr.lt
             obtain ⟨cr0, cr1, cr2, cr3⟩ := blk4 Kr1))
        go_quiet (fail)
        have T2 := tly_dn T1 nq
        have Ks2 := Ks1.drewN nq
        have Kr2 := Kr1.drewN nq
        have hB2 := below_dr hB1 nq
        have zg : w.heap.size + 1 < wr.heap.size := Tr.lt
        clear T1 Ks1 Kr1 hB1 Kr Tr hBr cr0 cr1 cr2 cr3 zz c1 e0 e1 e2 e3
        generalize w1.drewN nq = w2 at *
        generalize wr.heap.size = m at *
        obtain ⟨cr0, cr1, cr2, cr3⟩ := blk4 Kr2
        have q1 : m ≠ w.heap.size + 1 := by omega
        have q2 : w.heap.size ≠ w.heap.size + 1 := by omega
        go_wp2_with (first
          | (go_at_call 36; (first | (with_reducible refine (c2 _).mono ?_) | (with_reducible refine (c3 _).mono ?_)); rintro e w9 ⟨rfl, rfl⟩)
          | (go_at_call 35; (with_reducible refine (number_any _ _ _ _ _ (by repeat (first | (with_reducible assumption) | (with_reducible apply tly_set)))).mono ?_); rintro e w9 ⟨rfl, rfl⟩))
        have T3 := tly_eq (tly_set (tly_set T2 (!ai || !o1)) (!ai || !o1 || !o2)) (tally_two ai o1 o2)
        have hwg : w.heap.size ≤ w.heap.size + 1 := by omega
        have K3 := (Ks2.far (p := ⟨w.heap.size + 1, 0, none⟩) q2 (.bool (!ai || !o1))).far (p := ⟨w.heap.size + 1, 0, none⟩) q2 (.bool (!ai || !o1 || !o2))
        have B3 := below_set (below_set hB2 (p := ⟨w.heap.size + 1, 0, none⟩) hwg (.bool (!ai || !o1))) (p := ⟨w.heap.size + 1, 0, none⟩) hwg (.bool (!ai || !o1 || !o2))
        go_roundw
        case rel => exact ⟨k + 1, by omega, by go_num, by rw [HN.out], by rw [HN.out], by rw [HN.out], by rw [HN.out], HA', B3, K3, by rw [HN.out]; exact T3⟩
        case measure => simp [intOf]; omega
    · obtain rfl : k = n := by omega
      have htk : l.take k = l := List.take_of_length_le (by omega)
      rw [htk] at HA Tr
      rw [htk]
      have HU := unionF_C hne HA.out
      have HRa := HR.out
      rw [HU] at HRa
      unfold unD at HRa
      have c2 := fun w => sub_any (accC l).u (accC l).x w
      have c3 := fun w => sub_any (accC l).v (accC l).y w
      generalize sub2 (accC l).u (accC l).x = p at *
      generalize subOk (accC l).u (accC l).x = o1 at *
      generalize sub2 (accC l).v (accC l).y = q at *
      generalize subOk (accC l).v (accC l).y = o2 at *
      generalize (accC l) = a at *
      obtain ⟨ax, ay, au, av, ai⟩ := a
      simp only at c2 c3 HRa Tr
      have zg := Tr.lt
      have hwg : w.heap.size ≤ w.heap.size + 1 := by omega
      have q2 : w.heap.size ≠ w.heap.size + 1 := by omega
      have HR' := Lib.hid HRa
      clear hr hr0 HR HA HU HRa htk
      go_upto_region 16 with (fail)
      go_cut [12] (fun s12 wx => ∃ m : Nat, s12 = .pointer (some ⟨m, 0, none⟩) ∧ w.heap.size + 1 < m ∧ Tly wx (w.heap.size + 1) (!(ai && (o1 && o2))) ∧ Blk wx m 23 #[.int .i64 ax, .int .i64 ay, .int .i64 p, .int .i64 q] ∧ Blk wx w.heap.size 23 #[.int .i64 0, .int .i64 0, .int .i64 0, .int .i64 0] ∧ Below w.heap.size w wx)
      case first =>
        go_wp2_with (first
          | (go_at_call 38; (first | (with_reducible refine (c2 _).mono ?_) | (with_reducible refine (c3 _).mono ?_)); rintro e w9 ⟨rfl, rfl⟩)
          | (go_at_call 35; (with_reducible refine (number_any _ _ _ _ _ (by repeat (first | (with_reducible assumption) | (with_reducible apply tly_set)))).mono ?_); rintro e w9 ⟨rfl, rfl⟩))
        have T3 := tly_eq (tly_set (tly_set Tr (!ai || !o1)) (!ai || !o1 || !o2)) (tally_two ai o1 o2)
        have K3 := (Kr.far (p := ⟨w.heap.size + 1, 0, none⟩) q2 (.bool (!ai || !o1))).far (p := ⟨w.heap.size + 1, 0, none⟩) q2 (.bool (!ai || !o1 || !o2))
        have B3 := below_set (below_set hBr (p := ⟨w.heap.size + 1, 0, none⟩) hwg (.bool (!ai || !o1))) (p := ⟨w.heap.size + 1, 0, none⟩) hwg (.bool (!ai || !o1 || !o2))
        have M3 := Blk.new ((wr.setCell ⟨w.heap.size + 1, 0, none⟩ (.bool (!ai || !o1))).setCell ⟨w.heap.size + 1, 0, none⟩ (.bool (!ai || !o1 || !o2))) 23 #[.int .i64 ax, .int .i64 ay, .int .i64 p, .int .i64 q]
        simp only [size_set] at M3
        go_meet
        exact ⟨wr.heap.size, rfl, zg, tly_al T3 _, M3, K3.alloc _, below_al B3 _⟩
      case rest =>
        obtain ⟨m, rfl, hm, T3, M3, R3, B3⟩ := hcut
        obtain rfl := HR'.out
        clear Tr hBr Kr c2 c3
        have q3 : m ≠ w.heap.size := by omega
        obtain ⟨m0, m1, m2, m3⟩ := blk4 M3
        obtain ⟨cr0, cr1, cr2, cr3⟩ := blk4 R3
        obtain ⟨f0, f1, f2, f3⟩ := fz4 R3
        go_wp2
        go_region_held3 (fun W' => W'.cell? ⟨m, 0, none⟩ = some (.int .i64 ax) ∧ W'.cell? ⟨m, 1, none⟩ = some (.int .i64 ay) ∧ W'.cell? ⟨m, 2, none⟩ = some (.int .i64 p) ∧ W'.cell? ⟨m, 3, none⟩ = some (.int .i64 q))
          (first | (with_reducible assumption) | (with_reducible exact ⟨m0, m1, m2, m3⟩) | exact blk4 (t := 23) (by repeat (first | (with_reducible exact M3) | (with_reducible apply Blk.drew) | (with_reducible apply Blk.drewN) | (with_reducible refine Blk.far ?_ (by exact q3) _))))
          (first | (go_at_call 34; (with_reducible refine (exact_any _ _ _ (by repeat (first | (with_reducible assumption) | (with_reducible apply tly_dr)))).mono ?_); rintro e w9 ⟨rfl, rfl⟩))
        all_goals
          go_wp2
          exact bodyPost_ret (v := .tuple #[.agg #[.int .i64 ax, .int .i64 ay, .int .i64 p, .int .i64 q], .bool (ai && (o1 && o2))]) (by simp [results, Try.results16, go_sem, cr0, cr1, cr2, cr3]) rfl ⟨rfl, (below_set4 B3 (Nat.le_refl _) _ _ _ _).drew⟩
theorem union_any : UnionC := by
  intro A n c B l w hr hn
  rcases Nat.eq_zero_or_pos n with rfl | h0
  · obtain rfl : l = [] := by
      have := hr.1
      rw [flat_length] at this
      exact List.eq_nil_of_length_eq_zero (by omega)
    exact union_none c A w
  · exact union_some A n c w.heap.size l w (reads_own hr) (Nat.le_refl _) hn h0
end Go.Proofs.Ytabijoohoofogaa
