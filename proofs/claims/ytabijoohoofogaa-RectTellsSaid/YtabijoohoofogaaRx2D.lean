/- What the document's own Union of layer 2 answers. Conditions: the list lies in memory as it is read. -/
import Derived.Test.YtabijoohoofogaaRx2A
namespace Go.Proofs.Ytabijoohoofogaa
open Go.ChangeShapes Go.WideShapes Go.ChangeAt Go.RowKit
/-- The cells of the place number k of a list that lies in memory, as the walk spells them. -/
theorem place_of {w : World} {B n k : Nat} {A : Option Addr} {l : List Plc} {r : Plc} (h : Reads w B 4 A n (flat l)) (hk : l[k]? = some r) :
    ∃ ad, A = some ad ∧ ad.block < B ∧ w.cell? (ad.add (k * 4)) = some (.int .i64 r.x) ∧ w.cell? ⟨(ad.add (k * 4)).block, (ad.add (k * 4)).off + 1, none⟩ = some (.int .i64 r.y) ∧
      w.cell? ⟨(ad.add (k * 4)).block, (ad.add (k * 4)).off + 2, none⟩ = some (.int .i64 r.w) ∧ w.cell? ⟨(ad.add (k * 4)).block, (ad.add (k * 4)).off + 3, none⟩ = some (.int .i64 r.h) := by
  have hl : l.length = n := by have := h.1; rw [flat_length] at this; omega
  have hkl := (List.getElem?_eq_some_iff.1 hk).1
  obtain ⟨ad, e, hb, hc⟩ := h.2 (by omega)
  obtain ⟨f0, f1, f2, f3⟩ := flat_at l k r hk
  rw [Nat.mul_comm] at f0 f1 f2 f3
  refine ⟨ad, e, hb, hc _ _ f0, ?_, ?_, ?_⟩
  · have := hc _ _ f1; rwa [← add_of_add, add_one] at this
  · have := hc _ _ f2; rwa [← add_of_add, add_one] at this
  · have := hc _ _ f3; rwa [← add_of_add, add_one] at this
def accOf : List Plc → Acc
  | [] => ⟨0, 0, 0, 0, true⟩
  | r :: t => t.foldl un1 (un0 r)
theorem accOf_first (r : Plc) : accOf [r] = un0 r := rfl
theorem accOf_snoc (l : List Plc) (r : Plc) (h : l ≠ []) : accOf (l ++ [r]) = un1 (accOf l) r := by
  cases l with
  | nil => exact absurd rfl h
  | cons s t => show (t ++ [r]).foldl un1 (un0 s) = _; rw [List.foldl_append]; rfl
theorem unionF_acc {l : List Plc} (hl : l ≠ []) (h : l.all mayB = true) : unionF l = unD (accOf l) := by
  cases l with
  | nil => exact absurd rfl hl
  | cons r t => rw [unionF_cons, h]; rfl
theorem unionF_no {l : List Plc} {r : Plc} (hr : r ∈ l) (h : mayB r = false) : unionF l = (.zero, false) := by
  cases l with
  | nil => cases hr
  | cons s t =>
    rw [unionF_cons]
    have : (s :: t).all mayB = false := by
      cases ha : (s :: t).all mayB with
      | false => rfl
      | true => have := List.all_eq_true.1 ha r hr; rw [h] at this; cases this
    rw [this]; rfl
theorem int_eq {a b : Int} (h : a = b) : Value.int .i64 a = .int .i64 b := by rw [h]
set_option maxHeartbeats 16000000 in
set_option maxRecDepth 100000 in
theorem runion_any (A : Option Addr) (n c B : Nat) (l : List Plc) (w : World) (hr0 : Reads w B 4 A n (flat l)) (hBw : B ≤ w.heap.size) (hn : n ≤ 17592186043904) :
    Calls Try.prog 17 #[.slice A n c] w fun e w' => e = .returned (.tuple #[(unionF l).1.v, .bool (unionF l).2]) ∧ Below w.heap.size w w' := by
  have hr := hr0.more hBw
  have hlen : l.length = n := by have := hr.1; rw [flat_length] at this; omega
  by_cases h0 : n = 0
  · subst h0
    obtain rfl : l = [] := List.eq_nil_of_length_eq_zero hlen
    show Calls _ _ _ _ fun e w' => e = .returned (.tuple #[.agg #[.int .i64 0, .int .i64 0, .int .i64 0, .int .i64 0], .bool true]) ∧ _
    clear hr hr0 hlen
    go_enter Try.func17, Try.ntmps17
    go_wp2
    refine bodyPost_ret (v := .tuple #[.agg #[.int .i64 0, .int .i64 0, .int .i64 0, .int .i64 0], .bool true]) (by simp [results, Try.results17, go_sem]) rfl ⟨rfl, ?_⟩
    first | exact below_al (Below.refl _ _) _ | exact below_set4 (below_al (Below.refl _ _) _) (Nat.le_refl _) _ _ _ _
  · have hne : l ≠ [] := by intro e; subst e; exact h0 hlen.symm
    obtain ⟨R, hR⟩ : ∃ R, R = unionF l := ⟨_, rfl⟩
    rw [← hR]
    have HR := Lib.hid hR
    clear hR
    have h0' : 0 < n := by omega
    have h0'' : ((n : Int) == 0) = false := by rw [beq_eq_false_iff_ne]; omega
    clear h0
    go_enter Try.func17, Try.ntmps17
    go_wp2
    have hB := below_al (Below.refl w.heap.size w) (.cells #[.int .i64 0, .int .i64 0, .int .i64 0, .int .i64 0] 23)
    have K := Blk.new w 23 #[.int .i64 0, .int .i64 0, .int .i64 0, .int .i64 0]
    go_loopw [4, 5, 6, 7, 8, 9] (fun x y u v e i wr => ∃ k : Nat, k ≤ n ∧ i = .int .i64 k ∧ x = .int .i64 (accOf (l.take k)).x ∧ y = .int .i64 (accOf (l.take k)).y ∧ u = .int .i64 (accOf (l.take k)).u ∧ v = .int .i64 (accOf (l.take k)).v ∧ e = .bool (accOf (l.take k)).is ∧
      Hid ((l.take k).all mayB = true) ∧ Below w.heap.size w wr ∧ Blk wr w.heap.size 23 #[.int .i64 0, .int .i64 0, .int .i64 0, .int .i64 0]) (fun _ _ _ _ _ i _ => n - (intOf i).toNat)
    case atStart => exact ⟨0, Nat.zero_le _, rfl, rfl, rfl, rfl, rfl, rfl, rfl, hB, K⟩
    case round =>
      obtain ⟨k, hk, rfl, rfl, rfl, rfl, rfl, rfl, HA, hBr, Kr⟩ := hrel
      by_cases hlt : k < n
      · have hkl : k < l.length := by omega
        obtain ⟨r, hrk⟩ : ∃ r, l[k]? = some r := ⟨l[k], List.getElem?_eq_getElem hkl⟩
        obtain ⟨ad, rfl, hab, e0, e1, e2, e3⟩ := place_of (hr.below hBr) hrk
        have hmem := List.mem_of_getElem? hrk
        have c1 := fun w => rmay_any r w
        cases hm : mayB r with
        | false =>
          have hno := unionF_no hmem hm
          rw [hm] at c1
          obtain ⟨R1, R2⟩ := R
          obtain ⟨rfl, rfl⟩ : R1 = Plc.zero ∧ R2 = false := by have := HR.out; rw [hno] at this; injection this with a b; exact ⟨a, b⟩
          obtain ⟨rx, ry, rw_, rh⟩ := r
          clear hrk hmem hm hno
          go_wp2_with (first
            | (go_at_call 21; (with_reducible refine (c1 _).mono ?_); rintro e w1 ⟨rfl, hb⟩
               have hB1 := below_next (below_al hBr _) hb
               have Ks1 := (Kr.alloc _).next hb
               have Kr1 := (Blk.new wr 23 _).next hb
               clear hb
               obtain ⟨cs0, cs1, cs2, cs3⟩ := blk4 Ks1
               have zs := Ks1.lt
               have ns : w.heap.size ≠ w1.heap.size := Nat.ne_of_lt zs
               obtain ⟨cr0, cr1, cr2, cr3⟩ := blk4 Kr1
               have zr := Kr1.lt
               have nr : wr.heap.size ≠ w1.heap.size := Nat.ne_of_lt zr
               obtain ⟨f0, f1, f2, f3⟩ := fz4 Ks1))
          refine bodyPost_ret (v := .tuple #[.agg #[.int .i64 0, .int .i64 0, .int .i64 0, .int .i64 0], .bool false]) (by simp [results, Try.results17, go_sem, cs0, cs1, cs2, cs3]) rfl ⟨rfl, below_set4 hB1 (Nat.le_refl _) _ _ _ _⟩
        | true =>
          have c2 := fun w => radd_any r.x r.w w
          have c3 := fun w => radd_any r.y r.h w
          rw [hm] at c1
          have HA' : Hid ((l.take (k + 1)).all mayB = true) := by
            show (l.take (k + 1)).all mayB = true
            rw [List.take_add_one, hrk, List.all_append, HA.out]
            simp [hm]
          by_cases hk0 : k = 0
          · subst hk0
            have had0 : ad.add (0 * 4) = ad := by unfold Addr.add; rw [if_pos (by omega)]
            rw [had0] at e0 e1 e2 e3
            clear had0
            have HN : Hid (accOf (l.take (0 + 1)) = ⟨r.x, r.y, add2 r.x r.w, add2 r.y r.h, addOk r.x r.w && addOk r.y r.h⟩) := by
              show accOf (l.take 1) = _
              rw [List.take_add_one, hrk]
              rfl
            generalize add2 r.x r.w = p at *
            generalize addOk r.x r.w = o1 at *
            generalize add2 r.y r.h = q at *
            generalize addOk r.y r.h = o2 at *
            clear hrk hmem hm
            obtain ⟨rx, ry, rw_, rh⟩ := r
            simp only at *
            cases o1
            all_goals
              go_wp2_with (first
                | (go_at_call 21; (with_reducible refine (c1 _).mono ?_); rintro e w1 ⟨rfl, hb⟩
                   have hB1 := below_next (below_al hBr _) hb
                   have Ks1 := (Kr.alloc _).next hb
                   have Kr1 := (Blk.new wr 23 _).next hb
                   clear hb
                   obtain ⟨cs0, cs1, cs2, cs3⟩ := blk4 Ks1
                   have zs := Ks1.lt
                   have ns : w.heap.size ≠ w1.heap.size := Nat.ne_of_lt zs
                   obtain ⟨cr0, cr1, cr2, cr3⟩ := blk4 Kr1
                   have zr := Kr1.lt
                   have nr : wr.heap.size ≠ w1.heap.size := Nat.ne_of_lt zr)
                | (go_at_call 37; (first | (with_reducible refine (c2 _).mono ?_) | (with_reducible refine (c3 _).mono ?_)); rintro e w2 ⟨rfl, rfl⟩))
              go_roundw
              case rel => exact ⟨1, by omega, by go_num, by rw [HN.out], by rw [HN.out], by rw [HN.out], by rw [HN.out], by rw [HN.out]; rfl, HA', hB1, Ks1⟩
              case measure => simp [intOf]; omega
          · have hne2 : l.take k ≠ [] := by
              intro e
              have := congrArg List.length e
              simp only [List.length_take, List.length_nil] at this
              omega
            have HN : Hid (accOf (l.take (k + 1)) = un1 (accOf (l.take k)) r) := by
              show accOf (l.take (k + 1)) = _
              rw [List.take_add_one, hrk]
              exact accOf_snoc _ _ hne2
            have hk1 : ((k : Int) == 0) = false := by rw [beq_eq_false_iff_ne]; omega
            generalize accOf (l.take k) = a at *
            obtain ⟨ax, ay, au, av, ae⟩ := a
            unfold un1 at HN
            simp only at HN
            generalize add2 r.x r.w = p at *
            generalize addOk r.x r.w = o1 at *
            generalize add2 r.y r.h = q at *
            generalize addOk r.y r.h = o2 at *
            clear hrk hmem hm hne2
            obtain ⟨rx, ry, rw_, rh⟩ := r
            simp only at *
            cases ae <;> (try cases o1)
            all_goals
              go_wp2_with (first
                | (go_at_call 21; (with_reducible refine (c1 _).mono ?_); rintro e w1 ⟨rfl, hb⟩
                   have hB1 := below_next (below_al hBr _) hb
                   have Ks1 := (Kr.alloc _).next hb
                   have Kr1 := (Blk.new wr 23 _).next hb
                   clear hb
                   obtain ⟨cs0, cs1, cs2, cs3⟩ := blk4 Ks1
                   have zs := Ks1.lt
                   have ns : w.heap.size ≠ w1.heap.size := Nat.ne_of_lt zs
                   obtain ⟨cr0, cr1, cr2, cr3⟩ := blk4 Kr1
                   have zr := Kr1.lt
                   have nr : wr.heap.size ≠ w1.heap.size := Nat.ne_of_lt zr)
                | (go_at_call 37; (first | (with_reducible refine (c2 _).mono ?_) | (with_reducible refine (c3 _).mono ?_)); rintro e w2 ⟨rfl, rfl⟩))
              all_goals
                go_roundw
                case rel => exact ⟨k + 1, by omega, by go_num, by rw [HN.out]; exact int_eq (by show _ = min ax rx; omega), by rw [HN.out]; exact int_eq (by show _ = min ay ry; omega), by rw [HN.out]; exact int_eq (by show _ = max au p; omega), by rw [HN.out]; exact int_eq (by show _ = max av q; omega), by rw [HN.out]; rfl, HA', by assumption, by assumption⟩
                case measure => simp [intOf]; omega
      · obtain rfl : n = k := by omega
        have hall : l.take n = l := List.take_of_length_le (by omega)
        have hA := HA.out
        rw [hall] at hA ⊢
        have hU := unionF_acc hne hA
        generalize accOf l = a at *
        obtain ⟨ax, ay, au, av, ae⟩ := a
        unfold unD at hU
        simp only at hU
        have c2 := fun w => rsub_any au ax w
        have c3 := fun w => rsub_any av ay w
        generalize sub2 au ax = p at *
        generalize subOk au ax = o1 at *
        generalize sub2 av ay = q at *
        generalize subOk av ay = o2 at *
        obtain ⟨R1, R2⟩ := R
        obtain ⟨rfl, rfl⟩ : R1 = ⟨ax, ay, p, q⟩ ∧ R2 = (ae && (o1 && o2)) := by have := HR.out; rw [hU] at this; injection this with a b; exact ⟨a, b⟩
        clear hU hA HA hall
        obtain ⟨cs0, cs1, cs2, cs3⟩ := blk4 Kr
        obtain ⟨f0, f1, f2, f3⟩ := fz4 Kr
        cases ae <;> (try cases o1)
        all_goals
          go_wp2_with (go_at_call 41; (first | (with_reducible refine (c2 _).mono ?_) | (with_reducible refine (c3 _).mono ?_)); rintro e w2 ⟨rfl, rfl⟩)
        · refine bodyPost_ret (v := .tuple #[.agg #[.int .i64 ax, .int .i64 ay, .int .i64 p, .int .i64 q], .bool false]) (by simp [results, Try.results17, go_sem, cs0, cs1, cs2, cs3]) rfl ⟨rfl, below_set4 hBr (Nat.le_refl _) _ _ _ _⟩
        · refine bodyPost_ret (v := .tuple #[.agg #[.int .i64 ax, .int .i64 ay, .int .i64 p, .int .i64 q], .bool false]) (by simp [results, Try.results17, go_sem, cs0, cs1, cs2, cs3]) rfl ⟨rfl, below_set4 hBr (Nat.le_refl _) _ _ _ _⟩
        · refine bodyPost_ret (v := .tuple #[.agg #[.int .i64 ax, .int .i64 ay, .int .i64 p, .int .i64 q], .bool false]) (by simp [results, Try.results17, go_sem, cs0, cs1, cs2, cs3]) rfl ⟨rfl, below_set4 hBr (Nat.le_refl _) _ _ _ _⟩
        · refine bodyPost_ret (v := .tuple #[.agg #[.int .i64 ax, .int .i64 ay, .int .i64 p, .int .i64 q], .bool o2]) (by simp [results, Try.results17, go_sem, cs0, cs1, cs2, cs3]) rfl ⟨rfl, below_set4 hBr (Nat.le_refl _) _ _ _ _⟩
end Go.Proofs.Ytabijoohoofogaa
