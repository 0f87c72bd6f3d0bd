/- What the landed package res's Alike answers, of tables with as many images and the same font. Conditions: the lists lie in memory as they are read. -/
import Derived.Test.YtibpjfeghpmoiaaResH
namespace Go.Proofs.Ytibpjfeghpmoiaa
open Go.ChangeShapes Go.WideShapes Go.ChangeAt Go.RowKit
theorem sallp {E W W' : World} {p : Addr} {v : Value} (hp : p.block < E.heap.size) (h : (∀ b o, b < E.heap.size → W.cell? ⟨b, o, none⟩ = E.cell? ⟨b, o, none⟩) ∧ Below E.heap.size E W ∧ W.cell? p = some v) (hb : Below W.heap.size W W') :
    (∀ b o, b < E.heap.size → W'.cell? ⟨b, o, none⟩ = E.cell? ⟨b, o, none⟩) ∧ Below E.heap.size E W' ∧ W'.cell? p = some v :=
  ⟨(sall ⟨h.1, h.2.1⟩ hb).1, below_next h.2.1 hb, (hb.cell (Nat.lt_of_lt_of_le hp h.2.1.size)).trans h.2.2⟩
set_option maxHeartbeats 16000000 in
set_option maxRecDepth 100000 in
theorem alike_eq (A : Option Addr) (n c : Nat) (l : List Img) (a : Int) (o : Bool) (A2 : Option Addr) (m c2 : Nat) (l2 : List Img) (b : Int) (p : Bool) (w : World) (hr : Reads w w.heap.size 4 A n (flatI l)) (hr2 : Reads w w.heap.size 4 A2 m (flatI l2)) (hn : n ≤ 4611686018427387904) (hm : m ≤ 4611686018427387904) (hF : ((pubA a o == pubA b p) && (o == p)) = true) (hnm : ((n : Int) != (m : Int)) = false) :
    Calls Try.prog 19 #[.agg #[.slice A n c, .int .i64 a, .bool o], .agg #[.slice A2 m c2, .int .i64 b, .bool p]] w fun e w' => e = .returned (.bool (likeT l a o l2 b p)) ∧ Below w.heap.size w w' := by
  have hlen : l.length = n := by have := hr.1; rw [flatI_len] at this; omega
  have hlen2 : l2.length = m := by have := hr2.1; rw [flatI_len] at this; omega
  have hB := below_al (below_al (Below.refl w.heap.size w) (.cells #[.slice A n c, .int .i64 a, .bool o] 26)) (.cells #[.slice A2 m c2, .int .i64 b, .bool p] 26)
  have K1 := (Blk.new w 26 #[.slice A n c, .int .i64 a, .bool o]).alloc (.cells #[.slice A2 m c2, .int .i64 b, .bool p] 26)
  have K2 := Blk.new (w.alloc (.cells #[.slice A n c, .int .i64 a, .bool o] 26)) 26 #[.slice A2 m c2, .int .i64 b, .bool p]
  rw [size_al] at K2
  unfold likeT sameT
  have u1 := fun w => pubf_any a o w
  have u2 := fun w => pubf_any b p w
  have hf := fun w => neq_fontC w (pubA a o) (pubA b p) o p
  have hass : ((pubA a o == pubA b p) && ((o == p) && sameI (l.map pubI) (l2.map pubI))) = (((pubA a o == pubA b p) && (o == p)) && sameI (l.map pubI) (l2.map pubI)) := (Bool.and_assoc _ _ _).symm
  rw [hass]
  clear hass
  rw [hF]
  rw [hF] at hf
  rw [Bool.true_and]
  clear hF
  obtain ⟨R, hR⟩ : ∃ R, R = sameI (l.map pubI) (l2.map pubI) := ⟨_, rfl⟩
  rw [← hR]
  have HR := Lib.hid hR
  clear hR
  generalize pubA a o = pa at *
  generalize pubA b p = pb at *
  obtain rfl : n = m := by
    have := bne_eq_false_iff_eq.1 hnm
    omega
  clear hnm
  have hnm : ((n : Int) != (n : Int)) = false := bne_self_eq_false' _
  go_enter Try.func19, Try.ntmps19
  go_wp2
  generalize (w.alloc (.cells #[.slice A n c, .int .i64 a, .bool o] 26)).alloc (.cells #[.slice A2 n c2, .int .i64 b, .bool p] 26) = E at *
  have p0 := K1.cell 0
  have p1 := K1.cell 1
  have p2 := K1.cell 2
  have q0 := K2.cell 0
  have q1 := K2.cell 1
  have q2 := K2.cell 2
  have z1 := K1.lt
  have z2 := K2.lt
  first
  | (go_region_held3 (fun W' => (∀ b o, b < E.heap.size → W'.cell? ⟨b, o, none⟩ = E.cell? ⟨b, o, none⟩) ∧ Below E.heap.size E W')
      (first | assumption | exact ⟨fun _ _ _ => rfl, (Below.refl _ _).drew⟩ | exact sall (by assumption) (by assumption))
      (first
        | (go_at_call 22; (with_reducible refine (u1 _).mono ?_); rintro e w1 ⟨rfl, hb⟩)
        | (go_at_call 22; (with_reducible refine (u2 _).mono ?_); rintro e w2 ⟨rfl, hb2⟩)))
  | (fail)
  rename_i hS
  have hB1 := below_next hB hS.2
  have K11 := K1.next hS.2
  have K21 := K2.next hS.2
  have p10 := K11.cell 0
  have p20 := K21.cell 0
  go_wp2
  generalize hE9 : E.heap.size = eg at *
  clear hE9
  go_loopw [26] (fun i wr => ∃ k : Nat, k ≤ n ∧ i = .int .i64 k ∧ Hid (∀ (j : Nat) (x y : Img), j < k → (l.map pubI)[j]? = some x → (l2.map pubI)[j]? = some y → x.eqb y = true) ∧ Below w.heap.size w wr ∧ Blk wr (w.heap.size + 1) 26 #[.slice A2 n c2, .int .i64 b, .bool p]) (fun i _ => n - (intOf i).toNat)
  case atStart => exact ⟨0, Nat.zero_le _, rfl, fun j x y h => absurd h (by omega), hB1, K21⟩
  case round =>
    obtain ⟨k, hk, rfl, HK, hBr, Kr⟩ := hrel
    clear hB1 K11 K21 p10 p20 hS
    by_cases hlt : k < n
    · have hkl : k < l.length := by omega
      have hkl2 : k < l2.length := by omega
      obtain ⟨r, hrk⟩ : ∃ r, l[k]? = some r := ⟨l[k], List.getElem?_eq_getElem hkl⟩
      obtain ⟨s, hsk⟩ : ∃ s, l2[k]? = some s := ⟨l2[k], List.getElem?_eq_getElem hkl2⟩
      obtain ⟨ad, rfl, hab, e0, e1, e2, e3⟩ := img_of (hr.below hBr) hrk
      have hBa := below_al hBr (.cells #[.string r.s, .int .i64 r.w, .int .i64 r.h, .bool r.o] 47)
      have Ka := Kr.alloc (.cells #[.string r.s, .int .i64 r.w, .int .i64 r.h, .bool r.o] 47)
      have Kx := Blk.new wr 47 #[.string r.s, .int .i64 r.w, .int .i64 r.h, .bool r.o]
      obtain ⟨ad2, rfl, hab2, d0, d1, d2, d3⟩ := img_of (hr2.below hBa) hsk
      have hlr : (l.map pubI)[k]? = some (pubI r) := by rw [List.getElem?_map, hrk]; rfl
      have hls : (l2.map pubI)[k]? = some (pubI s) := by rw [List.getElem?_map, hsk]; rfl
      have hq := fun w => neq_imgC w (pubI r) (pubI s)
      have v1 := fun w => pubi_any r w
      have v2 := fun w => pubi_any s w
      have hw1 : ad2.block < w.heap.size := hab2
      have z0 : w.heap.size ≤ wr.heap.size := hBr.size
      cases hE : (pubI r).eqb (pubI s) with
      | false =>
        obtain rfl : R = false := HR.out.trans (sameI_no hlr hls hE)
        rw [hE] at hq
        clear hrk hsk hE HK hlr hls
        generalize pubI r = r' at *
        generalize pubI s = s' at *
        go_wp2
        generalize wr.alloc (.cells #[.string r.s, .int .i64 r.w, .int .i64 r.h, .bool r.o] 47) = X at *
        have x0 := Kx.cell 0
        have x1 := Kx.cell 1
        have x2 := Kx.cell 2
        have x3 := Kx.cell 3
        have y0 := Ka.cell 0
        have zx := Kx.lt
        have za := Ka.lt
        have zb : (ad2.add (k * 4)).block < X.heap.size := by rw [block_of_add]; omega
        first
        | (go_region_held3 (fun W' => (∀ b o, b < X.heap.size → W'.cell? ⟨b, o, none⟩ = X.cell? ⟨b, o, none⟩) ∧ Below X.heap.size X W' ∧ W'.cell? (ad2.add (k * 4)) = some (.string s.s))
            (first | assumption | exact ⟨fun _ _ _ => rfl, (Below.refl _ _).drew, d0⟩ | exact sallp zb (by assumption) (by assumption))
            (first
              | (go_at_call 23; (with_reducible refine (v1 _).mono ?_); rintro e w1 ⟨rfl, hb⟩)
              | (go_at_call 23; (with_reducible refine (v2 _).mono ?_); rintro e w2 ⟨rfl, hb2⟩)))
        | (fail)
        rename_i hS
        go_wp2
        go_ret
        exact ⟨rfl, below_next hBa hS.2.1⟩
      | true =>
        have HK' : Hid (∀ (j : Nat) (x y : Img), j < k + 1 → (l.map pubI)[j]? = some x → (l2.map pubI)[j]? = some y → x.eqb y = true) := by
          intro j x y hj hx hy
          by_cases e : j = k
          · subst e
            rw [hlr] at hx
            rw [hls] at hy
            injection hx with hx
            injection hy with hy
            rw [← hx, ← hy]
            exact hE
          · exact HK.out j x y (by omega) hx hy
        rw [hE] at hq
        clear hrk hsk hE HK hlr hls
        generalize pubI r = r' at *
        generalize pubI s = s' at *
        go_wp2
        generalize wr.alloc (.cells #[.string r.s, .int .i64 r.w, .int .i64 r.h, .bool r.o] 47) = X at *
        have x0 := Kx.cell 0
        have x1 := Kx.cell 1
        have x2 := Kx.cell 2
        have x3 := Kx.cell 3
        have y0 := Ka.cell 0
        have zx := Kx.lt
        have za := Ka.lt
        have zb : (ad2.add (k * 4)).block < X.heap.size := by rw [block_of_add]; omega
        first
        | (go_region_held3 (fun W' => (∀ b o, b < X.heap.size → W'.cell? ⟨b, o, none⟩ = X.cell? ⟨b, o, none⟩) ∧ Below X.heap.size X W' ∧ W'.cell? (ad2.add (k * 4)) = some (.string s.s))
            (first | assumption | exact ⟨fun _ _ _ => rfl, (Below.refl _ _).drew, d0⟩ | exact sallp zb (by assumption) (by assumption))
            (first
              | (go_at_call 23; (with_reducible refine (v1 _).mono ?_); rintro e w1 ⟨rfl, hb⟩)
              | (go_at_call 23; (with_reducible refine (v2 _).mono ?_); rintro e w2 ⟨rfl, hb2⟩)))
        | (fail)
        rename_i hS
        go_wp2
        go_roundw
        case rel => exact ⟨k + 1, by omega, by go_num, HK', below_next hBa hS.2.1, Ka.next hS.2.1⟩
        case measure => simp [intOf]; omega
    · obtain rfl : k = n := by omega
      obtain rfl : R = true := HR.out.trans (sameI_all (by simp; omega) (fun j x y hx hy => HK.out j x y (by have := (List.getElem?_eq_some_iff.1 hx).1; simp at this; omega) hx hy))
      go_wp2
      go_ret
      exact ⟨rfl, hBr⟩
end Go.Proofs.Ytibpjfeghpmoiaa
