/- ResHides' walk, from what res's functions answer. Conditions: the lists lie in memory as they are read. -/
import Derived.Test.YtibpjfeghpmoiaaResL
import Derived.Test.YtibpjfeghpmoiaaResK
namespace Go.Proofs.Ytibpjfeghpmoiaa
open Go.ChangeShapes Go.WideShapes Go.ChangeAt Go.RowKit
theorem Reads.step {w w' : World} {size n : Nat} {A : Option Addr} {xs : List Value} (h : Reads w w.heap.size size A n xs) (hb : Below w.heap.size w w') : Reads w' w'.heap.size size A n xs := (h.below hb).more hb.size
namespace resHides
set_option maxHeartbeats 16000000 in
set_option maxRecDepth 100000 in
theorem walk (A : Option Addr) (n ca : Nat) (la : List Img) (aa : Int) (oa : Bool) (A2 : Option Addr) (m cb : Nat) (lb : List Img) (ab : Int) (ob : Bool) (src : ByteArray) (w : World)
    (hra : Reads w w.heap.size 4 A n (flatI la)) (hrb : Reads w w.heap.size 4 A2 m (flatI lb)) (hn0 : n ≤ 9223372036854775807) (hm0 : m ≤ 9223372036854775807) :
    Calls Try.prog 4 #[.agg #[.slice A n ca, .int .i64 aa, .bool oa], .agg #[.slice A2 m cb, .int .i64 ab, .bool ob], .string src] w fun e w' => e = .returned (.bool true) ∧ Below w.heap.size w w' := by
  have hB := below_al (below_al (Below.refl w.heap.size w) (.cells #[.slice A n ca, .int .i64 aa, .bool oa] 26)) (.cells #[.slice A2 m cb, .int .i64 ab, .bool ob] 26)
  have Ka := (Blk.new w 26 #[.slice A n ca, .int .i64 aa, .bool oa]).alloc (.cells #[.slice A2 m cb, .int .i64 ab, .bool ob] 26)
  have Kb := Blk.new (w.alloc (.cells #[.slice A n ca, .int .i64 aa, .bool oa] 26)) 26 #[.slice A2 m cb, .int .i64 ab, .bool ob]
  rw [size_al] at Kb
  have c0 := resAwake.awake_any
  by_cases h1 : 100 < n
  · go_enter Try.func4, Try.ntmps4
    go_wp2_with (first
      | (go_at_call 6; (with_reducible refine (c0 _).mono ?_); rintro e w1 ⟨rfl, hb⟩
         have hB1 := below_next hB hb
         have q0 := (Ka.next hb).cell 0))
    go_ret
    exact ⟨rfl, hB1⟩
  by_cases h2 : 100 < m
  · go_enter Try.func4, Try.ntmps4
    go_wp2_with (first
      | (go_at_call 6; (with_reducible refine (c0 _).mono ?_); rintro e w1 ⟨rfl, hb⟩
         have hB1 := below_next hB hb
         have q0 := (Ka.next hb).cell 0
         have q1 := (Kb.next hb).cell 0))
    go_ret
    exact ⟨rfl, hB1⟩
  have hn1 : n ≤ 100 := by omega
  have hm1 : m ≤ 100 := by omega
  have hn : n ≤ 4611686018427387904 := by omega
  have hm : m ≤ 4611686018427387904 := by omega
  clear h1 h2
  have ra : ∀ w0, Below w.heap.size w w0 → Reads w0 w0.heap.size 4 A n (flatI la) := fun w0 h => (hra.below h).more h.size
  have rb : ∀ w0, Below w.heap.size w w0 → Reads w0 w0.heap.size 4 A2 m (flatI lb) := fun w0 h => (hrb.below h).more h.size
  have c1 := fun w0 h => public_any A n ca la aa oa w0 (ra w0 h) hn1
  have c2 := fun w0 h => size_any A n ca la aa oa src w0 (ra w0 h) hn
  have c3 := fun A' c' w0 h => size_any A' n c' (la.map pubI) (pubA aa oa) oa src w0 h hn
  rw [(sizes_pub la src).1, (sizes_pub la src).2.1, (sizes_pub la src).2.2] at c3
  have c4 := fun A' c' w0 h h2 => alike_any A n ca la aa oa A' n c' (la.map pubI) (pubA aa oa) oa w0 (ra w0 h) h2 hn hn
  rw [like_pub] at c4
  have c5 := fun A' c' w0 h => public_any A' n c' (la.map pubI) (pubA aa oa) oa w0 h hn1
  have c6 := fun A' c' w0 h => own_any A' n c' ((la.map pubI).map pubI) (pubA (pubA aa oa) oa) oa w0 h hn1
  have c7 := fun A' c' w0 h => own_any A' n c' (la.map pubI) (pubA aa oa) oa w0 h hn1
  have c8 := fun A' c' A'' c'' w0 h h' => rsame_any A' n c' ((la.map pubI).map pubI) (pubA (pubA aa oa) oa) oa A'' n c'' (la.map pubI) (pubA aa oa) oa w0 h h' hn hn
  rw [show sameT ((la.map pubI).map pubI) (pubA (pubA aa oa) oa) oa (la.map pubI) (pubA aa oa) oa = true from by
    rw [sameT_iff, pubA_twice, List.map_map]
    exact ⟨congrArg (fun f => la.map f) (funext pubI_twice), rfl, rfl⟩] at c8
  have c9 := fun w0 => adv_any A n ca aa oa w0
  have c10 := fun A' c' w0 => adv_any A' n c' (pubA aa oa) oa w0
  rw [show advR (pubA aa oa) oa = advR aa oa from by unfold advR pubA; split <;> rfl] at c10
  have c11 := fun w0 h => alike_any A n ca la aa oa A2 m cb lb ab ob w0 (ra w0 h) (rb w0 h) hn hm
  have c12 := fun w0 h => alike_any A2 m cb lb ab ob A n ca la aa oa w0 (rb w0 h) (ra w0 h) hm hn
  rw [likeT_comm lb ab ob la aa oa] at c12
  have c13 := fun w0 h => size_any A2 m cb lb ab ob src w0 (rb w0 h) hm
  have c14 := fun w0 => adv_any A2 m cb ab ob w0
  have HL := fun h => sizes_like (l := la) (a := aa) (o := oa) (m := lb) (b := ab) (p := ob) h src
  generalize List.map pubI (List.map pubI la) = lpp at *
  generalize List.map pubI la = lp at *
  generalize pubA (pubA aa oa) oa = pp at *
  generalize pubA aa oa = pa at *
  generalize sizeW la src = s1 at *
  generalize sizeH la src = s2 at *
  generalize trueB la src = s3 at *
  generalize advR aa oa = s4 at *
  cases hLk : likeT la aa oa lb ab ob with
  | false =>
    rw [hLk] at c11 c12
    clear HL c13 c14 hLk
    go_enter Try.func4, Try.ntmps4
    go_wp2_with (first
      | (go_at_call 6; (with_reducible refine (c0 _).mono ?_); rintro e w1 ⟨rfl, hb⟩
         have hB1 := below_next hB hb
         have Ka1 := Ka.next hb
         have Kb1 := Kb.next hb
         have q0 := Ka1.cell 0
         have q1 := Ka1.cell 1
         have q2 := Ka1.cell 2
         have k0 := Kb1.cell 0)
      | (go_at_call 17; (with_reducible refine (c1 _ hB1).mono ?_); rintro e w2 ⟨A', c', rfl, hrp, hb⟩
         have hB2 := below_next hB1 hb
         have Ka2 := Ka1.next hb
         have Kb2 := Kb1.next hb
         have hB2a := below_al hB2 (.cells #[.slice A' n c', .int .i64 pa, .bool oa] 26)
         have Ka2a := Ka2.alloc (.cells #[.slice A' n c', .int .i64 pa, .bool oa] 26)
         have Kb2a := Kb2.alloc (.cells #[.slice A' n c', .int .i64 pa, .bool oa] 26)
         have Kp2 := Blk.new w2 26 #[.slice A' n c', .int .i64 pa, .bool oa]
         have hrp2 := hrp.step (below_al (Below.refl w2.heap.size w2) (.cells #[.slice A' n c', .int .i64 pa, .bool oa] 26))
         clear q0 q1 q2 k0 hb
         have q0 := Ka2.cell 0
         have q1 := Ka2.cell 1
         have q2 := Ka2.cell 2
         have za := Ka2.lt
         have na := Nat.ne_of_lt za)
      | (go_at_call 8; (with_reducible refine (c2 _ hB2a).mono ?_); rintro e w3 ⟨rfl, hb⟩
         have hB3 := below_next hB2a hb
         have Ka3 := Ka2a.next hb
         have Kb3 := Kb2a.next hb
         have Kp3 := Kp2.next hb
         have hrp3 := hrp2.step hb
         clear q0 q1 q2 za na hb
         have q0 := Kp3.cell 0
         have q1 := Kp3.cell 1
         have q2 := Kp3.cell 2)
      | (go_at_call 8; (with_reducible refine (c3 A' c' _ hrp3).mono ?_); rintro e w4 ⟨rfl, hb⟩
         have hB4 := below_next hB3 hb
         have Ka4 := Ka3.next hb
         have Kb4 := Kb3.next hb
         have Kp4 := Kp3.next hb
         have hrp4 := hrp3.step hb
         clear q0 q1 q2 hb))
    have q0 := Ka4.cell 0
    have q1 := Ka4.cell 1
    have q2 := Ka4.cell 2
    have p0 := Kp4.cell 0
    have p1 := Kp4.cell 1
    have p2 := Kp4.cell 2
    have za := Ka4.lt
    have zp := Kp4.lt
    have d4 := fun w0 (hS : (∀ b o, b < w4.heap.size → w0.cell? ⟨b, o, none⟩ = w4.cell? ⟨b, o, none⟩) ∧ Below w4.heap.size w4 w0) => c4 A' c' w0 (below_next hB4 hS.2) (hrp4.step hS.2)
    have d5 := fun w0 (hS : (∀ b o, b < w4.heap.size → w0.cell? ⟨b, o, none⟩ = w4.cell? ⟨b, o, none⟩) ∧ Below w4.heap.size w4 w0) => c5 A' c' w0 (hrp4.step hS.2)
    have d7 := fun w0 (hS : (∀ b o, b < w4.heap.size → w0.cell? ⟨b, o, none⟩ = w4.cell? ⟨b, o, none⟩) ∧ Below w4.heap.size w4 w0) => c7 A' c' w0 (hrp4.step hS.2)
    first
    | (go_region_held3 (fun W' => (∀ b o, b < w4.heap.size → W'.cell? ⟨b, o, none⟩ = w4.cell? ⟨b, o, none⟩) ∧ Below w4.heap.size w4 W')
        (first | assumption | exact ⟨fun _ _ _ => rfl, (Below.refl _ _).drew⟩ | exact sall (by assumption) (by assumption))
        (first
          | (go_at_call 19; (with_reducible refine (d4 _ (by assumption)).mono ?_); rintro e w5 ⟨rfl, hb5⟩)
          | (go_at_call 17; (with_reducible refine (d5 _ (by assumption)).mono ?_); rintro e w6 ⟨A6, c6', rfl, hr6, hb6⟩)
          | (go_at_call 7; (with_reducible refine (c6 A6 c6' _ hr6).mono ?_); rintro e w7 ⟨A7, c7', rfl, hr7, hb7⟩)
          | (go_at_call 7; (with_reducible refine (d7 _ (by assumption)).mono ?_); rintro e w8 ⟨A8, c8', rfl, hr8, hb8⟩; have hr9 := hr7.step hb8)
          | (go_at_call 16; (with_reducible refine (c8 A7 c7' A8 c8' _ hr9 hr8).mono ?_); rintro e w9 ⟨rfl, hb9⟩)
          | (go_at_call 14; (with_reducible refine (c9 _).mono ?_); rintro e w10 ⟨rfl, hb10⟩)
          | (go_at_call 14; (with_reducible refine (c10 A' c' _).mono ?_); rintro e w11 ⟨rfl, hb11⟩)))
    | (fail)
    rename_i hS
    have hB5 := below_next hB4 hS.2
    have Ka5 := Ka4.next hS.2
    have Kb5 := Kb4.next hS.2
    clear q0 q1 q2 p0 p1 p2 za zp d4 d5 d7 hS
    have q0 := Ka5.cell 0
    have q1 := Ka5.cell 1
    have q2 := Ka5.cell 2
    have k0 := Kb5.cell 0
    have k1 := Kb5.cell 1
    have k2 := Kb5.cell 2
    go_wp2_with (first
      | (go_at_call 19; (with_reducible refine (c11 _ hB5).mono ?_); rintro e wa ⟨rfl, hb⟩
         have hBa := below_next hB5 hb
         have Kaa := Ka5.next hb
         have Kba := Kb5.next hb
         clear q0 q1 q2 k0 k1 k2 hb
         have q0 := Kaa.cell 0
         have q1 := Kaa.cell 1
         have q2 := Kaa.cell 2
         have k0 := Kba.cell 0
         have k1 := Kba.cell 1
         have k2 := Kba.cell 2)
      | (go_at_call 19; (with_reducible refine (c12 _ hBa).mono ?_); rintro e wb ⟨rfl, hb⟩
         have hBb := below_next hBa hb))
    go_ret
    exact ⟨rfl, hBb⟩
  | true =>
    obtain ⟨g1, g2, g3, g4⟩ := HL hLk
    rw [hLk] at c11 c12
    rw [← g1, ← g2, ← g3] at c13
    rw [← g4] at c14
    clear HL hLk g1 g2 g3 g4
    go_enter Try.func4, Try.ntmps4
    go_wp2_with (first
      | (go_at_call 6; (with_reducible refine (c0 _).mono ?_); rintro e w1 ⟨rfl, hb⟩
         have hB1 := below_next hB hb
         have Ka1 := Ka.next hb
         have Kb1 := Kb.next hb
         have q0 := Ka1.cell 0
         have q1 := Ka1.cell 1
         have q2 := Ka1.cell 2
         have k0 := Kb1.cell 0)
      | (go_at_call 17; (with_reducible refine (c1 _ hB1).mono ?_); rintro e w2 ⟨A', c', rfl, hrp, hb⟩
         have hB2 := below_next hB1 hb
         have Ka2 := Ka1.next hb
         have Kb2 := Kb1.next hb
         have hB2a := below_al hB2 (.cells #[.slice A' n c', .int .i64 pa, .bool oa] 26)
         have Ka2a := Ka2.alloc (.cells #[.slice A' n c', .int .i64 pa, .bool oa] 26)
         have Kb2a := Kb2.alloc (.cells #[.slice A' n c', .int .i64 pa, .bool oa] 26)
         have Kp2 := Blk.new w2 26 #[.slice A' n c', .int .i64 pa, .bool oa]
         have hrp2 := hrp.step (below_al (Below.refl w2.heap.size w2) (.cells #[.slice A' n c', .int .i64 pa, .bool oa] 26))
         clear q0 q1 q2 k0 hb
         have q0 := Ka2.cell 0
         have q1 := Ka2.cell 1
         have q2 := Ka2.cell 2
         have za := Ka2.lt
         have na := Nat.ne_of_lt za)
      | (go_at_call 8; (with_reducible refine (c2 _ hB2a).mono ?_); rintro e w3 ⟨rfl, hb⟩
         have hB3 := below_next hB2a hb
         have Ka3 := Ka2a.next hb
         have Kb3 := Kb2a.next hb
         have Kp3 := Kp2.next hb
         have hrp3 := hrp2.step hb
         clear q0 q1 q2 za na hb
         have q0 := Kp3.cell 0
         have q1 := Kp3.cell 1
         have q2 := Kp3.cell 2)
      | (go_at_call 8; (with_reducible refine (c3 A' c' _ hrp3).mono ?_); rintro e w4 ⟨rfl, hb⟩
         have hB4 := below_next hB3 hb
         have Ka4 := Ka3.next hb
         have Kb4 := Kb3.next hb
         have Kp4 := Kp3.next hb
         have hrp4 := hrp3.step hb
         clear q0 q1 q2 hb))
    have q0 := Ka4.cell 0
    have q1 := Ka4.cell 1
    have q2 := Ka4.cell 2
    have p0 := Kp4.cell 0
    have p1 := Kp4.cell 1
    have p2 := Kp4.cell 2
    have za := Ka4.lt
    have zp := Kp4.lt
    have d4 := fun w0 (hS : (∀ b o, b < w4.heap.size → w0.cell? ⟨b, o, none⟩ = w4.cell? ⟨b, o, none⟩) ∧ Below w4.heap.size w4 w0) => c4 A' c' w0 (below_next hB4 hS.2) (hrp4.step hS.2)
    have d5 := fun w0 (hS : (∀ b o, b < w4.heap.size → w0.cell? ⟨b, o, none⟩ = w4.cell? ⟨b, o, none⟩) ∧ Below w4.heap.size w4 w0) => c5 A' c' w0 (hrp4.step hS.2)
    have d7 := fun w0 (hS : (∀ b o, b < w4.heap.size → w0.cell? ⟨b, o, none⟩ = w4.cell? ⟨b, o, none⟩) ∧ Below w4.heap.size w4 w0) => c7 A' c' w0 (hrp4.step hS.2)
    first
    | (go_region_held3 (fun W' => (∀ b o, b < w4.heap.size → W'.cell? ⟨b, o, none⟩ = w4.cell? ⟨b, o, none⟩) ∧ Below w4.heap.size w4 W')
        (first | assumption | exact ⟨fun _ _ _ => rfl, (Below.refl _ _).drew⟩ | exact sall (by assumption) (by assumption))
        (first
          | (go_at_call 19; (with_reducible refine (d4 _ (by assumption)).mono ?_); rintro e w5 ⟨rfl, hb5⟩)
          | (go_at_call 17; (with_reducible refine (d5 _ (by assumption)).mono ?_); rintro e w6 ⟨A6, c6', rfl, hr6, hb6⟩)
          | (go_at_call 7; (with_reducible refine (c6 A6 c6' _ hr6).mono ?_); rintro e w7 ⟨A7, c7', rfl, hr7, hb7⟩)
          | (go_at_call 7; (with_reducible refine (d7 _ (by assumption)).mono ?_); rintro e w8 ⟨A8, c8', rfl, hr8, hb8⟩; have hr9 := hr7.step hb8)
          | (go_at_call 16; (with_reducible refine (c8 A7 c7' A8 c8' _ hr9 hr8).mono ?_); rintro e w9 ⟨rfl, hb9⟩)
          | (go_at_call 14; (with_reducible refine (c9 _).mono ?_); rintro e w10 ⟨rfl, hb10⟩)
          | (go_at_call 14; (with_reducible refine (c10 A' c' _).mono ?_); rintro e w11 ⟨rfl, hb11⟩)))
    | (fail)
    rename_i hS
    have hB5 := below_next hB4 hS.2
    have Ka5 := Ka4.next hS.2
    have Kb5 := Kb4.next hS.2
    clear q0 q1 q2 p0 p1 p2 za zp d4 d5 d7 hS
    have q0 := Ka5.cell 0
    have q1 := Ka5.cell 1
    have q2 := Ka5.cell 2
    have k0 := Kb5.cell 0
    have k1 := Kb5.cell 1
    have k2 := Kb5.cell 2
    go_wp2_with (first
      | (go_at_call 19; (with_reducible refine (c11 _ hB5).mono ?_); rintro e wa ⟨rfl, hb⟩
         have hBa := below_next hB5 hb
         have Kaa := Ka5.next hb
         have Kba := Kb5.next hb
         clear q0 q1 q2 k0 k1 k2 hb
         have k0 := Kba.cell 0
         have k1 := Kba.cell 1
         have k2 := Kba.cell 2)
      | (go_at_call 8; (with_reducible refine (c13 _ hBa).mono ?_); rintro e wb ⟨rfl, hb⟩
         have hBb := below_next hBa hb
         have Kab := Kaa.next hb
         have Kbb := Kba.next hb
         clear k0 k1 k2 hb))
    have q0 := Kab.cell 0
    have q1 := Kab.cell 1
    have q2 := Kab.cell 2
    have k0 := Kbb.cell 0
    have k1 := Kbb.cell 1
    have k2 := Kbb.cell 2
    have za := Kab.lt
    have zb := Kbb.lt
    have d12 := fun w0 (hS : (∀ b o, b < wb.heap.size → w0.cell? ⟨b, o, none⟩ = wb.cell? ⟨b, o, none⟩) ∧ Below wb.heap.size wb w0) => c12 w0 (below_next hBb hS.2)
    first
    | (go_region_held3 (fun W' => (∀ b o, b < wb.heap.size → W'.cell? ⟨b, o, none⟩ = wb.cell? ⟨b, o, none⟩) ∧ Below wb.heap.size wb W')
        (first | assumption | exact ⟨fun _ _ _ => rfl, (Below.refl _ _).drew⟩ | exact sall (by assumption) (by assumption))
        (first
          | (go_at_call 14; (with_reducible refine (c9 _).mono ?_); rintro e wc ⟨rfl, hbc⟩)
          | (go_at_call 14; (with_reducible refine (c14 _).mono ?_); rintro e wd ⟨rfl, hbd⟩)
          | (go_at_call 19; (with_reducible refine (d12 _ (by assumption)).mono ?_); rintro e we ⟨rfl, hbe⟩)))
    | (fail)
    rename_i hS
    go_wp2
    go_ret
    exact ⟨rfl, below_next hBb hS.2⟩
end resHides
end Go.Proofs.Ytibpjfeghpmoiaa
