/- What the landed package res's Size answers. Conditions: the list lies in memory as it is read. -/
import Derived.Test.YtibpjfeghpmoiaaResB
namespace Go.Proofs.Ytibpjfeghpmoiaa
open Go.ChangeShapes Go.WideShapes Go.ChangeAt Go.RowKit
set_option maxHeartbeats 4000000 in
set_option maxRecDepth 100000 in
theorem size_any (A : Option Addr) (n c : Nat) (l : List Img) (a : Int) (o : Bool) (src : ByteArray) (w : World) (hr : Reads w w.heap.size 4 A n (flatI l)) (hn : n ≤ 4611686018427387904) :
    Calls Try.prog 8 #[.agg #[.slice A n c, .int .i64 a, .bool o], .string src] w fun e w' => e = .returned (.tuple #[.int .i64 (sizeW l src), .int .i64 (sizeH l src), .bool (trueB l src)]) ∧ Below w.heap.size w w' := by
  have hB := below_al (Below.refl w.heap.size w) (.cells #[.slice A n c, .int .i64 a, .bool o] 26)
  have K := Blk.new w 26 #[.slice A n c, .int .i64 a, .bool o]
  have hlen : l.length = n := by have := hr.1; rw [flatI_len] at this; omega
  have c1 := true_any A n c l a o src (w.alloc (.cells #[.slice A n c, .int .i64 a, .bool o] 26)) ((hr.below hB).more hB.size) hn
  unfold sizeW sizeH
  unfold trueW trueH trueB at c1
  unfold trueB
  rcases find_ways l src with ⟨h1, h2, _⟩ | ⟨k, i, h1, h2, h3, h4, _⟩
  · rw [h2] at c1 ⊢
    clear h1 h2
    go_enter Try.func8, Try.ntmps8
    go_wp2_with (go_at_call 10; (with_reducible refine c1.mono ?_); rintro e w1 ⟨rfl, hb⟩)
    first | (go_region_with (fail)) | (fail)
    all_goals
      go_wp2
      refine bodyPost_ret (v := .tuple #[.int .i64 0, .int .i64 0, .bool false]) (by simp [results, Try.results8, go_sem]) rfl ⟨rfl, below_dr (below_next hB hb) 1⟩
  · rw [h4] at c1 ⊢
    have hkn : k < n := by have := (List.getElem?_eq_some_iff.1 h1).1; omega
    have c2 := fun w0 (hb0 : Below w.heap.size w w0) => find_any A n c l a o src w0 ((hr.below hb0).more hb0.size) hn
    rw [h3] at c2
    simp only [Option.isSome_some] at c1 ⊢
    go_enter Try.func8, Try.ntmps8
    go_wp2_with (go_at_call 10; (with_reducible refine c1.mono ?_); rintro e w1 ⟨rfl, hb⟩)
    have hB1 := below_next hB hb
    have K1 := K.next hb
    have z1 := K1.lt
    obtain ⟨ad, rfl, hab, e0, e1, e2, e3⟩ := img_of (hr.below hB1) h1
    have q0 := K1.cell 0
    have q1 := K1.cell 1
    have q2 := K1.cell 2
    clear hr h1 c1 K hb hB
    obtain ⟨is, iw, ih, io⟩ := i
    simp only at e0 e1 e2 e3 ⊢
    have hab1 : (ad.add (k * 4)).block < w1.heap.size := by rw [block_of_add]; omega
    have c3 := fun w0 (hS : (∀ b o, b < w1.heap.size → w0.cell? ⟨b, o, none⟩ = w1.cell? ⟨b, o, none⟩) ∧ Below w1.heap.size w1 w0) => c2 w0 (below_next hB1 hS.2)
    clear c2
    go_region_held3 (fun W' => (∀ b o, b < w1.heap.size → W'.cell? ⟨b, o, none⟩ = w1.cell? ⟨b, o, none⟩) ∧ Below w1.heap.size w1 W')
        (first | assumption | exact ⟨fun _ _ _ => rfl, (Below.refl _ _).drew⟩ | exact sall (by assumption) (by assumption))
        (first
          | (go_at_call 20; (with_reducible refine (c3 _ (by assumption)).mono ?_); rintro e wa ⟨rfl, hba⟩))
    all_goals
      cases io
      · go_wp2
        refine bodyPost_ret (v := .tuple #[.int .i64 1024, .int .i64 1024, .bool true]) (by simp [results, Try.results8, go_sem]) rfl ⟨rfl, below_next (below_dr hB1 1) hba⟩
      · go_wp2
        refine bodyPost_ret (v := .tuple #[.int .i64 iw, .int .i64 ih, .bool true]) (by simp [results, Try.results8, go_sem]) rfl ⟨rfl, below_next (below_dr hB1 1) hba⟩
set_option maxHeartbeats 8000000 in
set_option maxRecDepth 100000 in
theorem may_any (A : Option Addr) (n c : Nat) (l : List Img) (a : Int) (o : Bool) (w : World) (hr : Reads w w.heap.size 4 A n (flatI l)) (hn : n ≤ 4611686018427387904) :
    Calls Try.prog 12 #[.agg #[.slice A n c, .int .i64 a, .bool o]] w fun e w' => e = .returned (.bool (mayT l a)) ∧ Below w.heap.size w w' := by
  have hlen : l.length = n := by have := hr.1; rw [flatI_len] at this; omega
  have hB := below_al (Below.refl w.heap.size w) (.cells #[.slice A n c, .int .i64 a, .bool o] 26)
  have K := Blk.new w 26 #[.slice A n c, .int .i64 a, .bool o]
  unfold mayT
  rw [hlen]
  by_cases h20 : 20 < n
  · have e0 : decide (n ≤ 20) = false := decide_eq_false (by omega)
    rw [e0, Bool.false_and]
    go_enter Try.func12, Try.ntmps12
    go_wp2
    go_ret
    exact ⟨rfl, hB⟩
  have e0 : decide (n ≤ 20) = true := decide_eq_true (by omega)
  have h20' : n ≤ 20 := by omega
  rw [e0, Bool.true_and]
  clear h20 e0
  have u1 := fun w => upto_any a 1024 w
  cases hu : inR a 1024 with
  | false =>
    rw [hu] at u1
    rw [Bool.false_and]
    go_enter Try.func12, Try.ntmps12
    go_wp2_with (go_at_call 21; (with_reducible refine (u1 _).mono ?_); rintro e w1 ⟨rfl, rfl⟩)
    go_ret
    exact ⟨rfl, hB⟩
  | true =>
    rw [hu] at u1
    rw [Bool.true_and]
    clear hu
    obtain ⟨R, hR⟩ : ∃ R, R = mayUpTo l n := ⟨_, rfl⟩
    rw [← hR]
    have HR := Lib.hid hR
    clear hR
    go_enter Try.func12, Try.ntmps12
    go_wp2_with (go_at_call 21; (with_reducible refine (u1 _).mono ?_); rintro e w1 ⟨rfl, rfl⟩)
    go_loopw [19] (fun i wr => ∃ k : Nat, k ≤ n ∧ i = .int .i64 k ∧ Hid (mayUpTo l k = true) ∧ Below w.heap.size w wr ∧ Blk wr w.heap.size 26 #[.slice A n c, .int .i64 a, .bool o]) (fun i _ => n - (intOf i).toNat)
    case atStart => exact ⟨0, Nat.zero_le _, rfl, (rfl : mayUpTo l 0 = true), hB, K⟩
    case round =>
      obtain ⟨k, hk, rfl, HK, hBr, Kr⟩ := hrel
      by_cases hlt : k < n
      · have hkl : k < l.length := by omega
        obtain ⟨r, hrk⟩ : ∃ r, l[k]? = some r := ⟨l[k], List.getElem?_eq_getElem hkl⟩
        have HA : mayAt l k = (inR r.w 1048576 && (inR r.h 1048576 && (findI l r.s == (k : Int)))) := by unfold mayAt; rw [hrk]
        have hno : mayAt l k = false → R = false := fun h => HR.out.trans (mayUpTo_no h hlt)
        obtain ⟨ad, rfl, hab, e0, e1, e2, e3⟩ := img_of (hr.below hBr) hrk
        have u2 := fun w => upto_any r.w 1048576 w
        have u3 := fun w => upto_any r.h 1048576 w
        have c4 := fun w0 (hb0 : Below w.heap.size w w0) => find_any (some ad) n c l a o r.s w0 ((hr.below hb0).more hb0.size) hn
        have kr : Blk (wr.alloc (.cells #[.string r.s, .int .i64 r.w, .int .i64 r.h, .bool r.o] 47)) w.heap.size 26 #[.slice (some ad) n c, .int .i64 a, .bool o] := Kr.alloc _
        have kb := below_al hBr (.cells #[.string r.s, .int .i64 r.w, .int .i64 r.h, .bool r.o] 47)
        have q0 := Kr.cell 0
        have q1 := Kr.cell 1
        have q2 := Kr.cell 2
        have zr := Kr.lt
        have nr : w.heap.size ≠ wr.heap.size := Nat.ne_of_lt zr
        cases h1 : inR r.w 1048576 with
        | false =>
          obtain rfl : R = false := hno (by rw [HA, h1, Bool.false_and])
          rw [h1] at u2
          clear HA hno hrk h1
          go_wp2_with (go_at_call 21; (first | (with_reducible refine (u2 _).mono ?_) | (with_reducible refine (u3 _).mono ?_)); rintro e w1 ⟨rfl, rfl⟩)
          go_ret
          exact ⟨rfl, kb⟩
        | true =>
          rw [h1] at u2
          cases h2 : inR r.h 1048576 with
          | false =>
            obtain rfl : R = false := hno (by rw [HA, h1, h2, Bool.false_and, Bool.and_false])
            rw [h2] at u3
            clear HA hno hrk h1 h2
            go_wp2_with (go_at_call 21; (first | (with_reducible refine (u2 _).mono ?_) | (with_reducible refine (u3 _).mono ?_)); rintro e w1 ⟨rfl, rfl⟩)
            go_ret
            exact ⟨rfl, kb⟩
          | true =>
            rw [h2] at u3
            have c5 := c4 _ kb
            cases h3 : (findI l r.s == (k : Int)) with
            | false =>
              obtain rfl : R = false := hno (by rw [HA, h1, h2, h3]; rfl)
              have h4 : (findI l r.s != (k : Int)) = true := by rw [bne, h3]; rfl
              clear HA hno hrk h1 h2 h3 c4
              generalize findI l r.s = z at *
              go_wp2_with (first
                | (go_at_call 21; (first | (with_reducible refine (u2 _).mono ?_) | (with_reducible refine (u3 _).mono ?_)); rintro e w1 ⟨rfl, rfl⟩)
                | (go_at_call 20; (with_reducible refine c5.mono ?_); rintro e w1 ⟨rfl, hb⟩))
              go_ret
              exact ⟨rfl, below_next kb hb⟩
            | true =>
              have HK' : Hid (mayUpTo l (k + 1) = true) := by
                show (mayUpTo l k && mayAt l k) = true
                rw [HK.out, HA, h1, h2, h3]; rfl
              rw [eq_of_beq h3] at c5
              clear HA hno hrk h1 h2 h3 c4
              go_wp2_with (first
                | (go_at_call 21; (first | (with_reducible refine (u2 _).mono ?_) | (with_reducible refine (u3 _).mono ?_)); rintro e w1 ⟨rfl, rfl⟩)
                | (go_at_call 20; (with_reducible refine c5.mono ?_); rintro e w1 ⟨rfl, hb⟩
                   have hB1 := below_next kb hb
                   have K1 := kr.next hb))
              go_roundw
              case rel => exact ⟨k + 1, by omega, by go_num, HK', hB1, K1⟩
              case measure => simp [intOf]; omega
      · obtain rfl : k = n := by omega
        obtain rfl : R = true := HR.out.trans HK.out
        go_wp2
        go_ret
        exact ⟨rfl, hBr⟩
end Go.Proofs.Ytibpjfeghpmoiaa
