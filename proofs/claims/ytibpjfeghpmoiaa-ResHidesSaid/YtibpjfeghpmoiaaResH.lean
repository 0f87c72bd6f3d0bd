/- What the landed package res's Alike answers. Conditions: the lists lie in memory as they are read. -/
import Derived.Test.YtibpjfeghpmoiaaResG
import Derived.Deep.RegionLaw
import Derived.Deep.RegionWith
import Derived.Deep.RegionHeld3
namespace Go.Proofs.Ytibpjfeghpmoiaa
open Go.ChangeShapes Go.WideShapes Go.ChangeAt Go.RowKit
theorem neq_imgC (w : World) (a b : Img) : (binOp .neq 47 (.agg #[.string a.s, .int .i64 a.w, .int .i64 a.h, .bool a.o]) (.agg #[.string b.s, .int .i64 b.w, .int .i64 b.h, .bool b.o])).run Try.prog w = .ok (.bool (!a.eqb b)) w := by
  unfold Img.eqb
  rw [beq_toListBytes]
  cases h1 : (a.s.toList == b.s.toList) <;> cases h2 : (a.w == b.w) <;> cases h3 : (a.h == b.h) <;> cases h4 : (a.o == b.o) <;> go_simp
theorem neq_fontC (w : World) (a b : Int) (o p : Bool) : (binOp .neq 24 (.agg #[.int .i64 a, .bool o]) (.agg #[.int .i64 b, .bool p])).run Try.prog w = .ok (.bool (!((a == b) && (o == p)))) w := by
  cases h2 : (a == b) <;> cases h4 : (o == p) <;> go_simp
theorem img_at {w : World} {B n k : Nat} {ad : Addr} {l : List Img} {r : Img} (h : Reads w B 4 (some ad) n (flatI l)) (hk : l[k]? = some r) :
    w.cell? (ad.add (k * 4)) = some (.string r.s) ∧ w.cell? ⟨(ad.add (k * 4)).block, (ad.add (k * 4)).off + 1, none⟩ = some (.int .i64 r.w) ∧
      w.cell? ⟨(ad.add (k * 4)).block, (ad.add (k * 4)).off + 2, none⟩ = some (.int .i64 r.h) ∧ w.cell? ⟨(ad.add (k * 4)).block, (ad.add (k * 4)).off + 3, none⟩ = some (.bool r.o) := by
  obtain ⟨ad', e, _, hc⟩ := img_of h hk
  injection e with e
  subst e
  exact hc
set_option maxHeartbeats 16000000 in
set_option maxRecDepth 100000 in
theorem alike_no (A : Option Addr) (n c : Nat) (l : List Img) (a : Int) (o : Bool) (A2 : Option Addr) (m c2 : Nat) (l2 : List Img) (b : Int) (p : Bool) (w : World) (hr : Reads w w.heap.size 4 A n (flatI l)) (hr2 : Reads w w.heap.size 4 A2 m (flatI l2)) (hF : ((pubA a o == pubA b p) && (o == p)) = false) :
    Calls Try.prog 19 #[.agg #[.slice A n c, .int .i64 a, .bool o], .agg #[.slice A2 m c2, .int .i64 b, .bool p]] w fun e w' => e = .returned (.bool (likeT l a o l2 b p)) ∧ Below w.heap.size w w' := by
  have hlen : l.length = n := by have := hr.1; rw [flatI_len] at this; omega
  have hlen2 : l2.length = m := by have := hr2.1; rw [flatI_len] at this; omega
  have hB := below_al (below_al (Below.refl w.heap.size w) (.cells #[.slice A n c, .int .i64 a, .bool o] 26)) (.cells #[.slice A2 m c2, .int .i64 b, .bool p] 26)
  have K1 := (Blk.new w 26 #[.slice A n c, .int .i64 a, .bool o]).alloc (.cells #[.slice A2 m c2, .int .i64 b, .bool p] 26)
  have K2 := Blk.new (w.alloc (.cells #[.slice A n c, .int .i64 a, .bool o] 26)) 26 #[.slice A2 m c2, .int .i64 b, .bool p]
  rw [size_al] at K2
  unfold likeT sameT
  have u1 := fun w => pubf_any a o w
  have u2 := fun w => pubf_any b p w
  have hf := fun w => neq_fontC w (pubA a o) (pubA b p) o p
  have hass : ((pubA a o == pubA b p) && ((o == p) && sameI (l.map pubI) (l2.map pubI))) = (((pubA a o == pubA b p) && (o == p)) && sameI (l.map pubI) (l2.map pubI)) := (Bool.and_assoc _ _ _).symm
  rw [hass]
  clear hass
  rw [hF] at hf
  rw [hF, Bool.false_and]
  clear hF
  generalize pubA a o = pa at *
  generalize pubA b p = pb at *
  go_enter Try.func19, Try.ntmps19
  go_wp2
  first
  | (go_region_law (first
      | ((try go_simp); go_at_call 22; (with_reducible refine (u1 _).mono ?_); rintro e w1 ⟨rfl, hb⟩
         have hB1 := below_next hB.drew hb
         have K21 := K2.drew.next hb
         have q0 := K21.cell 0
         have q1 := K21.cell 1
         have q2 := K21.cell 2)
      | ((try go_simp); go_at_call 22; (with_reducible refine (u2 _).mono ?_); rintro e w2 ⟨rfl, hb2⟩
         have hB2 := below_next hB1 hb2)))
  | (fail)
  all_goals
    go_wp2
    go_ret
    exact ⟨rfl, hB2⟩
set_option maxHeartbeats 16000000 in
set_option maxRecDepth 100000 in
theorem alike_len (A : Option Addr) (n c : Nat) (l : List Img) (a : Int) (o : Bool) (A2 : Option Addr) (m c2 : Nat) (l2 : List Img) (b : Int) (p : Bool) (w : World) (hr : Reads w w.heap.size 4 A n (flatI l)) (hr2 : Reads w w.heap.size 4 A2 m (flatI l2)) (hF : ((pubA a o == pubA b p) && (o == p)) = true) (hnm : ((n : Int) != (m : Int)) = true) :
    Calls Try.prog 19 #[.agg #[.slice A n c, .int .i64 a, .bool o], .agg #[.slice A2 m c2, .int .i64 b, .bool p]] w fun e w' => e = .returned (.bool (likeT l a o l2 b p)) ∧ Below w.heap.size w w' := by
  have hlen : l.length = n := by have := hr.1; rw [flatI_len] at this; omega
  have hlen2 : l2.length = m := by have := hr2.1; rw [flatI_len] at this; omega
  have hB := below_al (below_al (Below.refl w.heap.size w) (.cells #[.slice A n c, .int .i64 a, .bool o] 26)) (.cells #[.slice A2 m c2, .int .i64 b, .bool p] 26)
  have K1 := (Blk.new w 26 #[.slice A n c, .int .i64 a, .bool o]).alloc (.cells #[.slice A2 m c2, .int .i64 b, .bool p] 26)
  have K2 := Blk.new (w.alloc (.cells #[.slice A n c, .int .i64 a, .bool o] 26)) 26 #[.slice A2 m c2, .int .i64 b, .bool p]
  rw [size_al] at K2
  unfold likeT sameT
  have u1 := fun w => pubf_any a o w
  have u2 := fun w => pubf_any b p w
  have hf := fun w => neq_fontC w (pubA a o) (pubA b p) o p
  have hass : ((pubA a o == pubA b p) && ((o == p) && sameI (l.map pubI) (l2.map pubI))) = (((pubA a o == pubA b p) && (o == p)) && sameI (l.map pubI) (l2.map pubI)) := (Bool.and_assoc _ _ _).symm
  rw [hass]
  clear hass
  rw [hF]
  rw [hF] at hf
  rw [Bool.true_and]
  clear hF
  obtain ⟨R, hR⟩ : ∃ R, R = sameI (l.map pubI) (l2.map pubI) := ⟨_, rfl⟩
  rw [← hR]
  have HR := Lib.hid hR
  clear hR
  generalize pubA a o = pa at *
  generalize pubA b p = pb at *
  obtain rfl : R = false := HR.out.trans (sameI_len (by have := bne_iff_ne.1 hnm; simp; omega))
  go_enter Try.func19, Try.ntmps19
  go_wp2
  generalize (w.alloc (.cells #[.slice A n c, .int .i64 a, .bool o] 26)).alloc (.cells #[.slice A2 m c2, .int .i64 b, .bool p] 26) = E at *
  have p0 := K1.cell 0
  have p1 := K1.cell 1
  have p2 := K1.cell 2
  have q0 := K2.cell 0
  have q1 := K2.cell 1
  have q2 := K2.cell 2
  have z1 := K1.lt
  have z2 := K2.lt
  first
  | (go_region_held3 (fun W' => (∀ b o, b < E.heap.size → W'.cell? ⟨b, o, none⟩ = E.cell? ⟨b, o, none⟩) ∧ Below E.heap.size E W')
      (first | assumption | exact ⟨fun _ _ _ => rfl, (Below.refl _ _).drew⟩ | exact sall (by assumption) (by assumption))
      (first
        | (go_at_call 22; (with_reducible refine (u1 _).mono ?_); rintro e w1 ⟨rfl, hb⟩)
        | (go_at_call 22; (with_reducible refine (u2 _).mono ?_); rintro e w2 ⟨rfl, hb2⟩)))
  | (fail)
  all_goals
    go_wp2
    go_ret
    rename_i hS
    exact ⟨rfl, below_next hB hS.2⟩
end Go.Proofs.Ytibpjfeghpmoiaa
