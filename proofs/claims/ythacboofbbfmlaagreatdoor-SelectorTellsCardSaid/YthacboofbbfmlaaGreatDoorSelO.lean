/- What Read answers, the empty selector where there is none. Conditions: the text is not too long. -/
import Derived.Test.YthacboofbbfmlaaGreatDoorSelL
import Derived.Test.YthacboofbbfmlaaGreatDoorSelM
/- Lists of selectors that lie in memory; law 09's awake. Conditions: none. -/
namespace Go.Proofs.YthacboofbbfmlaaGreatDoor
open Go.ChangeShapes Go.WideShapes Go.ChangeAt Go.RowKit Go.Shelf
namespace Sel
open Tok
open RowG (Row)
/-- A selector that lies in memory. -/
def SlR (w : World) (B : Nat) (c : XC) (x : Slr) : Prop := SLR w B c.A c.n x.parts ∧ BLR w B c.K c.m x.close
theorem SlR.below {w w' : World} {B B' : Nat} {c : XC} {x : Slr} (h : SlR w B c x) (hb : Below B w w') (hB : B ≤ B') : SlR w' B' c x := ⟨h.1.below hb hB, h.2.below hb hB⟩
theorem SXm.reads {w : World} {base : Nat} {c : XC} {x : Slr} (h : SXm w base c x) : SlR w w.heap.size c x ∧ c.n = x.parts.length ∧ c.m = x.close.length := by
  obtain ⟨h1, h2⟩ := h
  obtain ⟨h3, h4⟩ := h1.reads
  obtain ⟨h5, h6⟩ := h2.reads
  rw [← h6] at h5
  exact ⟨⟨h3, h5⟩, h4, h6⟩
/-- Selectors that lie in memory. -/
def XsR (w : World) (B : Nat) (A : Option Addr) (n : Nat) (xs : List Slr) : Prop := ∃ cs : List XC, Reads w B 2 A n (cs.flatMap xcC) ∧ cs.length = xs.length ∧ ∀ (i : Nat) (c : XC) (x : Slr), cs[i]? = some c → xs[i]? = some x → SlR w B c x
theorem XsR.below {w w' : World} {B B' n : Nat} {A : Option Addr} {xs : List Slr} (h : XsR w B A n xs) (hb : Below B w w') (hB : B ≤ B') : XsR w' B' A n xs := by
  obtain ⟨cs, h1, h2, h3⟩ := h
  exact ⟨cs, (h1.below hb).more hB, h2, fun i c p a b => (h3 i c p a b).below hb hB⟩
theorem XsR.len {w : World} {B n : Nat} {A : Option Addr} {xs : List Slr} (h : XsR w B A n xs) : xs.length = n := by
  obtain ⟨cs, h1, h2, -⟩ := h
  have := h1.1
  rw [flat_len xcC_len] at this
  omega
theorem XsL.reads {w : World} {base n c : Nat} {A : Option Addr} {xs : List Slr} (h : XsL w base (.slice A n c) xs) : XsR w w.heap.size A n xs := by
  obtain ⟨cs, h1, h2, h3⟩ := h
  obtain ⟨h4, h5⟩ := h1.reads
  rw [← h5] at h4
  exact ⟨cs, h4, h2, fun i c p hc hp => (h3 i c p hc hp).reads.1⟩
theorem XsR.at_ {w : World} {B n k : Nat} {A : Option Addr} {xs : List Slr} {x : Slr} (h : XsR w B A n xs) (hk : xs[k]? = some x) :
    ∃ (ad : Addr) (c : XC), A = some ad ∧ ad.block < B ∧ w.cell? (ad.add (k * 2)) = some (.slice c.A c.n c.c) ∧ w.cell? ⟨(ad.add (k * 2)).block, (ad.add (k * 2)).off + 1, none⟩ = some (.slice c.K c.m c.d) ∧ SlR w B c x := by
  have hl := h.len
  obtain ⟨cs, h1, h2, h3⟩ := h
  have hkl := (List.getElem?_eq_some_iff.1 hk).1
  obtain ⟨c, hc⟩ : ∃ c, cs[k]? = some c := ⟨_, List.getElem?_eq_getElem (by omega)⟩
  obtain ⟨ad, e, hb, hcl⟩ := h1.2 (by omega)
  have f0 := flat_at xcC_len cs k c 0 hc (by decide)
  have f1 := flat_at xcC_len cs k c 1 hc (by decide)
  refine ⟨ad, c, e, hb, hcl _ _ f0, ?_, h3 k c x hc hk⟩
  have := hcl _ _ f1; rwa [← add_of_add, add_one] at this
def exX : Slr := ⟨[⟨[100, 105, 118], [], [], false, false⟩, ⟨[97], [], [[120]], false, true⟩, ⟨[], [[105]], [], false, false⟩], [true, false]⟩
def exY : Slr := ⟨[⟨[97], [], [], false, false⟩], []⟩
def exZ : Slr := ⟨[⟨[], [], [], false, false⟩], []⟩
theorem add_zero_addr (a : Addr) : a.add 0 = a := by cases a; rfl
theorem ex1_read : readP [32, 68, 73, 86, 32, 62, 32, 97, 46, 120, 58, 118, 105, 115, 105, 116, 101, 100, 32, 32, 35, 105, 32] = some exX := by decide +kernel
theorem ex2_read : listP.go (splitF 44 [97, 44, 32, 42]) = some [exY, exZ] := by decide +kernel
theorem ex3_read : readP [97, 32, 62, 32] = none := by decide +kernel
theorem exX_print : printP exX = [100, 105, 118, 32, 62, 32, 97, 46, 120, 58, 118, 105, 115, 105, 116, 101, 100, 32, 35, 105] := by decide +kernel
theorem exZ_print : printP exZ = [42] := by decide +kernel
theorem exX_weigh : (exX.parts.map wS).sum = 10202 := by decide +kernel
theorem exX_may : maySlr exX = true := by decide +kernel
theorem exXY : decide (exX = exY) = false := by decide +kernel
theorem exX_few : Few exX.parts := by unfold Few; decide +kernel
theorem exX_sh : ShX exX.parts := by unfold ShX ShS; decide +kernel
theorem exZ_few : Few exZ.parts := by unfold Few; decide +kernel
theorem exZ_sh : ShX exZ.parts := by unfold ShX ShS; decide +kernel
set_option maxRecDepth 100000 in
set_option maxHeartbeats 32000000 in
theorem awake_any (w : World) : Calls Tryz.prog 4 #[] w fun e w' => e = .returned (.bool true) ∧ Below w.heap.size w w' := by
  have cr1 := fun w => read_any [32, 68, 73, 86, 32, 62, 32, 97, 46, 120, 58, 118, 105, 115, 105, 116, 101, 100, 32, 32, 35, 105, 32] (by decide) w
  rw [show toB [32, 68, 73, 86, 32, 62, 32, 97, 46, 120, 58, 118, 105, 115, 105, 116, 101, 100, 32, 32, 35, 105, 32] = ⟨#[32, 68, 73, 86, 32, 62, 32, 97, 46, 120, 58, 118, 105, 115, 105, 116, 101, 100, 32, 32, 35, 105, 32]⟩ from rfl, ex1_read] at cr1
  have cr3 := fun w => read_any [97, 32, 62, 32] (by decide) w
  rw [show toB [97, 32, 62, 32] = ⟨#[97, 32, 62, 32]⟩ from rfl, ex3_read] at cr3
  have cl := fun w => list_any [97, 44, 32, 42] (by decide) w
  rw [show toB [97, 44, 32, 42] = ⟨#[97, 44, 32, 42]⟩ from rfl, ex2_read] at cl
  go_enter Tryz.func4, Tryz.ntmps4
  go_upto_region 4 with (first
    | (go_at_call 7; (with_reducible refine (cr1 _).mono ?_); rintro e w1 ⟨⟨vp, vb, rfl, hP, hQ⟩, hb1⟩
       obtain ⟨A1, c1, rfl⟩ : ∃ A c, vp = .slice A 3 c := hP.form
       obtain ⟨K1, d1, rfl⟩ : ∃ A c, vb = .slice A 2 c := hQ.form
       obtain ⟨hX, -, -⟩ := SXm.reads (c := ⟨A1, 3, c1, K1, 2, d1⟩) ⟨hP, hQ⟩
       have hA1 := below_al (Below.refl w1.heap.size w1) (.cells #[.slice A1 3 c1, .slice K1 2 d1] 25)
       have KB1 := Blk.new w1 25 #[.slice A1 3 c1, .slice K1 2 d1]
       have hX1 := hX.below hA1 hA1.size
       have hB1 := below_next hb1 hA1)
    | (go_at_call 9; (with_reducible refine (cl _).mono ?_); rintro e w2 ⟨⟨v, rfl, hL⟩, hb2⟩
       obtain ⟨AL, cL, rfl⟩ : ∃ A c, v = .slice A 2 c := hL.form
       have hR := hL.reads
       have hX2 := hX1.below hb2 hb2.size
       have KB2 := KB1.next hb2
       have hB2 := below_next hB1 hb2)
    | (go_at_call 7; (with_reducible refine (cr3 _).mono ?_); rintro e w3 ⟨hsr, hb3⟩
       obtain rfl := hsr
       have hA3 := below_al hb3 (.cells #[.slice none 0 0, .slice none 0 0] 25)
       have hX3 := hX2.below hA3 hA3.size
       have hR3 := hR.below hA3 hA3.size
       have KB3 := KB2.next hA3
       have hB3 := below_next hB2 hA3))
  generalize w3.alloc (.cells #[.slice none 0 0, .slice none 0 0] 25) = W at *
  obtain ⟨ad, cY, rfl, hadl, y0, y1, hY⟩ := hR3.at_ (k := 0) (x := exY) rfl
  obtain ⟨ad', cZ, e, -, z0, z1, hZ⟩ := hR3.at_ (k := 1) (x := exZ) rfl
  obtain rfl := Option.some.inj e
  clear cr1 cr3 cl hP hQ hX hA1 KB1 hX1 hB1 hL hR hX2 KB2 hB2 hA3 hR3 hb1 hb2 hb3
  rw [show (0 : Nat) * 2 = 0 from rfl, add_zero_addr] at y0 y1
  rw [show (1 : Nat) * 2 = 2 from rfl] at z0 z1
  obtain ⟨YA, Yn, Yc, YK, Ym, Yd⟩ := cY
  obtain ⟨ZA, Zn, Zc, ZK, Zm, Zd⟩ := cZ
  simp only at y0 y1 z0 z1 hY hZ
  have SK : ∀ W', Below W.heap.size W W' → (W'.cell? ⟨w1.heap.size, 0, none⟩ = some (.slice A1 3 c1) ∧ W'.cell? ⟨w1.heap.size, 1, none⟩ = some (.slice K1 2 d1) ∧ W'.cell? ad = some (.slice YA Yn Yc) ∧ W'.cell? ⟨ad.block, ad.off + 1, none⟩ = some (.slice YK Ym Yd) ∧ W'.cell? ⟨ad.block, ad.off + 2, none⟩ = some (.slice ZA Zn Zc) ∧ W'.cell? ⟨ad.block, ad.off + 2 + 1, none⟩ = some (.slice ZK Zm Zd) ∧ Below W.heap.size W W') := by
    intro W' hb
    obtain ⟨b0, b1⟩ := blk2 (KB3.next hb)
    exact ⟨b0, b1, (hb.cell (p := ad) hadl).trans y0, (hb.cell (p := ⟨ad.block, ad.off + 1, none⟩) hadl).trans y1, (hb.cell (p := ⟨ad.block, ad.off + 2, none⟩) hadl).trans z0, (hb.cell (p := ⟨ad.block, ad.off + 2 + 1, none⟩) hadl).trans z1, hb⟩
  have hS0 := SK W.drew (Below.refl _ _).drew
  have k1 : ∀ W', (W'.cell? ⟨w1.heap.size, 0, none⟩ = some (.slice A1 3 c1) ∧ W'.cell? ⟨w1.heap.size, 1, none⟩ = some (.slice K1 2 d1) ∧ W'.cell? ad = some (.slice YA Yn Yc) ∧ W'.cell? ⟨ad.block, ad.off + 1, none⟩ = some (.slice YK Ym Yd) ∧ W'.cell? ⟨ad.block, ad.off + 2, none⟩ = some (.slice ZA Zn Zc) ∧ W'.cell? ⟨ad.block, ad.off + 2 + 1, none⟩ = some (.slice ZK Zm Zd) ∧ Below W.heap.size W W') → Calls Tryz.prog 14 #[.agg #[.slice A1 3 c1, .slice K1 2 d1]] W' fun e w' => e = .returned (.string ⟨#[100, 105, 118, 32, 62, 32, 97, 46, 120, 58, 118, 105, 115, 105, 116, 101, 100, 32, 35, 105]⟩) ∧ (w'.cell? ⟨w1.heap.size, 0, none⟩ = some (.slice A1 3 c1) ∧ w'.cell? ⟨w1.heap.size, 1, none⟩ = some (.slice K1 2 d1) ∧ w'.cell? ad = some (.slice YA Yn Yc) ∧ w'.cell? ⟨ad.block, ad.off + 1, none⟩ = some (.slice YK Ym Yd) ∧ w'.cell? ⟨ad.block, ad.off + 2, none⟩ = some (.slice ZA Zn Zc) ∧ w'.cell? ⟨ad.block, ad.off + 2 + 1, none⟩ = some (.slice ZK Zm Zd) ∧ Below W.heap.size W w') := fun W' hS => by
    have hb := hS.2.2.2.2.2.2
    obtain ⟨h1, h2⟩ := hX3.below hb hb.size
    refine (print_any A1 K1 3 c1 2 d1 exX (by decide) (by decide) exX_few exX_sh W' h1 h2).mono ?_
    rintro e w' ⟨rfl, hb2⟩
    exact ⟨by rw [exX_print]; rfl, SK w' (below_next hb hb2)⟩
  have k2 : ∀ W', (W'.cell? ⟨w1.heap.size, 0, none⟩ = some (.slice A1 3 c1) ∧ W'.cell? ⟨w1.heap.size, 1, none⟩ = some (.slice K1 2 d1) ∧ W'.cell? ad = some (.slice YA Yn Yc) ∧ W'.cell? ⟨ad.block, ad.off + 1, none⟩ = some (.slice YK Ym Yd) ∧ W'.cell? ⟨ad.block, ad.off + 2, none⟩ = some (.slice ZA Zn Zc) ∧ W'.cell? ⟨ad.block, ad.off + 2 + 1, none⟩ = some (.slice ZK Zm Zd) ∧ Below W.heap.size W W') → Calls Tryz.prog 16 #[.agg #[.slice A1 3 c1, .slice K1 2 d1]] W' fun e w' => e = .returned (.int .i64 10202) ∧ (w'.cell? ⟨w1.heap.size, 0, none⟩ = some (.slice A1 3 c1) ∧ w'.cell? ⟨w1.heap.size, 1, none⟩ = some (.slice K1 2 d1) ∧ w'.cell? ad = some (.slice YA Yn Yc) ∧ w'.cell? ⟨ad.block, ad.off + 1, none⟩ = some (.slice YK Ym Yd) ∧ w'.cell? ⟨ad.block, ad.off + 2, none⟩ = some (.slice ZA Zn Zc) ∧ w'.cell? ⟨ad.block, ad.off + 2 + 1, none⟩ = some (.slice ZK Zm Zd) ∧ Below W.heap.size W w') := fun W' hS => by
    have hb := hS.2.2.2.2.2.2
    obtain ⟨h1, h2⟩ := hX3.below hb hb.size
    refine (weigh_any A1 K1 3 c1 2 d1 exX.parts (by decide) exX_few W' h1).mono ?_
    rintro e w' ⟨rfl, hb2⟩
    exact ⟨by rw [exX_weigh]; rfl, SK w' (below_next hb hb2)⟩
  have k3 : ∀ W', (W'.cell? ⟨w1.heap.size, 0, none⟩ = some (.slice A1 3 c1) ∧ W'.cell? ⟨w1.heap.size, 1, none⟩ = some (.slice K1 2 d1) ∧ W'.cell? ad = some (.slice YA Yn Yc) ∧ W'.cell? ⟨ad.block, ad.off + 1, none⟩ = some (.slice YK Ym Yd) ∧ W'.cell? ⟨ad.block, ad.off + 2, none⟩ = some (.slice ZA Zn Zc) ∧ W'.cell? ⟨ad.block, ad.off + 2 + 1, none⟩ = some (.slice ZK Zm Zd) ∧ Below W.heap.size W W') → Calls Tryz.prog 12 #[.agg #[.slice A1 3 c1, .slice K1 2 d1]] W' fun e w' => e = .returned (.bool true) ∧ (w'.cell? ⟨w1.heap.size, 0, none⟩ = some (.slice A1 3 c1) ∧ w'.cell? ⟨w1.heap.size, 1, none⟩ = some (.slice K1 2 d1) ∧ w'.cell? ad = some (.slice YA Yn Yc) ∧ w'.cell? ⟨ad.block, ad.off + 1, none⟩ = some (.slice YK Ym Yd) ∧ w'.cell? ⟨ad.block, ad.off + 2, none⟩ = some (.slice ZA Zn Zc) ∧ w'.cell? ⟨ad.block, ad.off + 2 + 1, none⟩ = some (.slice ZK Zm Zd) ∧ Below W.heap.size W w') := fun W' hS => by
    have hb := hS.2.2.2.2.2.2
    obtain ⟨h1, h2⟩ := hX3.below hb hb.size
    refine (may_any A1 K1 3 c1 2 d1 exX (by decide) (by decide) exX_few exX_sh W' h1 h2).mono ?_
    rintro e w' ⟨rfl, hb2⟩
    exact ⟨by rw [exX_may], SK w' (below_next hb hb2)⟩
  have hZn := hZ.1.len
  have hZm := hZ.2.len
  simp only at hZn hZm
  have k4 : ∀ W', (W'.cell? ⟨w1.heap.size, 0, none⟩ = some (.slice A1 3 c1) ∧ W'.cell? ⟨w1.heap.size, 1, none⟩ = some (.slice K1 2 d1) ∧ W'.cell? ad = some (.slice YA Yn Yc) ∧ W'.cell? ⟨ad.block, ad.off + 1, none⟩ = some (.slice YK Ym Yd) ∧ W'.cell? ⟨ad.block, ad.off + 2, none⟩ = some (.slice ZA Zn Zc) ∧ W'.cell? ⟨ad.block, ad.off + 2 + 1, none⟩ = some (.slice ZK Zm Zd) ∧ Below W.heap.size W W') → Calls Tryz.prog 14 #[.agg #[.slice ZA Zn Zc, .slice ZK Zm Zd]] W' fun e w' => e = .returned (.string ⟨#[42]⟩) ∧ (w'.cell? ⟨w1.heap.size, 0, none⟩ = some (.slice A1 3 c1) ∧ w'.cell? ⟨w1.heap.size, 1, none⟩ = some (.slice K1 2 d1) ∧ w'.cell? ad = some (.slice YA Yn Yc) ∧ w'.cell? ⟨ad.block, ad.off + 1, none⟩ = some (.slice YK Ym Yd) ∧ w'.cell? ⟨ad.block, ad.off + 2, none⟩ = some (.slice ZA Zn Zc) ∧ w'.cell? ⟨ad.block, ad.off + 2 + 1, none⟩ = some (.slice ZK Zm Zd) ∧ Below W.heap.size W w') := fun W' hS => by
    have hb := hS.2.2.2.2.2.2
    obtain ⟨h1, h2⟩ := hZ.below hb hb.size
    refine (print_any ZA ZK Zn Zc Zm Zd exZ (by rw [← hZn]; decide) (by rw [← hZm]; decide) exZ_few exZ_sh W' h1 h2).mono ?_
    rintro e w' ⟨rfl, hb2⟩
    exact ⟨by rw [exZ_print]; rfl, SK w' (below_next hb hb2)⟩
  have k5 : ∀ W', (W'.cell? ⟨w1.heap.size, 0, none⟩ = some (.slice A1 3 c1) ∧ W'.cell? ⟨w1.heap.size, 1, none⟩ = some (.slice K1 2 d1) ∧ W'.cell? ad = some (.slice YA Yn Yc) ∧ W'.cell? ⟨ad.block, ad.off + 1, none⟩ = some (.slice YK Ym Yd) ∧ W'.cell? ⟨ad.block, ad.off + 2, none⟩ = some (.slice ZA Zn Zc) ∧ W'.cell? ⟨ad.block, ad.off + 2 + 1, none⟩ = some (.slice ZK Zm Zd) ∧ Below W.heap.size W W') → Calls Tryz.prog 18 #[.agg #[.slice A1 3 c1, .slice K1 2 d1], .agg #[.slice A1 3 c1, .slice K1 2 d1]] W' fun e w' => e = .returned (.bool true) ∧ (w'.cell? ⟨w1.heap.size, 0, none⟩ = some (.slice A1 3 c1) ∧ w'.cell? ⟨w1.heap.size, 1, none⟩ = some (.slice K1 2 d1) ∧ w'.cell? ad = some (.slice YA Yn Yc) ∧ w'.cell? ⟨ad.block, ad.off + 1, none⟩ = some (.slice YK Ym Yd) ∧ w'.cell? ⟨ad.block, ad.off + 2, none⟩ = some (.slice ZA Zn Zc) ∧ w'.cell? ⟨ad.block, ad.off + 2 + 1, none⟩ = some (.slice ZK Zm Zd) ∧ Below W.heap.size W w') := fun W' hS => by
    have hb := hS.2.2.2.2.2.2
    obtain ⟨h1, h2⟩ := hX3.below hb hb.size
    refine (same_any A1 K1 A1 K1 3 c1 2 d1 3 c1 2 d1 exX exX (by decide) (by decide) exX_few W' h1 h1 h2 h2).mono ?_
    rintro e w' ⟨rfl, hb2⟩
    exact ⟨by rw [decide_eq_true rfl], SK w' (below_next hb hb2)⟩
  have k6 : ∀ W', (W'.cell? ⟨w1.heap.size, 0, none⟩ = some (.slice A1 3 c1) ∧ W'.cell? ⟨w1.heap.size, 1, none⟩ = some (.slice K1 2 d1) ∧ W'.cell? ad = some (.slice YA Yn Yc) ∧ W'.cell? ⟨ad.block, ad.off + 1, none⟩ = some (.slice YK Ym Yd) ∧ W'.cell? ⟨ad.block, ad.off + 2, none⟩ = some (.slice ZA Zn Zc) ∧ W'.cell? ⟨ad.block, ad.off + 2 + 1, none⟩ = some (.slice ZK Zm Zd) ∧ Below W.heap.size W W') → Calls Tryz.prog 18 #[.agg #[.slice A1 3 c1, .slice K1 2 d1], .agg #[.slice YA Yn Yc, .slice YK Ym Yd]] W' fun e w' => e = .returned (.bool false) ∧ (w'.cell? ⟨w1.heap.size, 0, none⟩ = some (.slice A1 3 c1) ∧ w'.cell? ⟨w1.heap.size, 1, none⟩ = some (.slice K1 2 d1) ∧ w'.cell? ad = some (.slice YA Yn Yc) ∧ w'.cell? ⟨ad.block, ad.off + 1, none⟩ = some (.slice YK Ym Yd) ∧ w'.cell? ⟨ad.block, ad.off + 2, none⟩ = some (.slice ZA Zn Zc) ∧ w'.cell? ⟨ad.block, ad.off + 2 + 1, none⟩ = some (.slice ZK Zm Zd) ∧ Below W.heap.size W w') := fun W' hS => by
    have hb := hS.2.2.2.2.2.2
    obtain ⟨h1, h2⟩ := hX3.below hb hb.size
    obtain ⟨h3, h4⟩ := hY.below hb hb.size
    refine (same_any A1 K1 YA YK 3 c1 2 d1 Yn Yc Ym Yd exX exY (by decide) (by decide) exX_few W' h1 h3 h2 h4).mono ?_
    rintro e w' ⟨rfl, hb2⟩
    exact ⟨by rw [exXY], SK w' (below_next hb hb2)⟩
  clear hY hZ hX3 hZn hZm SK y0 y1 z0 z1
  go_region_held3 (fun W' => (W'.cell? ⟨w1.heap.size, 0, none⟩ = some (.slice A1 3 c1) ∧ W'.cell? ⟨w1.heap.size, 1, none⟩ = some (.slice K1 2 d1) ∧ W'.cell? ad = some (.slice YA Yn Yc) ∧ W'.cell? ⟨ad.block, ad.off + 1, none⟩ = some (.slice YK Ym Yd) ∧ W'.cell? ⟨ad.block, ad.off + 2, none⟩ = some (.slice ZA Zn Zc) ∧ W'.cell? ⟨ad.block, ad.off + 2 + 1, none⟩ = some (.slice ZK Zm Zd) ∧ Below W.heap.size W W'))
    (first | (with_reducible assumption) | exact hS0)
    (first
      | (go_at_call 14; (first
          | ((with_reducible refine (k1 _ (by first | assumption | exact hS0)).mono ?_); rintro e wa ⟨rfl, hSa⟩)
          | ((with_reducible refine (k4 _ (by first | assumption | exact hS0)).mono ?_); rintro e wb ⟨rfl, hSb⟩)))
      | (go_at_call 16; (with_reducible refine (k2 _ (by first | assumption | exact hS0)).mono ?_); rintro e wc ⟨rfl, hSc⟩)
      | (go_at_call 12; (with_reducible refine (k3 _ (by first | assumption | exact hS0)).mono ?_); rintro e wd ⟨rfl, hSd⟩)
      | (go_at_call 18; (first
          | ((with_reducible refine (k5 _ (by first | assumption | exact hS0)).mono ?_); rintro e we ⟨rfl, hSe⟩)
          | ((with_reducible refine (k6 _ (by first | assumption | exact hS0)).mono ?_); rintro e wf ⟨rfl, hSf⟩))))
  rename_i hHd
  obtain ⟨-, -, -, -, -, -, hBd⟩ := hHd
  clear hS0 k1 k2 k3 k4 k5 k6
  go_wp2
  go_ret
  exact ⟨rfl, below_next hB3 hBd⟩
end Sel
end Go.Proofs.YthacboofbbfmlaaGreatDoor
namespace Go.Proofs.YthacboofbbfmlaaGreatDoor
open Go.ChangeShapes Go.WideShapes Go.ChangeAt Go.RowKit Go.Shelf
namespace Sel
open Tok
open RowG (Row)
/-- The selector that was read, or the empty one. -/
def selOf : Option Slr → Slr
  | none => ⟨[], []⟩
  | some x => x
theorem readX_any (l : List UInt8) (hl : l.length ≤ 100000) (w : World) :
    Calls Tryz.prog 7 #[.string (toB l)] w fun e w' => (∃ (A : Option Addr) (n c : Nat) (K : Option Addr) (m d : Nat), e = .returned (.tuple #[.agg #[.slice A n c, .slice K m d], .bool (readP l).isSome]) ∧ SlR w' w'.heap.size ⟨A, n, c, K, m, d⟩ (selOf (readP l)) ∧ n = (selOf (readP l)).parts.length ∧ m = (selOf (readP l)).close.length) ∧ Below w.heap.size w w' := by
  refine (read_any l hl w).mono ?_
  rintro e w' ⟨hs, hb⟩
  refine ⟨?_, hb⟩
  cases hr : readP l with
  | none =>
    rw [hr] at hs
    obtain rfl := hs
    obtain ⟨h1, h2, h3⟩ := SXm.reads (w := w') (base := w.heap.size) (c := ⟨none, 0, 0, none, 0, 0⟩) (x := ⟨[], []⟩) ⟨PaL.nil _ _, Row.nil _ _ _ _ _⟩
    exact ⟨none, 0, 0, none, 0, 0, rfl, h1, h2, h3⟩
  | some x =>
    rw [hr] at hs
    obtain ⟨vp, vb, rfl, hp, hq⟩ := hs
    obtain ⟨A, c, rfl⟩ := hp.form
    obtain ⟨K, d, rfl⟩ := hq.form
    obtain ⟨h1, h2, h3⟩ := SXm.reads (c := ⟨A, x.parts.length, c, K, x.close.length, d⟩) ⟨hp, hq⟩
    exact ⟨A, _, c, K, _, d, rfl, h1, rfl, rfl⟩
theorem may_few {x : Slr} (h : maySlr x = true) : x.parts.length ≤ 8 ∧ x.close.length ≤ 8 ∧ Few x.parts ∧ ShX x.parts := by
  obtain ⟨-, h2, h3, h4⟩ := maySlr_of h
  refine ⟨h2, by omega, fun p hp => ?_, fun p hp => ?_⟩
  · have h5 := List.all_eq_true.1 h4 p hp
    unfold maySim at h5
    simp only [Bool.and_eq_true, decide_eq_true_eq] at h5
    omega
  · have h5 := List.all_eq_true.1 h4 p hp
    unfold maySim at h5
    simp only [Bool.and_eq_true, Bool.or_eq_true, decide_eq_true_eq, List.all_eq_true] at h5
    obtain ⟨⟨⟨h6, h7⟩, h8⟩, -⟩ := h5
    refine ⟨?_, fun t ht => Nat.le_trans (nameB_len (h7 t ht)).2 (by decide), fun t ht => Nat.le_trans (nameB_len (h8 t ht)).2 (by decide)⟩
    rcases h6 with e | e
    · rw [e]; decide
    · exact Nat.le_trans (nameB_len e).2 (by decide)
theorem sel_few (l : List UInt8) : (selOf (readP l)).parts.length ≤ 8 ∧ (selOf (readP l)).close.length ≤ 8 ∧ Few (selOf (readP l)).parts ∧ ShX (selOf (readP l)).parts := by
  cases h : readP l with
  | none => exact ⟨by decide, by decide, (fun p hp => nomatch hp : Few []), (fun p hp => nomatch hp : ShX [])⟩
  | some x => exact may_few (read_may h)
end Sel
end Go.Proofs.YthacboofbbfmlaaGreatDoor
