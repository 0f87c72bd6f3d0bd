/- ResTells' walk, from what res's functions and the document's own answer. Conditions: the lists lie in memory as they are read. -/
import Derived.Test.YtibpjfeghpmoiaaResHides
import Derived.Test.YtibpjfeghpmoiaaResOwn
import Derived.Deep.Onto
import Derived.Deep.Cut
import Derived.Deep.CutRange
import Derived.Deep.DeepCutAuto
import Derived.Deep.RegionLaw
import Derived.Deep.RegionWith
namespace Go.Proofs.Ytibpjfeghpmoiaa
open Go.ChangeShapes Go.WideShapes Go.ChangeAt Go.RowKit
theorem Blk.put3 {w : World} {g : Nat} {t : TypeId} {x y z : Value} (h : Blk w g t #[x, y, z]) (a b c : Value) : Blk (((w.setCell ⟨g, 0, none⟩ a).setCell ⟨g, 1, none⟩ b).setCell ⟨g, 2, none⟩ c) g t #[a, b, c] := ((h.set_ 0 a).set_ 1 b).set_ 2 c
theorem Blk.far3 {w : World} {g g' : Nat} {t : TypeId} {cs : Array Value} (h : Blk w g t cs) (hn : g ≠ g') (a b c : Value) : Blk (((w.setCell ⟨g', 0, none⟩ a).setCell ⟨g', 1, none⟩ b).setCell ⟨g', 2, none⟩ c) g t cs := ((h.far (p := ⟨g', 0, none⟩) hn a).far (p := ⟨g', 1, none⟩) hn b).far (p := ⟨g', 2, none⟩) hn c
theorem below_put3 {w E : World} (h : Below w.heap.size w E) {g : Nat} (hg : w.heap.size ≤ g) (a b c : Value) : Below w.heap.size w (((E.setCell ⟨g, 0, none⟩ a).setCell ⟨g, 1, none⟩ b).setCell ⟨g, 2, none⟩ c) := below_set (below_set (below_set h (p := ⟨g, 0, none⟩) hg a) (p := ⟨g, 1, none⟩) hg b) (p := ⟨g, 2, none⟩) hg c
theorem own_put3 {w : World} {base n : Nat} {e : TypeId} {v : Value} {xs : List Value} {g : Nat} (h : w.ownsRow base e 4 v n xs) (hn : v.ownBlock ≠ some g) (a b c : Value) : (((w.setCell ⟨g, 0, none⟩ a).setCell ⟨g, 1, none⟩ b).setCell ⟨g, 2, none⟩ c).ownsRow base e 4 v n xs :=
  ownsRow_setCell_other (ownsRow_setCell_other (ownsRow_setCell_other h (a := ⟨g, 0, none⟩) hn a) (a := ⟨g, 1, none⟩) hn b) (a := ⟨g, 2, none⟩) hn c
theorem sput3 {E W : World} {g : Nat} (hg : E.heap.size ≤ g) (h : (∀ b o, b < E.heap.size → W.cell? ⟨b, o, none⟩ = E.cell? ⟨b, o, none⟩) ∧ Below E.heap.size E W) (a b c : Value) :
    (∀ b' o, b' < E.heap.size → (((W.setCell ⟨g, 0, none⟩ a).setCell ⟨g, 1, none⟩ b).setCell ⟨g, 2, none⟩ c).cell? ⟨b', o, none⟩ = E.cell? ⟨b', o, none⟩) ∧ Below E.heap.size E (((W.setCell ⟨g, 0, none⟩ a).setCell ⟨g, 1, none⟩ b).setCell ⟨g, 2, none⟩ c) := by
  have hb := below_put3 h.2 hg a b c
  exact ⟨fun b' o hlt => hb.cell (p := ⟨b', o, none⟩) hlt, hb⟩
theorem sal {E W : World} (h : (∀ b o, b < E.heap.size → W.cell? ⟨b, o, none⟩ = E.cell? ⟨b, o, none⟩) ∧ Below E.heap.size E W) (o : Obj) :
    (∀ b c, b < E.heap.size → (W.alloc o).cell? ⟨b, c, none⟩ = E.cell? ⟨b, c, none⟩) ∧ Below E.heap.size E (W.alloc o) :=
  ⟨fun b c hlt => (below_al h.2 o).cell (p := ⟨b, c, none⟩) hlt, below_al h.2 o⟩
theorem srf (E : World) : (∀ b c, b < E.heap.size → E.cell? ⟨b, c, none⟩ = E.cell? ⟨b, c, none⟩) ∧ Below E.heap.size E E := ⟨fun _ _ _ => rfl, Below.refl _ _⟩
theorem sdr {E W : World} (h : (∀ b o, b < E.heap.size → W.cell? ⟨b, o, none⟩ = E.cell? ⟨b, o, none⟩) ∧ Below E.heap.size E W) :
    (∀ b c, b < E.heap.size → W.drew.cell? ⟨b, c, none⟩ = E.cell? ⟨b, c, none⟩) ∧ Below E.heap.size E W.drew := ⟨h.1, h.2.drew⟩
theorem blk_at {W : World} {g : Nat} (h : W.heap.size = g) (t : TypeId) (cs : Array Value) : Blk (W.alloc (.cells cs t)) g t cs := h ▸ Blk.new W t cs
namespace resTells
set_option maxHeartbeats 16000000 in
set_option maxRecDepth 100000 in
theorem walk (A : Option Addr) (n ca : Nat) (la : List Img) (aa : Int) (oa : Bool) (A2 : Option Addr) (m cb : Nat) (lb : List Img) (ab : Int) (ob : Bool) (src : ByteArray) (w : World)
    (hra : Reads w w.heap.size 4 A n (flatI la)) (hrb : Reads w w.heap.size 4 A2 m (flatI lb)) (hn0 : n ≤ 9223372036854775807) (hm0 : m ≤ 9223372036854775807) :
    Calls Try.prog 3 #[.agg #[.slice A n ca, .int .i64 aa, .bool oa], .agg #[.slice A2 m cb, .int .i64 ab, .bool ob], .string src] w fun e w' => e = .returned (.bool true) ∧ Below w.heap.size w w' := by
  have hB := below_al (below_al (Below.refl w.heap.size w) (.cells #[.slice A n ca, .int .i64 aa, .bool oa] 26)) (.cells #[.slice A2 m cb, .int .i64 ab, .bool ob] 26)
  have Ka := (Blk.new w 26 #[.slice A n ca, .int .i64 aa, .bool oa]).alloc (.cells #[.slice A2 m cb, .int .i64 ab, .bool ob] 26)
  have Kb := Blk.new (w.alloc (.cells #[.slice A n ca, .int .i64 aa, .bool oa] 26)) 26 #[.slice A2 m cb, .int .i64 ab, .bool ob]
  rw [size_al] at Kb
  have c0 := resAwake.awake_any
  by_cases h1 : 100 < n
  · go_enter Try.func3, Try.ntmps3
    go_wp2_with (first
      | (go_at_call 6; (with_reducible refine (c0 _).mono ?_); rintro e w1 ⟨rfl, hb⟩
         have hB1 := below_next hB hb
         have q0 := (Ka.next hb).cell 0))
    go_ret
    exact ⟨rfl, hB1⟩
  by_cases h2 : 100 < m
  · go_enter Try.func3, Try.ntmps3
    go_wp2_with (first
      | (go_at_call 6; (with_reducible refine (c0 _).mono ?_); rintro e w1 ⟨rfl, hb⟩
         have hB1 := below_next hB hb
         have q0 := (Ka.next hb).cell 0
         have q1 := (Kb.next hb).cell 0))
    go_ret
    exact ⟨rfl, hB1⟩
  have hn1 : n ≤ 100 := by omega
  have hm1 : m ≤ 100 := by omega
  have hn : n ≤ 4611686018427387904 := by omega
  have hm : m ≤ 4611686018427387904 := by omega
  clear h1 h2
  have ra : ∀ w0, Below w.heap.size w w0 → Reads w0 w0.heap.size 4 A n (flatI la) := fun w0 h => (hra.below h).more h.size
  have rb : ∀ w0, Below w.heap.size w w0 → Reads w0 w0.heap.size 4 A2 m (flatI lb) := fun w0 h => (hrb.below h).more h.size
  go_enter Try.func3, Try.ntmps3
  go_upto_region 5 with (first
    | (go_at_call 6; (with_reducible refine (c0 _).mono ?_); rintro e w1 ⟨rfl, hb⟩
       have hB1 := below_next hB hb
       have Ka1 := Ka.next hb
       have Kb1 := Kb.next hb
       have q0 := Ka1.cell 0
       have q1 := Ka1.cell 1
       have q2 := Ka1.cell 2
       have p0 := Kb1.cell 0
       have p1 := Kb1.cell 1
       have p2 := Kb1.cell 2
       clear hb))
  go_cut [7, 8] (fun s7 s8 wx => ∃ (g7 g8 : Nat) (A7 : Option Addr) (c7 : Nat) (A8 : Option Addr) (c8 : Nat), s7 = .pointer (some ⟨g7, 0, none⟩) ∧ s8 = .pointer (some ⟨g8, 0, none⟩) ∧ Below w.heap.size w wx ∧ Blk wx w.heap.size 26 #[.slice A n ca, .int .i64 aa, .bool oa] ∧ Blk wx (w.heap.size + 1) 26 #[.slice A2 m cb, .int .i64 ab, .bool ob] ∧
    Blk wx g7 31 #[.slice A7 n c7, .int .i64 aa, .bool oa] ∧ Blk wx g8 31 #[.slice A8 m c8, .int .i64 ab, .bool ob] ∧ Reads wx wx.heap.size 4 A7 n (flatI la) ∧ Reads wx wx.heap.size 4 A8 m (flatI lb))
  case first =>
    have zt := Ka1.lt
    have zt2 := Kb1.lt
    have x1 := fun w0 (h : Below w.heap.size w w0) => own_own A n ca la aa oa w0 (ra w0 h) hn1
    have x2 := fun w0 (h : Below w.heap.size w w0) => own_own A2 m cb lb ab ob w0 (rb w0 h) hm1
    have BA0 : Below w.heap.size w w1.drew := hB1.drew
    have KA0 : Blk w1.drew w.heap.size 26 #[.slice A n ca, .int .i64 aa, .bool oa] := Ka1.drew
    have KB0 : Blk w1.drew (w.heap.size + 1) 26 #[.slice A2 m cb, .int .i64 ab, .bool ob] := Kb1.drew
    have BA1 : Below w.heap.size w ((w1.alloc (.cells #[.slice none 0 0, .int .i64 0, .bool false] 31)).drew) := (below_al hB1.drew (.cells #[.slice none 0 0, .int .i64 0, .bool false] 31))
    have KA1 : Blk ((w1.alloc (.cells #[.slice none 0 0, .int .i64 0, .bool false] 31)).drew) w.heap.size 26 #[.slice A n ca, .int .i64 aa, .bool oa] := (Blk.alloc Ka1.drew (.cells #[.slice none 0 0, .int .i64 0, .bool false] 31))
    have KB1 : Blk ((w1.alloc (.cells #[.slice none 0 0, .int .i64 0, .bool false] 31)).drew) (w.heap.size + 1) 26 #[.slice A2 m cb, .int .i64 ab, .bool ob] := (Blk.alloc Kb1.drew (.cells #[.slice none 0 0, .int .i64 0, .bool false] 31))
    have QA10 : Blk ((w1.alloc (.cells #[.slice none 0 0, .int .i64 0, .bool false] 31)).drew) (w1.heap.size) 31 #[.slice none 0 0, .int .i64 0, .bool false] := by
      have h := Blk.new w1.drew 31 #[.slice none 0 0, .int .i64 0, .bool false]
      repeat rw [size_al] at h
      exact h
    have BA2 : Below w.heap.size w (((w1.alloc (.cells #[.slice none 0 0, .int .i64 0, .bool false] 31)).alloc (.cells #[.slice none 0 0, .int .i64 0, .bool false] 31)).drew) := (below_al (below_al hB1.drew (.cells #[.slice none 0 0, .int .i64 0, .bool false] 31)) (.cells #[.slice none 0 0, .int .i64 0, .bool false] 31))
    have KA2 : Blk (((w1.alloc (.cells #[.slice none 0 0, .int .i64 0, .bool false] 31)).alloc (.cells #[.slice none 0 0, .int .i64 0, .bool false] 31)).drew) w.heap.size 26 #[.slice A n ca, .int .i64 aa, .bool oa] := (Blk.alloc (Blk.alloc Ka1.drew (.cells #[.slice none 0 0, .int .i64 0, .bool false] 31)) (.cells #[.slice none 0 0, .int .i64 0, .bool false] 31))
    have KB2 : Blk (((w1.alloc (.cells #[.slice none 0 0, .int .i64 0, .bool false] 31)).alloc (.cells #[.slice none 0 0, .int .i64 0, .bool false] 31)).drew) (w.heap.size + 1) 26 #[.slice A2 m cb, .int .i64 ab, .bool ob] := (Blk.alloc (Blk.alloc Kb1.drew (.cells #[.slice none 0 0, .int .i64 0, .bool false] 31)) (.cells #[.slice none 0 0, .int .i64 0, .bool false] 31))
    have QA20 : Blk (((w1.alloc (.cells #[.slice none 0 0, .int .i64 0, .bool false] 31)).alloc (.cells #[.slice none 0 0, .int .i64 0, .bool false] 31)).drew) (w1.heap.size) 31 #[.slice none 0 0, .int .i64 0, .bool false] := by
      have h := Blk.new w1.drew 31 #[.slice none 0 0, .int .i64 0, .bool false]
      repeat rw [size_al] at h
      exact h.alloc _
    have QA21 : Blk (((w1.alloc (.cells #[.slice none 0 0, .int .i64 0, .bool false] 31)).alloc (.cells #[.slice none 0 0, .int .i64 0, .bool false] 31)).drew) (w1.heap.size + 1) 31 #[.slice none 0 0, .int .i64 0, .bool false] := by
      have h := Blk.new (w1.drew.alloc (.cells #[.slice none 0 0, .int .i64 0, .bool false] 31)) 31 #[.slice none 0 0, .int .i64 0, .bool false]
      repeat rw [size_al] at h
      exact h
    have zw := hB1.size
    go_region_held3 (fun W' => (∀ b o, b < w1.heap.size → W'.cell? ⟨b, o, none⟩ = w1.cell? ⟨b, o, none⟩) ∧ Below w1.heap.size w1 W')
        (first | (with_reducible assumption) | ((repeat (first | (with_reducible refine sdr ?_) | (with_reducible refine sal ?_ _) | (with_reducible refine sput3 (by omega) ?_ _ _ _))); (first | (with_reducible assumption) | (with_reducible exact srf _))))
        (first
          | (go_at_call 7; (with_reducible refine (x1 _ BA0).mono ?_); rintro e w2 ⟨A7, c7, rfl, hY7, hb2⟩
             have S2 := sall (E := w1) (by assumption) hb2
             have e2 := S2.2.size
             have hY7m := World.ownsRow.mono hY7 BA0.size
             have hB2 := below_next BA0 hb2
             have KA2 := KA0.next hb2
             have KB2 := KB0.next hb2
             have zA2 := KA2.lt
             have zB2 := KB2.lt
             have BB0 : Below w.heap.size w w2 := hB2
             have BB1 : Below w.heap.size w (w2.alloc (.cells #[.slice none 0 0, .int .i64 0, .bool false] 31)) := (below_al hB2 (.cells #[.slice none 0 0, .int .i64 0, .bool false] 31))
             have BB2 : Below w.heap.size w ((w2.alloc (.cells #[.slice none 0 0, .int .i64 0, .bool false] 31)).alloc (.cells #[.slice none 0 0, .int .i64 0, .bool false] 31)) := (below_al (below_al hB2 (.cells #[.slice none 0 0, .int .i64 0, .bool false] 31)) (.cells #[.slice none 0 0, .int .i64 0, .bool false] 31))
             have mk0 : True := trivial)
          | (go_at_call 7; (with_reducible refine (x1 _ BA1).mono ?_); rintro e w2 ⟨A7, c7, rfl, hY7, hb2⟩
             have S2 := sall (E := w1) (by assumption) hb2
             have e2 := S2.2.size
             have hY7m := World.ownsRow.mono hY7 BA1.size
             have hB2 := below_next BA1 hb2
             have KA2 := KA1.next hb2
             have KB2 := KB1.next hb2
             have zA2 := KA2.lt
             have zB2 := KB2.lt
             have Q0 := QA10.next hb2
             have Q0z := Q0.lt
             have BB0 : Below w.heap.size w w2 := hB2
             have BB1 : Below w.heap.size w (w2.alloc (.cells #[.slice none 0 0, .int .i64 0, .bool false] 31)) := (below_al hB2 (.cells #[.slice none 0 0, .int .i64 0, .bool false] 31))
             have mk1 : True := trivial)
          | (go_at_call 7; (with_reducible refine (x1 _ BA2).mono ?_); rintro e w2 ⟨A7, c7, rfl, hY7, hb2⟩
             have S2 := sall (E := w1) (by assumption) hb2
             have e2 := S2.2.size
             have hY7m := World.ownsRow.mono hY7 BA2.size
             have hB2 := below_next BA2 hb2
             have KA2 := KA2.next hb2
             have KB2 := KB2.next hb2
             have zA2 := KA2.lt
             have zB2 := KB2.lt
             have Q0 := QA20.next hb2
             have Q0z := Q0.lt
             have Q1 := QA21.next hb2
             have Q1z := Q1.lt
             have BB0 : Below w.heap.size w w2 := hB2
             have mk2 : True := trivial)
          | (go_at_call 7; have mm := mk0; (with_reducible refine (x2 _ BB0).mono ?_); rintro e w3 ⟨A8, c8, rfl, hY8, hb3⟩
             have S3 := sall (E := w1) (by assumption) hb3
             have e3 := S3.2.size
             have hY8m := World.ownsRow.mono hY8 BB0.size
             have hB3 := below_next BB0 hb3
             have KA3 := KA2.next hb3
             have KB3 := KB2.next hb3
             have hY73 := own_below hY7m hb3)
          | (go_at_call 7; have mm := mk0; (with_reducible refine (x2 _ BB1).mono ?_); rintro e w3 ⟨A8, c8, rfl, hY8, hb3⟩
             have S3 := sall (E := w1) (by assumption) hb3
             have e3 := S3.2.size
             have hY8m := World.ownsRow.mono hY8 BB1.size
             have hB3 := below_next BB1 hb3
             have KA3 := (Blk.alloc KA2 (.cells #[.slice none 0 0, .int .i64 0, .bool false] 31)).next hb3
             have KB3 := (Blk.alloc KB2 (.cells #[.slice none 0 0, .int .i64 0, .bool false] 31)).next hb3
             have hY73 := own_below (World.ownsRow.alloc hY7m (.cells #[.slice none 0 0, .int .i64 0, .bool false] 31)) hb3
             have N0 : Blk (w2.alloc (.cells #[.slice none 0 0, .int .i64 0, .bool false] 31)) (w2.heap.size) 31 #[.slice none 0 0, .int .i64 0, .bool false] := by
                 have h := Blk.new w2 31 #[.slice none 0 0, .int .i64 0, .bool false]
                 repeat rw [size_al] at h
                 exact h
             have M0 := N0.next hb3
             have M0c0 := M0.cell 0
             have M0f0 := M0.frozen 0
             have M0c1 := M0.cell 1
             have M0f1 := M0.frozen 1
             have M0c2 := M0.cell 2
             have M0f2 := M0.frozen 2
             have M0z := M0.lt
             have M07 := own_blk_ne (t := 31) hY73 M0 (by decide)
             have M0n := Nat.ne_of_lt M0z
             have M08 := own_blk_ne (t := 31) hY8 M0 (by decide))
          | (go_at_call 7; have mm := mk0; (with_reducible refine (x2 _ BB2).mono ?_); rintro e w3 ⟨A8, c8, rfl, hY8, hb3⟩
             have S3 := sall (E := w1) (by assumption) hb3
             have e3 := S3.2.size
             have hY8m := World.ownsRow.mono hY8 BB2.size
             have hB3 := below_next BB2 hb3
             have KA3 := (Blk.alloc (Blk.alloc KA2 (.cells #[.slice none 0 0, .int .i64 0, .bool false] 31)) (.cells #[.slice none 0 0, .int .i64 0, .bool false] 31)).next hb3
             have KB3 := (Blk.alloc (Blk.alloc KB2 (.cells #[.slice none 0 0, .int .i64 0, .bool false] 31)) (.cells #[.slice none 0 0, .int .i64 0, .bool false] 31)).next hb3
             have hY73 := own_below (World.ownsRow.alloc (World.ownsRow.alloc hY7m (.cells #[.slice none 0 0, .int .i64 0, .bool false] 31)) (.cells #[.slice none 0 0, .int .i64 0, .bool false] 31)) hb3
             have N0 : Blk ((w2.alloc (.cells #[.slice none 0 0, .int .i64 0, .bool false] 31)).alloc (.cells #[.slice none 0 0, .int .i64 0, .bool false] 31)) (w2.heap.size) 31 #[.slice none 0 0, .int .i64 0, .bool false] := by
                 have h := Blk.new w2 31 #[.slice none 0 0, .int .i64 0, .bool false]
                 repeat rw [size_al] at h
                 exact h.alloc _
             have M0 := N0.next hb3
             have N1 : Blk ((w2.alloc (.cells #[.slice none 0 0, .int .i64 0, .bool false] 31)).alloc (.cells #[.slice none 0 0, .int .i64 0, .bool false] 31)) (w2.heap.size + 1) 31 #[.slice none 0 0, .int .i64 0, .bool false] := by
                 have h := Blk.new (w2.alloc (.cells #[.slice none 0 0, .int .i64 0, .bool false] 31)) 31 #[.slice none 0 0, .int .i64 0, .bool false]
                 repeat rw [size_al] at h
                 exact h
             have M1 := N1.next hb3
             have M0c0 := M0.cell 0
             have M0f0 := M0.frozen 0
             have M0c1 := M0.cell 1
             have M0f1 := M0.frozen 1
             have M0c2 := M0.cell 2
             have M0f2 := M0.frozen 2
             have M0z := M0.lt
             have M07 := own_blk_ne (t := 31) hY73 M0 (by decide)
             have M0n := Nat.ne_of_lt M0z
             have M08 := own_blk_ne (t := 31) hY8 M0 (by decide)
             have M1c0 := M1.cell 0
             have M1f0 := M1.frozen 0
             have M1c1 := M1.cell 1
             have M1f1 := M1.frozen 1
             have M1c2 := M1.cell 2
             have M1f2 := M1.frozen 2
             have M1z := M1.lt
             have M17 := own_blk_ne (t := 31) hY73 M1 (by decide)
             have M1n := Nat.ne_of_lt M1z
             have neM1M0 : w2.heap.size + 1 ≠ w2.heap.size := by omega
             have neM0M1 : w2.heap.size ≠ w2.heap.size + 1 := by omega
             have M18 := own_blk_ne (t := 31) hY8 M1 (by decide))
          | (go_at_call 7; have mm := mk1; (with_reducible refine (x2 _ BB0).mono ?_); rintro e w3 ⟨A8, c8, rfl, hY8, hb3⟩
             have S3 := sall (E := w1) (by assumption) hb3
             have e3 := S3.2.size
             have hY8m := World.ownsRow.mono hY8 BB0.size
             have hB3 := below_next BB0 hb3
             have KA3 := KA2.next hb3
             have KB3 := KB2.next hb3
             have hY73 := own_below hY7m hb3
             have R0 := Q0.next hb3
             have R0c0 := R0.cell 0
             have R0f0 := R0.frozen 0
             have R0c1 := R0.cell 1
             have R0f1 := R0.frozen 1
             have R0c2 := R0.cell 2
             have R0f2 := R0.frozen 2
             have R0z := R0.lt
             have R07 := own_blk_ne (t := 31) hY73 R0 (by decide)
             have R0n := Nat.ne_of_lt R0z
             have R08 := own_blk_ne (t := 31) hY8 R0 (by decide))
          | (go_at_call 7; have mm := mk1; (with_reducible refine (x2 _ BB1).mono ?_); rintro e w3 ⟨A8, c8, rfl, hY8, hb3⟩
             have S3 := sall (E := w1) (by assumption) hb3
             have e3 := S3.2.size
             have hY8m := World.ownsRow.mono hY8 BB1.size
             have hB3 := below_next BB1 hb3
             have KA3 := (Blk.alloc KA2 (.cells #[.slice none 0 0, .int .i64 0, .bool false] 31)).next hb3
             have KB3 := (Blk.alloc KB2 (.cells #[.slice none 0 0, .int .i64 0, .bool false] 31)).next hb3
             have hY73 := own_below (World.ownsRow.alloc hY7m (.cells #[.slice none 0 0, .int .i64 0, .bool false] 31)) hb3
             have R0 := (Blk.alloc Q0 (.cells #[.slice none 0 0, .int .i64 0, .bool false] 31)).next hb3
             have N0 : Blk (w2.alloc (.cells #[.slice none 0 0, .int .i64 0, .bool false] 31)) (w2.heap.size) 31 #[.slice none 0 0, .int .i64 0, .bool false] := by
                 have h := Blk.new w2 31 #[.slice none 0 0, .int .i64 0, .bool false]
                 repeat rw [size_al] at h
                 exact h
             have M0 := N0.next hb3
             have R0c0 := R0.cell 0
             have R0f0 := R0.frozen 0
             have R0c1 := R0.cell 1
             have R0f1 := R0.frozen 1
             have R0c2 := R0.cell 2
             have R0f2 := R0.frozen 2
             have R0z := R0.lt
             have R07 := own_blk_ne (t := 31) hY73 R0 (by decide)
             have R0n := Nat.ne_of_lt R0z
             have R08 := own_blk_ne (t := 31) hY8 R0 (by decide)
             have M0c0 := M0.cell 0
             have M0f0 := M0.frozen 0
             have M0c1 := M0.cell 1
             have M0f1 := M0.frozen 1
             have M0c2 := M0.cell 2
             have M0f2 := M0.frozen 2
             have M0z := M0.lt
             have M07 := own_blk_ne (t := 31) hY73 M0 (by decide)
             have M0n := Nat.ne_of_lt M0z
             have neM0R0 : w2.heap.size ≠ w1.heap.size := by omega
             have neR0M0 : w1.heap.size ≠ w2.heap.size := by omega
             have M08 := own_blk_ne (t := 31) hY8 M0 (by decide))
          | (go_at_call 7; have mm := mk2; (with_reducible refine (x2 _ BB0).mono ?_); rintro e w3 ⟨A8, c8, rfl, hY8, hb3⟩
             have S3 := sall (E := w1) (by assumption) hb3
             have e3 := S3.2.size
             have hY8m := World.ownsRow.mono hY8 BB0.size
             have hB3 := below_next BB0 hb3
             have KA3 := KA2.next hb3
             have KB3 := KB2.next hb3
             have hY73 := own_below hY7m hb3
             have R0 := Q0.next hb3
             have R1 := Q1.next hb3
             have R0c0 := R0.cell 0
             have R0f0 := R0.frozen 0
             have R0c1 := R0.cell 1
             have R0f1 := R0.frozen 1
             have R0c2 := R0.cell 2
             have R0f2 := R0.frozen 2
             have R0z := R0.lt
             have R07 := own_blk_ne (t := 31) hY73 R0 (by decide)
             have R0n := Nat.ne_of_lt R0z
             have R08 := own_blk_ne (t := 31) hY8 R0 (by decide)
             have R1c0 := R1.cell 0
             have R1f0 := R1.frozen 0
             have R1c1 := R1.cell 1
             have R1f1 := R1.frozen 1
             have R1c2 := R1.cell 2
             have R1f2 := R1.frozen 2
             have R1z := R1.lt
             have R17 := own_blk_ne (t := 31) hY73 R1 (by decide)
             have R1n := Nat.ne_of_lt R1z
             have neR1R0 : w1.heap.size + 1 ≠ w1.heap.size := by omega
             have neR0R1 : w1.heap.size ≠ w1.heap.size + 1 := by omega
             have R18 := own_blk_ne (t := 31) hY8 R1 (by decide)))
    all_goals
      go_wp2_with (fail)
      go_meet
      refine ⟨_, _, A7, c7, A8, c8, rfl, rfl, ?_, ?_, ?_, ?_, ?_, ?_, ?_⟩
      · repeat (first | (with_reducible exact hB3) | (with_reducible refine below_al ?_ _) | (with_reducible refine below_put3 ?_ (by omega) _ _ _))
      · repeat (first | (with_reducible exact KA3) | (with_reducible refine Blk.alloc ?_ _) | (with_reducible refine Blk.far3 ?_ (by omega) _ _ _))
      · repeat (first | (with_reducible exact KB3) | (with_reducible refine Blk.alloc ?_ _) | (with_reducible refine Blk.far3 ?_ (by omega) _ _ _))
      · repeat (first | (with_reducible assumption) | ((with_reducible refine blk_at ?_ _ _); (first | rfl | (rw [size_al]) | simp)) | (with_reducible refine Blk.put3 (x := .slice none 0 0) (y := .int .i64 0) (z := .bool false) ?_ _ _ _) | (with_reducible refine Blk.alloc ?_ _) | (with_reducible refine Blk.far3 ?_ (by omega) _ _ _))
      · repeat (first | (with_reducible assumption) | ((with_reducible refine blk_at ?_ _ _); (first | rfl | (rw [size_al]) | simp)) | (with_reducible refine Blk.put3 (x := .slice none 0 0) (y := .int .i64 0) (z := .bool false) ?_ _ _ _) | (with_reducible refine Blk.alloc ?_ _) | (with_reducible refine Blk.far3 ?_ (by omega) _ _ _))
      · refine Reads.of_own (base := w.heap.size) (e := 49) (c := c7) ?_
        repeat (first | (with_reducible exact hY73) | (with_reducible refine World.ownsRow.alloc ?_ _) | (with_reducible refine own_put3 ?_ (by assumption) _ _ _))
      · refine Reads.of_own (base := w.heap.size) (e := 49) (c := c8) ?_
        repeat (first | (with_reducible exact hY8m) | (with_reducible refine World.ownsRow.alloc ?_ _) | (with_reducible refine own_put3 ?_ (by assumption) _ _ _))
  case rest =>
    obtain ⟨g7, g8, A7, c7, A8, c8, rfl, rfl, hBx, Kta, Ktb, K7, K8, hr7, hr8⟩ := hcut
    clear Ka1 Kb1 q0 q1 q2 p0 p1 p2 hB1 Ka Kb hB
    have d1 := fun w0 h => size_any A n ca la aa oa src w0 (ra w0 h) hn
    have d2 := fun w0 h => rsize_any A7 n c7 la aa oa src w0 h hn
    have d3 := fun w0 h => true_any A n ca la aa oa src w0 (ra w0 h) hn
    have d4 := fun w0 h => rtrue_any A7 n c7 la aa oa src w0 h hn
    have d5 := fun w0 h => may_any A n ca la aa oa w0 (ra w0 h) hn
    have d6 := fun w0 h => rmay_any A7 n c7 la aa oa w0 h hn
    have d7 := fun w0 => adv_any A n ca aa oa w0
    have d8 := fun w0 => radv_any A7 n c7 aa oa w0
    have d9 := fun w0 h => public_any A n ca la aa oa w0 (ra w0 h) hn1
    have d10 := fun A' c' w0 h => own_any A' n c' (la.map pubI) (pubA aa oa) oa w0 h hn1
    have d11 := fun w0 h => rpublic_any A7 n c7 la aa oa w0 h hn1
    have d12 := fun A' c' A'' c'' w0 h h' => rsame_any A' n c' (la.map pubI) (pubA aa oa) oa A'' n c'' (la.map pubI) (pubA aa oa) oa w0 h h' hn hn
    rw [show sameT (la.map pubI) (pubA aa oa) oa (la.map pubI) (pubA aa oa) oa = true from sameT_iff.2 ⟨rfl, rfl, rfl⟩] at d12
    have d13 := fun w0 h => alike_any A n ca la aa oa A2 m cb lb ab ob w0 (ra w0 h) (rb w0 h) hn hm
    have d14 := fun w0 h => rpublic_any A8 m c8 lb ab ob w0 h hm1
    have d15 := fun A' c' A'' c'' w0 h h' => rsame_any A' n c' (la.map pubI) (pubA aa oa) oa A'' m c'' (lb.map pubI) (pubA ab ob) ob w0 h h' hn hm
    unfold likeT at d13
    generalize sameT (la.map pubI) (pubA aa oa) oa (lb.map pubI) (pubA ab ob) ob = like at *
    generalize sizeW la src = s1 at *
    generalize sizeH la src = s2 at *
    generalize trueB la src = s3 at *
    generalize trueW la src = s4 at *
    generalize trueH la src = s5 at *
    generalize mayT la aa = s6 at *
    generalize advR aa oa = s7 at *
    generalize List.map pubI la = lp at *
    generalize List.map pubI lb = lq at *
    generalize pubA aa oa = pa at *
    generalize pubA ab ob = pb at *
    have q0 := Kta.cell 0
    have q1 := Kta.cell 1
    have q2 := Kta.cell 2
    go_upto_region 10 with (first
      | (go_at_call 8; (with_reducible refine (d1 _ hBx).mono ?_); rintro e w2 ⟨rfl, hb⟩
         have hB2 := below_next hBx hb
         have Kta2 := Kta.next hb
         have Ktb2 := Ktb.next hb
         have K72 := K7.next hb
         have K82 := K8.next hb
         have hr72 := hr7.step hb
         have hr82 := hr8.step hb
         clear q0 q1 q2 hb
         have k0 := K72.cell 0
         have k1 := K72.cell 1
         have k2 := K72.cell 2)
      | (go_at_call 9; (with_reducible refine (d2 _ hr72).mono ?_); rintro e w3 ⟨rfl, hb⟩
         have hB3 := below_next hB2 hb
         have Kta3 := Kta2.next hb
         have Ktb3 := Ktb2.next hb
         have K73 := K72.next hb
         have K83 := K82.next hb
         have hr73 := hr72.step hb
         have hr83 := hr82.step hb
         clear k0 k1 k2 hb
         have q0 := Kta3.cell 0
         have q1 := Kta3.cell 1
         have q2 := Kta3.cell 2)
      | (go_at_call 10; (with_reducible refine (d3 _ hB3).mono ?_); rintro e w4 ⟨rfl, hb⟩
         have hB4 := below_next hB3 hb
         have Kta4 := Kta3.next hb
         have Ktb4 := Ktb3.next hb
         have K74 := K73.next hb
         have K84 := K83.next hb
         have hr74 := hr73.step hb
         have hr84 := hr83.step hb
         clear q0 q1 q2 hb
         have k0 := K74.cell 0
         have k1 := K74.cell 1
         have k2 := K74.cell 2)
      | (go_at_call 11; (with_reducible refine (d4 _ hr74).mono ?_); rintro e w5 ⟨rfl, hb⟩
         have hB5 := below_next hB4 hb
         have Kta5 := Kta4.next hb
         have Ktb5 := Ktb4.next hb
         have K75 := K74.next hb
         have K85 := K84.next hb
         have hr75 := hr74.step hb
         have hr85 := hr84.step hb
         clear k0 k1 k2 hb))
    have q0 := Kta5.cell 0
    have q1 := Kta5.cell 1
    have q2 := Kta5.cell 2
    have p0 := Ktb5.cell 0
    have p1 := Ktb5.cell 1
    have p2 := Ktb5.cell 2
    have k0 := K75.cell 0
    have k1 := K75.cell 1
    have k2 := K75.cell 2
    have l0 := K85.cell 0
    have l1 := K85.cell 1
    have l2 := K85.cell 2
    have zq := Kta5.lt
    have zp := Ktb5.lt
    have zk := K75.lt
    have zl := K85.lt
    have x5 := fun w0 (hS : (∀ b o, b < w5.heap.size → w0.cell? ⟨b, o, none⟩ = w5.cell? ⟨b, o, none⟩) ∧ Below w5.heap.size w5 w0) => d5 w0 (below_next hB5 hS.2)
    have x6 := fun w0 (hS : (∀ b o, b < w5.heap.size → w0.cell? ⟨b, o, none⟩ = w5.cell? ⟨b, o, none⟩) ∧ Below w5.heap.size w5 w0) => d6 w0 (hr75.step hS.2)
    have x9 := fun w0 (hS : (∀ b o, b < w5.heap.size → w0.cell? ⟨b, o, none⟩ = w5.cell? ⟨b, o, none⟩) ∧ Below w5.heap.size w5 w0) => d9 w0 (below_next hB5 hS.2)
    have x11 := fun w0 (hS : (∀ b o, b < w5.heap.size → w0.cell? ⟨b, o, none⟩ = w5.cell? ⟨b, o, none⟩) ∧ Below w5.heap.size w5 w0) => d11 w0 (hr75.step hS.2)
    have x13 := fun w0 (hS : (∀ b o, b < w5.heap.size → w0.cell? ⟨b, o, none⟩ = w5.cell? ⟨b, o, none⟩) ∧ Below w5.heap.size w5 w0) => d13 w0 (below_next hB5 hS.2)
    have x14 := fun w0 (hS : (∀ b o, b < w5.heap.size → w0.cell? ⟨b, o, none⟩ = w5.cell? ⟨b, o, none⟩) ∧ Below w5.heap.size w5 w0) => d14 w0 (hr85.step hS.2)
    clear d5 d6 d9 d11 d13 d14 d1 d2 d3 d4
    first
    | (go_region_held3 (fun W' => (∀ b o, b < w5.heap.size → W'.cell? ⟨b, o, none⟩ = w5.cell? ⟨b, o, none⟩) ∧ Below w5.heap.size w5 W')
        (first | assumption | exact ⟨fun _ _ _ => rfl, (Below.refl _ _).drew⟩ | exact sall (by assumption) (by assumption))
        (first
          | (go_at_call 12; (with_reducible refine (x5 _ (by assumption)).mono ?_); rintro e w6 ⟨rfl, hb6⟩)
          | (go_at_call 13; (with_reducible refine (x6 _ (by assumption)).mono ?_); rintro e w7 ⟨rfl, hb7⟩)
          | (go_at_call 14; (with_reducible refine (d7 _).mono ?_); rintro e w8 ⟨rfl, hb8⟩)
          | (go_at_call 15; (with_reducible refine (d8 _).mono ?_); rintro e w9 ⟨rfl, hb9⟩)
          | (go_at_call 17; (with_reducible refine (x9 _ (by assumption)).mono ?_); rintro e w10 ⟨B9, b9, rfl, hr9, hb10⟩)
          | (go_at_call 7; (with_reducible refine (d10 B9 b9 _ hr9).mono ?_); rintro e w11 ⟨B10, b10, rfl, hr10, hb11⟩)
          | (go_at_call 18; (with_reducible refine (x11 _ (by assumption)).mono ?_); rintro e w12 ⟨B11, b11, rfl, hr11, hb12⟩; (try have hr10' := hr10.step hb12))
          | (go_at_call 16; (with_reducible refine (d12 B10 b10 B11 b11 _ hr10' hr11).mono ?_); rintro e w13 ⟨rfl, hb13⟩)
          | (go_at_call 19; (with_reducible refine (x13 _ (by assumption)).mono ?_); rintro e w14 ⟨rfl, hb14⟩)
          | (go_at_call 18; (with_reducible refine (x14 _ (by assumption)).mono ?_); rintro e w15 ⟨B13, b13, rfl, hr13, hb15⟩; have hr11' := hr11.step hb15)
          | (go_at_call 16; (with_reducible refine (d15 B11 b11 B13 b13 _ hr11' hr13).mono ?_); rintro e w16 ⟨rfl, hb16⟩)))
    | (fail)
    rename_i hS
    go_wp2
    go_ret
    exact ⟨rfl, below_next hB5 hS.2⟩
end resTells
end Go.Proofs.Ytibpjfeghpmoiaa
