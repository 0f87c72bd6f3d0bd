/- Rows.SelectorBack: the law's walk. Conditions: none. -/
import Derived.Test.YthacboofbbfmlaaDoorSelO
import Derived.Test.YthacboofbbfmlaaDoorOpenSel
namespace Go.Proofs.YthacboofbbfmlaaDoor
open Go.ChangeShapes Go.WideShapes Go.ChangeAt Go.RowKit Go.Shelf
namespace selectorBack
open Tok Sel
open RowG (Row)
theorem print_small (x : Slr) : (printP x).length ≤ 2480 := by
  by_cases h : maySlr x = true
  · obtain ⟨y1, y2, y3, y4⟩ := maySlr_of h
    have h1 := text_len y4 y3 x.parts.length (Nat.le_refl _)
    rw [List.take_of_length_le (Nat.le_refl _)] at h1
    unfold printP
    rw [if_pos h]
    omega
  · unfold printP
    rw [if_neg h]
    simp
theorem back_read (x : Slr) : Sel.readP (printP x) = if maySlr x then some x else none := by
  by_cases h : maySlr x = true
  · rw [read_print h, if_pos h]
  · have : printP x = [] := by unfold printP; rw [if_neg h]
    rw [this, read_nil, if_neg h]
theorem large_b (A K : Option Addr) (n c m d : Nat) (ps : List Sim) (hn : n ≤ 140737488351232) (hbd : BdS ps) (w : World) (h : SLR w w.heap.size A n ps) :
    Calls Tryd.prog 8 #[.agg #[.slice A n c, .slice K m d]] w fun e w' => (∃ b, e = .returned (.bool b) ∧ Hid (b = false → costS ps ≤ 500 ∧ m ≤ 100)) ∧ Below w.heap.size w w' :=
  (large_any A K n c m d ps hn hbd w h).mono (by
    rintro e w' ⟨h1 | ⟨h1, h2⟩, hb⟩
    · exact ⟨⟨true, h1, fun h => by cases h⟩, hb⟩
    · exact ⟨⟨false, h1, fun _ => h2⟩, hb⟩)
attribute [local go_sem] undef
set_option maxRecDepth 100000 in
set_option maxHeartbeats 64000000 in
theorem walk (A : Option Addr) (n c : Nat) (K : Option Addr) (m d : Nat) (x : Slr) (s : ByteArray) (hs : s.size ≤ 9223372036854775807) (W : World) (hX : SLR W W.heap.size A n x.parts) (hY : BLR W W.heap.size K m x.close) (hn : n * 72 ≤ 140737488351232) (hbd : BdS x.parts) :
    Calls Tryd.prog 3 #[.agg #[.slice A n c, .slice K m d], .string s] W fun e w' => e = .returned (.bool true) ∧ Below W.heap.size W w' := by
  have hA0 := below_al (Below.refl W.heap.size W) (.cells #[.slice A n c, .slice K m d] 25)
  have K0 := Blk.new W 25 #[.slice A n c, .slice K m d]
  have ca := awake_any (W.alloc (.cells #[.slice A n c, .slice K m d] 25))
  have co := fun W' (hb : Below W.heap.size W W') => own_any A K n c m d x.parts (by omega) W' (hX.below hb hb.size)
  have HBD := Lib.hid hbd
  clear hbd
  by_cases hbig : 400 < s.size
  · have hbig' : (400 : Int) < (s.size : Int) := by omega
    go_enter Tryd.func3, Tryd.ntmps3
    go_wp2_with (go_at_call 7; (with_reducible refine ca.mono ?_); rintro e w1 ⟨rfl, hB1⟩)
    go_ret
    exact ⟨rfl, below_next hA0 hB1⟩
  have hsm : decide ((400 : Int) < (s.size : Int)) = false := decide_eq_false (by omega)
  have hs4 : s.size ≤ 400 := by omega
  obtain ⟨l, hl⟩ : ∃ l, l = s.data.toList := ⟨_, rfl⟩
  have hll : l.length = s.size := by rw [hl, size_list]
  have hsl : toB l = s := by rw [hl]; rfl
  have crX := fun w => readX_any l (by omega) w
  have crN := fun w => read_any l (by omega) w
  rw [hsl] at crX crN
  clear hbig hl hsl
  have HXl := Lib.hid hX.len
  have HYl := Lib.hid hY.len
  cases hz : Sel.readP l with
  | none =>
    rw [hz] at crN
    have cr : ∀ w, Calls Tryd.prog 10 #[.string s] w fun e w' => e = .returned (.tuple #[.agg #[.slice none 0 0, .slice none 0 0], .bool false]) ∧ Below w.heap.size w w' := crN
    clear crX crN hz
    cases hmay : maySlr x with
    | true =>
      have cp2 : ∀ w, Calls Tryd.prog 10 #[.string (toB (printP x))] w fun e w' => (∃ (A : Option Addr) (n c : Nat) (K : Option Addr) (m d : Nat), e = .returned (.tuple #[.agg #[.slice A n c, .slice K m d], .bool true]) ∧ SlR w' w'.heap.size ⟨A, n, c, K, m, d⟩ x ∧ n = x.parts.length ∧ m = x.close.length) ∧ Below w.heap.size w w' := by
        have h := fun w => readX_any (printP x) (by have := print_small x; omega) w
        rw [back_read x, hmay] at h
        exact h
      go_enter Tryd.func3, Tryd.ntmps3
      go_upto_region 6 with (first
          | (go_at_call 7; (with_reducible refine ca.mono ?_); rintro e w1 ⟨rfl, hb1⟩
             have hB1 := below_next hA0 hb1
             have K1 := K0.next hb1
             obtain ⟨z0, z1⟩ := blk2 K1
             have co1 := co w1 hB1)
          | (go_at_call 9; (with_reducible refine co1.mono ?_); rintro e w2 ⟨⟨A2, c2, rfl, hX2⟩, hb2⟩
             have hB2 := below_next hB1 hb2
             have K2 := K1.next hb2
             have cg := large_b A2 K n c2 m d x.parts (by omega) HBD.out w2 hX2)
          | (go_at_call 8; (with_reducible refine cg.mono ?_); rintro e w3 ⟨⟨b, rfl, HL⟩, hb3⟩
             have hB3 := below_next hB2 hb3
             have K3 := K2.next hb3
             obtain ⟨y0, y1⟩ := blk2 K3)
          | (go_at_call 11
             have hb0 : b = false := by assumption
             obtain ⟨hco, hm100⟩ := HL.out hb0
             obtain ⟨hn5, hf, hsx⟩ := cost_few hco
             have hn6 : n ≤ 500 := by rw [← HXl.out]; exact hn5
             have hm6 : x.close.length ≤ 100 := by rw [HYl.out]; exact hm100
             (with_reducible refine (print_any A K n c m d x (by omega) (by omega) hf hsx w3 (hX.below hB3 hB3.size) (hY.below hB3 hB3.size)).mono ?_); rintro e w4 ⟨rfl, hb4⟩
             have hB4 := below_next hB3 hb4
             have K4 := K3.next hb4)
          | (go_at_call 10; (with_reducible refine (cp2 _).mono ?_); rintro e w5 ⟨⟨A5, _, c5, K5, _, d5, rfl, hY5, rfl, rfl⟩, hb5⟩
             have hB5 := below_next hB4 hb5
             have K5' := K4.next hb5))
      · go_ret
        exact ⟨rfl, hB3⟩
      · have hA5 := below_al hB5 (.cells #[.slice A5 x.parts.length c5, .slice K5 x.close.length d5] 25)
        have hA5' := below_al (Below.refl w5.heap.size w5) (.cells #[.slice A5 x.parts.length c5, .slice K5 x.close.length d5] 25)
        have KX := K5'.alloc (.cells #[.slice A5 x.parts.length c5, .slice K5 x.close.length d5] 25)
        have KY := Blk.new w5 25 #[.slice A5 x.parts.length c5, .slice K5 x.close.length d5]
        have hY6 := hY5.below hA5' hA5'.size
        have hX6 := hX.below hA5 hA5.size
        have hC6 := hY.below hA5 hA5.size
        clear K5' K0 hA0 ca co co1 hB1 K1 z0 z1 hB2 K2 cg hB3 K3 y0 y1 hB4 K4 hB5 hb1 hb2 hb3 hb4 hb5 hA5'
        generalize w5.alloc (.cells #[.slice A5 x.parts.length c5, .slice K5 x.close.length d5] 25) = WA at *
        have SK : ∀ W', Below WA.heap.size WA W' → (W'.cell? ⟨W.heap.size, 0, none⟩ = some (.slice A n c) ∧ W'.cell? ⟨W.heap.size, 1, none⟩ = some (.slice K m d) ∧ W'.cell? ⟨w5.heap.size, 0, none⟩ = some (.slice A5 x.parts.length c5) ∧ W'.cell? ⟨w5.heap.size, 1, none⟩ = some (.slice K5 x.close.length d5) ∧ Below WA.heap.size WA W') := by
          intro W' hb
          obtain ⟨a0, a1⟩ := blk2 (KX.next hb)
          obtain ⟨a2, a3⟩ := blk2 (KY.next hb)
          exact ⟨a0, a1, a2, a3, hb⟩
        have hS0 := SK WA.drew (Below.refl _ _).drew
        have k1 : ∀ W', (W'.cell? ⟨W.heap.size, 0, none⟩ = some (.slice A n c) ∧ W'.cell? ⟨W.heap.size, 1, none⟩ = some (.slice K m d) ∧ W'.cell? ⟨w5.heap.size, 0, none⟩ = some (.slice A5 x.parts.length c5) ∧ W'.cell? ⟨w5.heap.size, 1, none⟩ = some (.slice K5 x.close.length d5) ∧ Below WA.heap.size WA W') → Calls Tryd.prog 12 #[.agg #[.slice A n c, .slice K m d]] W' fun e w' => e = .returned (.bool true) ∧ (w'.cell? ⟨W.heap.size, 0, none⟩ = some (.slice A n c) ∧ w'.cell? ⟨W.heap.size, 1, none⟩ = some (.slice K m d) ∧ w'.cell? ⟨w5.heap.size, 0, none⟩ = some (.slice A5 x.parts.length c5) ∧ w'.cell? ⟨w5.heap.size, 1, none⟩ = some (.slice K5 x.close.length d5) ∧ Below WA.heap.size WA w') := fun W' hS => by
          have hb := hS.2.2.2.2
          refine (may_any A K n c m d x (by omega) (by omega) hf hsx W' (hX6.below hb hb.size) (hC6.below hb hb.size)).mono ?_
          rintro e w' ⟨rfl, hb2⟩
          exact ⟨by rw [hmay], SK w' (below_next hb hb2)⟩
        obtain ⟨Z, hZ⟩ : ∃ Z : Nat, Z = (x.parts.map wS).sum := ⟨_, rfl⟩
        have k2 : ∀ W', (W'.cell? ⟨W.heap.size, 0, none⟩ = some (.slice A n c) ∧ W'.cell? ⟨W.heap.size, 1, none⟩ = some (.slice K m d) ∧ W'.cell? ⟨w5.heap.size, 0, none⟩ = some (.slice A5 x.parts.length c5) ∧ W'.cell? ⟨w5.heap.size, 1, none⟩ = some (.slice K5 x.close.length d5) ∧ Below WA.heap.size WA W') → Calls Tryd.prog 13 #[.agg #[.slice A n c, .slice K m d], .agg #[.slice A5 x.parts.length c5, .slice K5 x.close.length d5]] W' fun e w' => e = .returned (.bool true) ∧ (w'.cell? ⟨W.heap.size, 0, none⟩ = some (.slice A n c) ∧ w'.cell? ⟨W.heap.size, 1, none⟩ = some (.slice K m d) ∧ w'.cell? ⟨w5.heap.size, 0, none⟩ = some (.slice A5 x.parts.length c5) ∧ w'.cell? ⟨w5.heap.size, 1, none⟩ = some (.slice K5 x.close.length d5) ∧ Below WA.heap.size WA w') := fun W' hS => by
          have hb := hS.2.2.2.2
          refine (same_any A K A5 K5 n c m d x.parts.length c5 x.close.length d5 x x (by omega) (by omega) hf W' (hX6.below hb hb.size) (hY6.1.below hb hb.size) (hC6.below hb hb.size) (hY6.2.below hb hb.size)).mono ?_
          rintro e w' ⟨rfl, hb2⟩
          exact ⟨by rw [decide_eq_true rfl], SK w' (below_next hb hb2)⟩
        have k3 : ∀ W', (W'.cell? ⟨W.heap.size, 0, none⟩ = some (.slice A n c) ∧ W'.cell? ⟨W.heap.size, 1, none⟩ = some (.slice K m d) ∧ W'.cell? ⟨w5.heap.size, 0, none⟩ = some (.slice A5 x.parts.length c5) ∧ W'.cell? ⟨w5.heap.size, 1, none⟩ = some (.slice K5 x.close.length d5) ∧ Below WA.heap.size WA W') → Calls Tryd.prog 14 #[.agg #[.slice A n c, .slice K m d]] W' fun e w' => e = .returned (.int .i64 (Z : Int)) ∧ (w'.cell? ⟨W.heap.size, 0, none⟩ = some (.slice A n c) ∧ w'.cell? ⟨W.heap.size, 1, none⟩ = some (.slice K m d) ∧ w'.cell? ⟨w5.heap.size, 0, none⟩ = some (.slice A5 x.parts.length c5) ∧ w'.cell? ⟨w5.heap.size, 1, none⟩ = some (.slice K5 x.close.length d5) ∧ Below WA.heap.size WA w') := fun W' hS => by
          have hb := hS.2.2.2.2
          refine (weigh_any A K n c m d x.parts (by omega) hf W' (hX6.below hb hb.size)).mono ?_
          rintro e w' ⟨rfl, hb2⟩
          exact ⟨by rw [hZ], SK w' (below_next hb hb2)⟩
        have k4 : ∀ W', (W'.cell? ⟨W.heap.size, 0, none⟩ = some (.slice A n c) ∧ W'.cell? ⟨W.heap.size, 1, none⟩ = some (.slice K m d) ∧ W'.cell? ⟨w5.heap.size, 0, none⟩ = some (.slice A5 x.parts.length c5) ∧ W'.cell? ⟨w5.heap.size, 1, none⟩ = some (.slice K5 x.close.length d5) ∧ Below WA.heap.size WA W') → Calls Tryd.prog 14 #[.agg #[.slice A5 x.parts.length c5, .slice K5 x.close.length d5]] W' fun e w' => e = .returned (.int .i64 (Z : Int)) ∧ (w'.cell? ⟨W.heap.size, 0, none⟩ = some (.slice A n c) ∧ w'.cell? ⟨W.heap.size, 1, none⟩ = some (.slice K m d) ∧ w'.cell? ⟨w5.heap.size, 0, none⟩ = some (.slice A5 x.parts.length c5) ∧ w'.cell? ⟨w5.heap.size, 1, none⟩ = some (.slice K5 x.close.length d5) ∧ Below WA.heap.size WA w') := fun W' hS => by
          have hb := hS.2.2.2.2
          refine (weigh_any A5 K5 x.parts.length c5 x.close.length d5 x.parts (by omega) hf W' (hY6.1.below hb hb.size)).mono ?_
          rintro e w' ⟨rfl, hb2⟩
          exact ⟨by rw [hZ], SK w' (below_next hb hb2)⟩
        clear hZ
        first | (go_region_held3 (fun W' => (W'.cell? ⟨W.heap.size, 0, none⟩ = some (.slice A n c) ∧ W'.cell? ⟨W.heap.size, 1, none⟩ = some (.slice K m d) ∧ W'.cell? ⟨w5.heap.size, 0, none⟩ = some (.slice A5 x.parts.length c5) ∧ W'.cell? ⟨w5.heap.size, 1, none⟩ = some (.slice K5 x.close.length d5) ∧ Below WA.heap.size WA W'))
          (first | (with_reducible assumption) | exact hS0)
          (first
                | (go_at_call 12; (with_reducible refine (k1 _ (by first | assumption | exact hS0)).mono ?_); rintro e wa ⟨rfl, hSa⟩)
                | (go_at_call 13; (with_reducible refine (k2 _ (by first | assumption | exact hS0)).mono ?_); rintro e wb ⟨rfl, hSb⟩)
                | (go_at_call 14; (first
                    | ((with_reducible refine (k3 _ (by first | assumption | exact hS0)).mono ?_); rintro e wc ⟨rfl, hSc⟩)
                    | ((with_reducible refine (k4 _ (by first | assumption | exact hS0)).mono ?_); rintro e wd ⟨rfl, hSd⟩))))) | fail
        rename_i hHd
        obtain ⟨-, -, -, -, hBd⟩ := hHd
        have hB6 := below_next hA5 hBd
        clear hS0 k1 k2 k3 k4 SK hBd
        go_wp2_with (go_at_call 10; (with_reducible refine (cr _).mono ?_); rintro e w7 ⟨hsr, hb7⟩; obtain rfl := hsr; have hB7 := below_next hB6 hb7; obtain ⟨q0, q1⟩ := blk2 (Blk.new w7 25 #[.slice none 0 0, .slice none 0 0]))
        go_ret
        exact ⟨rfl, below_al hB7 _⟩
    | false =>
      have cp2 : ∀ w, Calls Tryd.prog 10 #[.string (toB (printP x))] w fun e w' => e = .returned (.tuple #[.agg #[.slice none 0 0, .slice none 0 0], .bool false]) ∧ Below w.heap.size w w' := by
        have h := fun w => read_any (printP x) (by have := print_small x; omega) w
        rw [back_read x, hmay] at h
        exact h
      go_enter Tryd.func3, Tryd.ntmps3
      go_upto_region 6 with (first
          | (go_at_call 7; (with_reducible refine ca.mono ?_); rintro e w1 ⟨rfl, hb1⟩
             have hB1 := below_next hA0 hb1
             have K1 := K0.next hb1
             obtain ⟨z0, z1⟩ := blk2 K1
             have co1 := co w1 hB1)
          | (go_at_call 9; (with_reducible refine co1.mono ?_); rintro e w2 ⟨⟨A2, c2, rfl, hX2⟩, hb2⟩
             have hB2 := below_next hB1 hb2
             have K2 := K1.next hb2
             have cg := large_b A2 K n c2 m d x.parts (by omega) HBD.out w2 hX2)
          | (go_at_call 8; (with_reducible refine cg.mono ?_); rintro e w3 ⟨⟨b, rfl, HL⟩, hb3⟩
             have hB3 := below_next hB2 hb3
             have K3 := K2.next hb3
             obtain ⟨y0, y1⟩ := blk2 K3)
          | (go_at_call 11
             have hb0 : b = false := by assumption
             obtain ⟨hco, hm100⟩ := HL.out hb0
             obtain ⟨hn5, hf, hsx⟩ := cost_few hco
             have hn6 : n ≤ 500 := by rw [← HXl.out]; exact hn5
             have hm6 : x.close.length ≤ 100 := by rw [HYl.out]; exact hm100
             (with_reducible refine (print_any A K n c m d x (by omega) (by omega) hf hsx w3 (hX.below hB3 hB3.size) (hY.below hB3 hB3.size)).mono ?_); rintro e w4 ⟨rfl, hb4⟩
             have hB4 := below_next hB3 hb4
             have K4 := K3.next hb4)
          | (go_at_call 10; (with_reducible refine (cp2 _).mono ?_); rintro e w5 ⟨hsr, hb5⟩
             obtain rfl := hsr
             have hB5 := below_next hB4 hb5
             have K5' := K4.next hb5))
      · go_ret
        exact ⟨rfl, hB3⟩
      · have hA5 := below_al hB5 (.cells #[.slice none 0 0, .slice none 0 0] 25)
        have hA5' := below_al (Below.refl w5.heap.size w5) (.cells #[.slice none 0 0, .slice none 0 0] 25)
        have KX := K5'.alloc (.cells #[.slice none 0 0, .slice none 0 0] 25)
        have hX6 := hX.below hA5 hA5.size
        have hC6 := hY.below hA5 hA5.size
        clear K5' K0 hA0 ca co co1 hB1 K1 z0 z1 hB2 K2 cg hB3 K3 y0 y1 hB4 K4 hB5 hb1 hb2 hb3 hb4 hb5 hA5'
        generalize w5.alloc (.cells #[.slice none 0 0, .slice none 0 0] 25) = WA at *
        have SK : ∀ W', Below WA.heap.size WA W' → (W'.cell? ⟨W.heap.size, 0, none⟩ = some (.slice A n c) ∧ W'.cell? ⟨W.heap.size, 1, none⟩ = some (.slice K m d) ∧ Below WA.heap.size WA W') := by
          intro W' hb
          obtain ⟨a0, a1⟩ := blk2 (KX.next hb)
          exact ⟨a0, a1, hb⟩
        have hS0 := SK WA.drew (Below.refl _ _).drew
        have k1 : ∀ W', (W'.cell? ⟨W.heap.size, 0, none⟩ = some (.slice A n c) ∧ W'.cell? ⟨W.heap.size, 1, none⟩ = some (.slice K m d) ∧ Below WA.heap.size WA W') → Calls Tryd.prog 12 #[.agg #[.slice A n c, .slice K m d]] W' fun e w' => e = .returned (.bool false) ∧ (w'.cell? ⟨W.heap.size, 0, none⟩ = some (.slice A n c) ∧ w'.cell? ⟨W.heap.size, 1, none⟩ = some (.slice K m d) ∧ Below WA.heap.size WA w') := fun W' hS => by
          have hb := hS.2.2
          refine (may_any A K n c m d x (by omega) (by omega) hf hsx W' (hX6.below hb hb.size) (hC6.below hb hb.size)).mono ?_
          rintro e w' ⟨rfl, hb2⟩
          exact ⟨by rw [hmay], SK w' (below_next hb hb2)⟩
        obtain ⟨a0, a1, hBd0⟩ := hS0
        have k1' := k1 WA.drew ⟨a0, a1, hBd0⟩
        first | (go_region_with (go_at_call 12; (with_reducible refine k1'.mono ?_); rintro e wa ⟨rfl, -, -, hHd⟩)) | fail
        all_goals
          have hB6 := below_next hA5 hHd
          clear k1 k1' SK a0 a1 hBd0 hHd
          go_wp2_with (go_at_call 10; (with_reducible refine (cr _).mono ?_); rintro e w7 ⟨hsr, hb7⟩; obtain rfl := hsr; have hB7 := below_next hB6 hb7; obtain ⟨q0, q1⟩ := blk2 (Blk.new w7 25 #[.slice none 0 0, .slice none 0 0]))
          go_ret
          exact ⟨rfl, below_al hB7 _⟩
  | some z =>
    rw [hz] at crX
    have cr : ∀ w, Calls Tryd.prog 10 #[.string s] w fun e w' => (∃ (A : Option Addr) (n c : Nat) (K : Option Addr) (m d : Nat), e = .returned (.tuple #[.agg #[.slice A n c, .slice K m d], .bool true]) ∧ SlR w' w'.heap.size ⟨A, n, c, K, m, d⟩ z ∧ n = z.parts.length ∧ m = z.close.length) ∧ Below w.heap.size w w' := crX
    have hzm := read_may hz
    obtain ⟨j1, j2, j3, j4⟩ := may_few hzm
    have cpq : ∀ w, Calls Tryd.prog 10 #[.string (toB (printP z))] w fun e w' => (∃ (A : Option Addr) (n c : Nat) (K : Option Addr) (m d : Nat), e = .returned (.tuple #[.agg #[.slice A n c, .slice K m d], .bool true]) ∧ SlR w' w'.heap.size ⟨A, n, c, K, m, d⟩ z ∧ n = z.parts.length ∧ m = z.close.length) ∧ Below w.heap.size w w' := by
      have h := fun w => readX_any (printP z) (by have := print_small z; omega) w
      rw [back_read z, if_pos hzm] at h
      exact h
    clear crX crN hz
    cases hmay : maySlr x with
    | true =>
      have cp2 : ∀ w, Calls Tryd.prog 10 #[.string (toB (printP x))] w fun e w' => (∃ (A : Option Addr) (n c : Nat) (K : Option Addr) (m d : Nat), e = .returned (.tuple #[.agg #[.slice A n c, .slice K m d], .bool true]) ∧ SlR w' w'.heap.size ⟨A, n, c, K, m, d⟩ x ∧ n = x.parts.length ∧ m = x.close.length) ∧ Below w.heap.size w w' := by
        have h := fun w => readX_any (printP x) (by have := print_small x; omega) w
        rw [back_read x, hmay] at h
        exact h
      go_enter Tryd.func3, Tryd.ntmps3
      go_upto_region 6 with (first
          | (go_at_call 7; (with_reducible refine ca.mono ?_); rintro e w1 ⟨rfl, hb1⟩
             have hB1 := below_next hA0 hb1
             have K1 := K0.next hb1
             obtain ⟨z0, z1⟩ := blk2 K1
             have co1 := co w1 hB1)
          | (go_at_call 9; (with_reducible refine co1.mono ?_); rintro e w2 ⟨⟨A2, c2, rfl, hX2⟩, hb2⟩
             have hB2 := below_next hB1 hb2
             have K2 := K1.next hb2
             have cg := large_b A2 K n c2 m d x.parts (by omega) HBD.out w2 hX2)
          | (go_at_call 8; (with_reducible refine cg.mono ?_); rintro e w3 ⟨⟨b, rfl, HL⟩, hb3⟩
             have hB3 := below_next hB2 hb3
             have K3 := K2.next hb3
             obtain ⟨y0, y1⟩ := blk2 K3)
          | (go_at_call 11
             have hb0 : b = false := by assumption
             obtain ⟨hco, hm100⟩ := HL.out hb0
             obtain ⟨hn5, hf, hsx⟩ := cost_few hco
             have hn6 : n ≤ 500 := by rw [← HXl.out]; exact hn5
             have hm6 : x.close.length ≤ 100 := by rw [HYl.out]; exact hm100
             (with_reducible refine (print_any A K n c m d x (by omega) (by omega) hf hsx w3 (hX.below hB3 hB3.size) (hY.below hB3 hB3.size)).mono ?_); rintro e w4 ⟨rfl, hb4⟩
             have hB4 := below_next hB3 hb4
             have K4 := K3.next hb4)
          | (go_at_call 10; (with_reducible refine (cp2 _).mono ?_); rintro e w5 ⟨⟨A5, _, c5, K5, _, d5, rfl, hY5, rfl, rfl⟩, hb5⟩
             have hB5 := below_next hB4 hb5
             have K5' := K4.next hb5))
      · go_ret
        exact ⟨rfl, hB3⟩
      · have hA5 := below_al hB5 (.cells #[.slice A5 x.parts.length c5, .slice K5 x.close.length d5] 25)
        have hA5' := below_al (Below.refl w5.heap.size w5) (.cells #[.slice A5 x.parts.length c5, .slice K5 x.close.length d5] 25)
        have KX := K5'.alloc (.cells #[.slice A5 x.parts.length c5, .slice K5 x.close.length d5] 25)
        have KY := Blk.new w5 25 #[.slice A5 x.parts.length c5, .slice K5 x.close.length d5]
        have hY6 := hY5.below hA5' hA5'.size
        have hX6 := hX.below hA5 hA5.size
        have hC6 := hY.below hA5 hA5.size
        clear K5' K0 hA0 ca co co1 hB1 K1 z0 z1 hB2 K2 cg hB3 K3 y0 y1 hB4 K4 hB5 hb1 hb2 hb3 hb4 hb5 hA5'
        generalize w5.alloc (.cells #[.slice A5 x.parts.length c5, .slice K5 x.close.length d5] 25) = WA at *
        have SK : ∀ W', Below WA.heap.size WA W' → (W'.cell? ⟨W.heap.size, 0, none⟩ = some (.slice A n c) ∧ W'.cell? ⟨W.heap.size, 1, none⟩ = some (.slice K m d) ∧ W'.cell? ⟨w5.heap.size, 0, none⟩ = some (.slice A5 x.parts.length c5) ∧ W'.cell? ⟨w5.heap.size, 1, none⟩ = some (.slice K5 x.close.length d5) ∧ Below WA.heap.size WA W') := by
          intro W' hb
          obtain ⟨a0, a1⟩ := blk2 (KX.next hb)
          obtain ⟨a2, a3⟩ := blk2 (KY.next hb)
          exact ⟨a0, a1, a2, a3, hb⟩
        have hS0 := SK WA.drew (Below.refl _ _).drew
        have k1 : ∀ W', (W'.cell? ⟨W.heap.size, 0, none⟩ = some (.slice A n c) ∧ W'.cell? ⟨W.heap.size, 1, none⟩ = some (.slice K m d) ∧ W'.cell? ⟨w5.heap.size, 0, none⟩ = some (.slice A5 x.parts.length c5) ∧ W'.cell? ⟨w5.heap.size, 1, none⟩ = some (.slice K5 x.close.length d5) ∧ Below WA.heap.size WA W') → Calls Tryd.prog 12 #[.agg #[.slice A n c, .slice K m d]] W' fun e w' => e = .returned (.bool true) ∧ (w'.cell? ⟨W.heap.size, 0, none⟩ = some (.slice A n c) ∧ w'.cell? ⟨W.heap.size, 1, none⟩ = some (.slice K m d) ∧ w'.cell? ⟨w5.heap.size, 0, none⟩ = some (.slice A5 x.parts.length c5) ∧ w'.cell? ⟨w5.heap.size, 1, none⟩ = some (.slice K5 x.close.length d5) ∧ Below WA.heap.size WA w') := fun W' hS => by
          have hb := hS.2.2.2.2
          refine (may_any A K n c m d x (by omega) (by omega) hf hsx W' (hX6.below hb hb.size) (hC6.below hb hb.size)).mono ?_
          rintro e w' ⟨rfl, hb2⟩
          exact ⟨by rw [hmay], SK w' (below_next hb hb2)⟩
        obtain ⟨Z, hZ⟩ : ∃ Z : Nat, Z = (x.parts.map wS).sum := ⟨_, rfl⟩
        have k2 : ∀ W', (W'.cell? ⟨W.heap.size, 0, none⟩ = some (.slice A n c) ∧ W'.cell? ⟨W.heap.size, 1, none⟩ = some (.slice K m d) ∧ W'.cell? ⟨w5.heap.size, 0, none⟩ = some (.slice A5 x.parts.length c5) ∧ W'.cell? ⟨w5.heap.size, 1, none⟩ = some (.slice K5 x.close.length d5) ∧ Below WA.heap.size WA W') → Calls Tryd.prog 13 #[.agg #[.slice A n c, .slice K m d], .agg #[.slice A5 x.parts.length c5, .slice K5 x.close.length d5]] W' fun e w' => e = .returned (.bool true) ∧ (w'.cell? ⟨W.heap.size, 0, none⟩ = some (.slice A n c) ∧ w'.cell? ⟨W.heap.size, 1, none⟩ = some (.slice K m d) ∧ w'.cell? ⟨w5.heap.size, 0, none⟩ = some (.slice A5 x.parts.length c5) ∧ w'.cell? ⟨w5.heap.size, 1, none⟩ = some (.slice K5 x.close.length d5) ∧ Below WA.heap.size WA w') := fun W' hS => by
          have hb := hS.2.2.2.2
          refine (same_any A K A5 K5 n c m d x.parts.length c5 x.close.length d5 x x (by omega) (by omega) hf W' (hX6.below hb hb.size) (hY6.1.below hb hb.size) (hC6.below hb hb.size) (hY6.2.below hb hb.size)).mono ?_
          rintro e w' ⟨rfl, hb2⟩
          exact ⟨by rw [decide_eq_true rfl], SK w' (below_next hb hb2)⟩
        have k3 : ∀ W', (W'.cell? ⟨W.heap.size, 0, none⟩ = some (.slice A n c) ∧ W'.cell? ⟨W.heap.size, 1, none⟩ = some (.slice K m d) ∧ W'.cell? ⟨w5.heap.size, 0, none⟩ = some (.slice A5 x.parts.length c5) ∧ W'.cell? ⟨w5.heap.size, 1, none⟩ = some (.slice K5 x.close.length d5) ∧ Below WA.heap.size WA W') → Calls Tryd.prog 14 #[.agg #[.slice A n c, .slice K m d]] W' fun e w' => e = .returned (.int .i64 (Z : Int)) ∧ (w'.cell? ⟨W.heap.size, 0, none⟩ = some (.slice A n c) ∧ w'.cell? ⟨W.heap.size, 1, none⟩ = some (.slice K m d) ∧ w'.cell? ⟨w5.heap.size, 0, none⟩ = some (.slice A5 x.parts.length c5) ∧ w'.cell? ⟨w5.heap.size, 1, none⟩ = some (.slice K5 x.close.length d5) ∧ Below WA.heap.size WA w') := fun W' hS => by
          have hb := hS.2.2.2.2
          refine (weigh_any A K n c m d x.parts (by omega) hf W' (hX6.below hb hb.size)).mono ?_
          rintro e w' ⟨rfl, hb2⟩
          exact ⟨by rw [hZ], SK w' (below_next hb hb2)⟩
        have k4 : ∀ W', (W'.cell? ⟨W.heap.size, 0, none⟩ = some (.slice A n c) ∧ W'.cell? ⟨W.heap.size, 1, none⟩ = some (.slice K m d) ∧ W'.cell? ⟨w5.heap.size, 0, none⟩ = some (.slice A5 x.parts.length c5) ∧ W'.cell? ⟨w5.heap.size, 1, none⟩ = some (.slice K5 x.close.length d5) ∧ Below WA.heap.size WA W') → Calls Tryd.prog 14 #[.agg #[.slice A5 x.parts.length c5, .slice K5 x.close.length d5]] W' fun e w' => e = .returned (.int .i64 (Z : Int)) ∧ (w'.cell? ⟨W.heap.size, 0, none⟩ = some (.slice A n c) ∧ w'.cell? ⟨W.heap.size, 1, none⟩ = some (.slice K m d) ∧ w'.cell? ⟨w5.heap.size, 0, none⟩ = some (.slice A5 x.parts.length c5) ∧ w'.cell? ⟨w5.heap.size, 1, none⟩ = some (.slice K5 x.close.length d5) ∧ Below WA.heap.size WA w') := fun W' hS => by
          have hb := hS.2.2.2.2
          refine (weigh_any A5 K5 x.parts.length c5 x.close.length d5 x.parts (by omega) hf W' (hY6.1.below hb hb.size)).mono ?_
          rintro e w' ⟨rfl, hb2⟩
          exact ⟨by rw [hZ], SK w' (below_next hb hb2)⟩
        clear hZ
        first | (go_region_held3 (fun W' => (W'.cell? ⟨W.heap.size, 0, none⟩ = some (.slice A n c) ∧ W'.cell? ⟨W.heap.size, 1, none⟩ = some (.slice K m d) ∧ W'.cell? ⟨w5.heap.size, 0, none⟩ = some (.slice A5 x.parts.length c5) ∧ W'.cell? ⟨w5.heap.size, 1, none⟩ = some (.slice K5 x.close.length d5) ∧ Below WA.heap.size WA W'))
          (first | (with_reducible assumption) | exact hS0)
          (first
                | (go_at_call 12; (with_reducible refine (k1 _ (by first | assumption | exact hS0)).mono ?_); rintro e wa ⟨rfl, hSa⟩)
                | (go_at_call 13; (with_reducible refine (k2 _ (by first | assumption | exact hS0)).mono ?_); rintro e wb ⟨rfl, hSb⟩)
                | (go_at_call 14; (first
                    | ((with_reducible refine (k3 _ (by first | assumption | exact hS0)).mono ?_); rintro e wc ⟨rfl, hSc⟩)
                    | ((with_reducible refine (k4 _ (by first | assumption | exact hS0)).mono ?_); rintro e wd ⟨rfl, hSd⟩))))) | fail
        rename_i hHd
        obtain ⟨-, -, -, -, hBd⟩ := hHd
        have hB6 := below_next hA5 hBd
        clear hS0 k1 k2 k3 k4 SK hBd
        go_wp2_with (first
          | (go_at_call 10; (first
              | ((with_reducible refine (cr _).mono ?_); rintro e w7 ⟨⟨A7, _, c7, K7, _, d7, rfl, hZ7, rfl, rfl⟩, hb7⟩
                 have hA7 := below_al (Below.refl w7.heap.size w7) (.cells #[.slice A7 z.parts.length c7, .slice K7 z.close.length d7] 25)
                 have KZ := Blk.new w7 25 #[.slice A7 z.parts.length c7, .slice K7 z.close.length d7]
                 obtain ⟨q0, q1⟩ := blk2 KZ
                 have hZ8 := hZ7.below hA7 hA7.size
                 have hB7 := below_next (below_next hB6 hb7) hA7
                 have cpz := print_any A7 K7 z.parts.length c7 z.close.length d7 z (by omega) (by omega) j3 j4 _ hZ8.1 hZ8.2)
              | ((with_reducible refine (cpq _).mono ?_); rintro e w9 ⟨⟨A9, _, c9, K9, _, d9, rfl, hZ9, rfl, rfl⟩, hb9⟩
                 have hA9 := below_al hb9 (.cells #[.slice A9 z.parts.length c9, .slice K9 z.close.length d9] 25)
                 have hA9' := below_al (Below.refl w9.heap.size w9) (.cells #[.slice A9 z.parts.length c9, .slice K9 z.close.length d9] 25)
                 have KZ9 := KZ8.next hA9
                 obtain ⟨q2, q3⟩ := blk2 KZ9
                 have KW9 := Blk.new w9 25 #[.slice A9 z.parts.length c9, .slice K9 z.close.length d9]
                 have hZ10 := hZ8'.below hA9 hA9.size
                 have hZ11 := hZ9.below hA9' hA9'.size
                 have hB9 := below_next hB8 hA9
                 have cmz := may_any A7 K7 z.parts.length c7 z.close.length d7 z (by omega) (by omega) j3 j4 _ hZ10.1 hZ10.2
                 rw [hzm] at cmz)))
          | (go_at_call 11; (with_reducible refine cpz.mono ?_); rintro e w8 ⟨rfl, hb8⟩
             have KZ8 := KZ.next hb8
             have hZ8' := hZ8.below hb8 hb8.size
             have hB8 := below_next hB7 hb8)
          | (go_at_call 12; (with_reducible refine cmz.mono ?_); rintro e w10 ⟨rfl, hb10⟩
             obtain ⟨q4, q5⟩ := blk2 (KZ9.next hb10)
             obtain ⟨q6, q7⟩ := blk2 (KW9.next hb10)
             have hB10 := below_next hB9 hb10
             have hZ12 := hZ10.below hb10 hb10.size
             have hZ13 := hZ11.below hb10 hb10.size
             have csz := same_any A7 K7 A9 K9 z.parts.length c7 z.close.length d7 z.parts.length c9 z.close.length d9 z z (by omega) (by omega) j3 _ hZ12.1 hZ13.1 hZ12.2 hZ13.2
             rw [decide_eq_true (show z = z from rfl)] at csz)
          | (go_at_call 13; (with_reducible refine csz.mono ?_); rintro e w11 ⟨rfl, hb11⟩))
        go_ret
        exact ⟨rfl, below_next hB10 hb11⟩
    | false =>
      have cp2 : ∀ w, Calls Tryd.prog 10 #[.string (toB (printP x))] w fun e w' => e = .returned (.tuple #[.agg #[.slice none 0 0, .slice none 0 0], .bool false]) ∧ Below w.heap.size w w' := by
        have h := fun w => read_any (printP x) (by have := print_small x; omega) w
        rw [back_read x, hmay] at h
        exact h
      go_enter Tryd.func3, Tryd.ntmps3
      go_upto_region 6 with (first
          | (go_at_call 7; (with_reducible refine ca.mono ?_); rintro e w1 ⟨rfl, hb1⟩
             have hB1 := below_next hA0 hb1
             have K1 := K0.next hb1
             obtain ⟨z0, z1⟩ := blk2 K1
             have co1 := co w1 hB1)
          | (go_at_call 9; (with_reducible refine co1.mono ?_); rintro e w2 ⟨⟨A2, c2, rfl, hX2⟩, hb2⟩
             have hB2 := below_next hB1 hb2
             have K2 := K1.next hb2
             have cg := large_b A2 K n c2 m d x.parts (by omega) HBD.out w2 hX2)
          | (go_at_call 8; (with_reducible refine cg.mono ?_); rintro e w3 ⟨⟨b, rfl, HL⟩, hb3⟩
             have hB3 := below_next hB2 hb3
             have K3 := K2.next hb3
             obtain ⟨y0, y1⟩ := blk2 K3)
          | (go_at_call 11
             have hb0 : b = false := by assumption
             obtain ⟨hco, hm100⟩ := HL.out hb0
             obtain ⟨hn5, hf, hsx⟩ := cost_few hco
             have hn6 : n ≤ 500 := by rw [← HXl.out]; exact hn5
             have hm6 : x.close.length ≤ 100 := by rw [HYl.out]; exact hm100
             (with_reducible refine (print_any A K n c m d x (by omega) (by omega) hf hsx w3 (hX.below hB3 hB3.size) (hY.below hB3 hB3.size)).mono ?_); rintro e w4 ⟨rfl, hb4⟩
             have hB4 := below_next hB3 hb4
             have K4 := K3.next hb4)
          | (go_at_call 10; (with_reducible refine (cp2 _).mono ?_); rintro e w5 ⟨hsr, hb5⟩
             obtain rfl := hsr
             have hB5 := below_next hB4 hb5
             have K5' := K4.next hb5))
      · go_ret
        exact ⟨rfl, hB3⟩
      · have hA5 := below_al hB5 (.cells #[.slice none 0 0, .slice none 0 0] 25)
        have hA5' := below_al (Below.refl w5.heap.size w5) (.cells #[.slice none 0 0, .slice none 0 0] 25)
        have KX := K5'.alloc (.cells #[.slice none 0 0, .slice none 0 0] 25)
        have hX6 := hX.below hA5 hA5.size
        have hC6 := hY.below hA5 hA5.size
        clear K5' K0 hA0 ca co co1 hB1 K1 z0 z1 hB2 K2 cg hB3 K3 y0 y1 hB4 K4 hB5 hb1 hb2 hb3 hb4 hb5 hA5'
        generalize w5.alloc (.cells #[.slice none 0 0, .slice none 0 0] 25) = WA at *
        have SK : ∀ W', Below WA.heap.size WA W' → (W'.cell? ⟨W.heap.size, 0, none⟩ = some (.slice A n c) ∧ W'.cell? ⟨W.heap.size, 1, none⟩ = some (.slice K m d) ∧ Below WA.heap.size WA W') := by
          intro W' hb
          obtain ⟨a0, a1⟩ := blk2 (KX.next hb)
          exact ⟨a0, a1, hb⟩
        have hS0 := SK WA.drew (Below.refl _ _).drew
        have k1 : ∀ W', (W'.cell? ⟨W.heap.size, 0, none⟩ = some (.slice A n c) ∧ W'.cell? ⟨W.heap.size, 1, none⟩ = some (.slice K m d) ∧ Below WA.heap.size WA W') → Calls Tryd.prog 12 #[.agg #[.slice A n c, .slice K m d]] W' fun e w' => e = .returned (.bool false) ∧ (w'.cell? ⟨W.heap.size, 0, none⟩ = some (.slice A n c) ∧ w'.cell? ⟨W.heap.size, 1, none⟩ = some (.slice K m d) ∧ Below WA.heap.size WA w') := fun W' hS => by
          have hb := hS.2.2
          refine (may_any A K n c m d x (by omega) (by omega) hf hsx W' (hX6.below hb hb.size) (hC6.below hb hb.size)).mono ?_
          rintro e w' ⟨rfl, hb2⟩
          exact ⟨by rw [hmay], SK w' (below_next hb hb2)⟩
        obtain ⟨a0, a1, hBd0⟩ := hS0
        have k1' := k1 WA.drew ⟨a0, a1, hBd0⟩
        first | (go_region_with (go_at_call 12; (with_reducible refine k1'.mono ?_); rintro e wa ⟨rfl, -, -, hHd⟩)) | fail
        all_goals
          have hB6 := below_next hA5 hHd
          clear k1 k1' SK a0 a1 hBd0 hHd
          go_wp2_with (first
            | (go_at_call 10; (first
                | ((with_reducible refine (cr _).mono ?_); rintro e w7 ⟨⟨A7, _, c7, K7, _, d7, rfl, hZ7, rfl, rfl⟩, hb7⟩
                   have hA7 := below_al (Below.refl w7.heap.size w7) (.cells #[.slice A7 z.parts.length c7, .slice K7 z.close.length d7] 25)
                   have KZ := Blk.new w7 25 #[.slice A7 z.parts.length c7, .slice K7 z.close.length d7]
                   obtain ⟨q0, q1⟩ := blk2 KZ
                   have hZ8 := hZ7.below hA7 hA7.size
                   have hB7 := below_next (below_next hB6 hb7) hA7
                   have cpz := print_any A7 K7 z.parts.length c7 z.close.length d7 z (by omega) (by omega) j3 j4 _ hZ8.1 hZ8.2)
                | ((with_reducible refine (cpq _).mono ?_); rintro e w9 ⟨⟨A9, _, c9, K9, _, d9, rfl, hZ9, rfl, rfl⟩, hb9⟩
                   have hA9 := below_al hb9 (.cells #[.slice A9 z.parts.length c9, .slice K9 z.close.length d9] 25)
                   have hA9' := below_al (Below.refl w9.heap.size w9) (.cells #[.slice A9 z.parts.length c9, .slice K9 z.close.length d9] 25)
                   have KZ9 := KZ8.next hA9
                   obtain ⟨q2, q3⟩ := blk2 KZ9
                   have KW9 := Blk.new w9 25 #[.slice A9 z.parts.length c9, .slice K9 z.close.length d9]
                   have hZ10 := hZ8'.below hA9 hA9.size
                   have hZ11 := hZ9.below hA9' hA9'.size
                   have hB9 := below_next hB8 hA9
                   have cmz := may_any A7 K7 z.parts.length c7 z.close.length d7 z (by omega) (by omega) j3 j4 _ hZ10.1 hZ10.2
                   rw [hzm] at cmz)))
            | (go_at_call 11; (with_reducible refine cpz.mono ?_); rintro e w8 ⟨rfl, hb8⟩
               have KZ8 := KZ.next hb8
               have hZ8' := hZ8.below hb8 hb8.size
               have hB8 := below_next hB7 hb8)
            | (go_at_call 12; (with_reducible refine cmz.mono ?_); rintro e w10 ⟨rfl, hb10⟩
               obtain ⟨q4, q5⟩ := blk2 (KZ9.next hb10)
               obtain ⟨q6, q7⟩ := blk2 (KW9.next hb10)
               have hB10 := below_next hB9 hb10
               have hZ12 := hZ10.below hb10 hb10.size
               have hZ13 := hZ11.below hb10 hb10.size
               have csz := same_any A7 K7 A9 K9 z.parts.length c7 z.close.length d7 z.parts.length c9 z.close.length d9 z z (by omega) (by omega) j3 _ hZ12.1 hZ13.1 hZ12.2 hZ13.2
               rw [decide_eq_true (show z = z from rfl)] at csz)
            | (go_at_call 13; (with_reducible refine csz.mono ?_); rintro e w11 ⟨rfl, hb11⟩))
          go_ret
          exact ⟨rfl, below_next hB10 hb11⟩
end selectorBack
end Go.Proofs.YthacboofbbfmlaaDoor
