/- selector's readSimple. Conditions: the text is not too long. -/
import Derived.Test.YthacboofbbfmlaaGreatDoorSelC
namespace Go.Proofs.YthacboofbbfmlaaGreatDoor
open Go.ChangeShapes Go.WideShapes Go.ChangeAt Go.RowKit Go.Shelf
namespace Sel
open Tok
open RowG (Row)
theorem row_less {α : Type} {w : World} {base b k : Nat} {e : TypeId} {enc : α → List Value} {v : Value} {l : List α} (h : Row w base e k enc v l) (hb : b ≤ base) : Row w b e k enc v l := by
  refine ⟨h.1, ?_⟩
  rcases h.2 with h2 | ⟨g, cap, cur, h1, h2, h3, h4⟩
  · exact Or.inl h2
  · exact Or.inr ⟨g, cap, cur, h1, Nat.le_trans hb h2, h3, h4⟩
def siV (p : Sim) (vi vc : Value) : Value := .agg #[.string (toB p.tag), vi, vc, .bool p.link, .bool p.visited]
/-- What readSimple answers. -/
def SiR (w : World) (base : Nat) (x : Option Sim) (e : Ending) : Prop := match x with
  | none => e = .returned (.tuple #[.agg #[.string ⟨#[]⟩, .slice none 0 0, .slice none 0 0, .bool false, .bool false], .bool false])
  | some p => ∃ vi vc, e = .returned (.tuple #[siV p vi vc, .bool true]) ∧ Row w base 9 1 txC vi p.ids ∧ Row w base 9 1 txC vc p.classes
theorem own_nil (k : Nat) (p : Sim) : ownF k [] p = some p := own_done k p
theorem own_zero {c : UInt8} {t : List UInt8} (p : Sim) : ownF 0 (c :: t) p = none := rfl
theorem own_succ {k : Nat} {c : UInt8} {t : List UInt8} (p : Sim) : ownF (k + 1) (c :: t) p = match takeS p (c :: own1 t) with
    | none => none
    | some p' => ownF k (own2 t) p' := rfl
theorem own2_drop (t : List UInt8) : own2 t = t.drop (own1 t).length := by
  have h : own1 t ++ own2 t = t := List.takeWhile_append_dropWhile
  have h2 : (own1 t ++ own2 t).drop (own1 t).length = own2 t := List.drop_left
  rw [h] at h2
  exact h2.symm
theorem own1_take (t : List UInt8) : own1 t = t.take (own1 t).length := by
  have h : own1 t ++ own2 t = t := List.takeWhile_append_dropWhile
  have h2 : (own1 t ++ own2 t).take (own1 t).length = own1 t := List.take_left
  rw [h] at h2
  exact h2.symm
theorem own1_le (t : List UInt8) : (own1 t).length ≤ t.length := (List.takeWhile_sublist _).length_le
theorem own2_le (t : List UInt8) : (own2 t).length ≤ t.length := (List.dropWhile_sublist _).length_le
theorem take_cnt {p q : Sim} {own : List UInt8} (h : takeS p own = some q) : q.ids.length ≤ p.ids.length + 1 ∧ q.classes.length ≤ p.classes.length + 1 := by
  unfold takeS at h
  split at h
  · injection h with h; subst h; exact ⟨Nat.le_succ _, Nat.le_succ _⟩
  · split at h
    · injection h with h; subst h; exact ⟨Nat.le_succ _, Nat.le_succ _⟩
    · split at h
      · cases h
      · split at h
        · injection h with h; subst h; exact ⟨by simp, Nat.le_succ _⟩
        · split at h
          · injection h with h; subst h; exact ⟨Nat.le_succ _, by simp⟩
          · cases h
theorem info_sim5 : (Tryz.prog.info? 53).map (·.size) = some 5 := by kernel_rfl
def zS : Array Value := #[.string ⟨#[]⟩, .slice none 0 0, .slice none 0 0, .bool false, .bool false]
theorem ta_none {w : World} {base g : Nat} {p : Sim} {e : Ending} (h : TaR w base g p none e) : e = .returned (.bool false) ∧ SiO w base g p := by
  rcases h with ⟨-, h1, h2⟩ | ⟨q, hq, -⟩
  · exact ⟨h1, h2⟩
  · cases hq
theorem ta_some {w : World} {base g : Nat} {p q : Sim} {e : Ending} (h : TaR w base g p (some q) e) : e = .returned (.bool true) ∧ SiO w base g q := by
  rcases h with ⟨hq, -⟩ | ⟨q', hq, h1, h2⟩
  · cases hq
  · obtain rfl := Option.some.inj hq
    exact ⟨h1, h2⟩
set_option maxRecDepth 100000 in
set_option maxHeartbeats 16000000 in
theorem readSimple_any (l : List UInt8) (hl : l.length ≤ 100000) (w : World) :
    Calls Tryz.prog 22 #[.string (toB l)] w fun e w' => SiR w' w.heap.size (simF l) e ∧ Below w.heap.size w w' := by
  have cu := fun w => until_bg l (by unfold mostB; omega) w
  have hcl := fun w => cutL l (own1 l).length (own1_le l) w
  have z0 := lit_eq l []
  have z1 := lit_eq (own1 l) [42]
  have z2 := lit_eq (own1 l) []
  have K0 := (Blk.new w 53 zS).alloc (.cells zS 53)
  have K1 := Blk.new (w.alloc (.cells zS 53)) 53 zS
  rw [size_al] at K1
  have hB0 := below_al (below_al (Below.refl w.heap.size w) (.cells zS 53)) (.cells zS 53)
  have hz0 : ((w.alloc (.cells zS 53)).alloc (.cells zS 53)).heap.size = w.heap.size + 1 + 1 := by rw [size_al, size_al]
  have hS0 : SiM ((w.alloc (.cells zS 53)).alloc (.cells zS 53)) (w.heap.size + 1) (w.heap.size + 1) (.slice none 0 0) (.slice none 0 0) sim0 := ⟨K1, Nat.le_refl _, Row.nil _ _ _ _ _, Row.nil _ _ _ _ _, fun b hb => by simp [Value.ownBlock] at hb⟩
  obtain ⟨R, hR⟩ : ∃ R, R = simF l := ⟨_, rfl⟩
  rw [← hR]
  unfold simF at hR
  unfold zS at *
  have HR := Lib.hid hR
  clear hR
  by_cases t0 : l = []
  · obtain rfl : R = none := by rw [HR.out, if_pos (.inl t0)]
    subst t0
    have ho : own1 [] = [] := rfl
    have z1' : ((toB []).toList == [42]) = false := by rw [lit_eq]; rfl
    have z2' : ((toB []).toList == []) = true := by rw [lit_eq]; rfl
    rw [ho] at cu
    clear HR z0 z1 z2 hcl
    generalize toB [] = E at *
    go_enter Tryz.func22, Tryz.ntmps22
    go_wp2_with (first
      | (go_at_call 43; (with_reducible refine (cu _).mono ?_); rintro e w2 ⟨rfl, hb2⟩
         have hS2 := hS0.next hb2
         have KR := K0.next hb2
         have hB2 := below_next hB0 hb2
         have hz2 := hb2.size
         have p0 := hS2.blk.cell 0
         have pf := hS2.blk.frozen 0
         simp only [List.getElem?_toArray, List.getElem?_cons_zero] at p0
         obtain ⟨k0, k1, k2, k3, k4⟩ := blk5 KR
         obtain ⟨f0, f1, f2, f3, f4⟩ := fz5 KR
         have KRt := blk_setOther (p := ⟨w.heap.size + 1, 0, none⟩) KR (Nat.ne_of_lt (Nat.lt_succ_self _)) (.string E)
         have hBt := hB2.setCell (p := ⟨w.heap.size + 1, 0, none⟩) (by show w.heap.size ≤ w.heap.size + 1; omega) (.string E)))
    have K5 := blk_set5 KRt (.string ⟨#[]⟩) (.slice none 0 0) (.slice none 0 0) (.bool false) (.bool false)
    have B5 := below_set5 hBt (Nat.le_refl w.heap.size) (.string ⟨#[]⟩) (.slice none 0 0) (.slice none 0 0) (.bool false) (.bool false)
    generalize (((((w2.setCell ⟨w.heap.size + 1, 0, none⟩ (.string E)).setCell ⟨w.heap.size, 0, none⟩ (.string ⟨#[]⟩)).setCell ⟨w.heap.size, 1, none⟩ (.slice none 0 0)).setCell ⟨w.heap.size, 2, none⟩ (.slice none 0 0)).setCell ⟨w.heap.size, 3, none⟩ (.bool false)).setCell ⟨w.heap.size, 4, none⟩ (.bool false) = WF at K5 B5 ⊢
    obtain ⟨r0, r1, r2, r3, r4⟩ := blk5 K5
    exact bodyPost_ret (v := .tuple #[.agg #[.string ⟨#[]⟩, .slice none 0 0, .slice none 0 0, .bool false, .bool false], .bool false]) (by simp [results, Tryz.results22, go_sem, r0, r1, r2, r3, r4]) rfl ⟨rfl, B5⟩
  rw [decide_eq_false t0] at z0
  have hTz : (toB (own1 l)).size = (own1 l).length := toB_size _
  rw [← own2_drop, ← hTz] at hcl
  have HRO : Hid (¬(tagP l ≠ [] ∧ nameB (tagP l) = false) → R = ownF 8 (own2 l) { sim0 with tag := tagP l }) := by
    intro e
    rw [HR.out, if_neg]
    rintro (e2 | e2)
    · exact t0 e2
    · exact e e2
  have HRN : Hid (tagP l ≠ [] ∧ nameB (tagP l) = false → R = none) := fun e => by rw [HR.out, if_pos (.inr e)]
  have hrl := own2_le l
  clear HR hTz
  by_cases t1 : own1 l = [42]
  · rw [decide_eq_true t1] at z1
    have htag : tagP l = [] := by unfold tagP; rw [if_pos t1]
    have HR0 : Hid (R = ownF (8 - 0) (own2 l) { sim0 with tag := tagP l }) := HRO.out (fun e => e.1 htag)
    have hS0' : SiM ((w.alloc (.cells #[.string ⟨#[]⟩, .slice none 0 0, .slice none 0 0, .bool false, .bool false] 53)).alloc (.cells #[.string ⟨#[]⟩, .slice none 0 0, .slice none 0 0, .bool false, .bool false] 53)) (w.heap.size + 1) (w.heap.size + 1) (.slice none 0 0) (.slice none 0 0) { sim0 with tag := tagP l } := by rw [htag]; exact hS0
    clear HRO HRN z2 t1 hS0
    generalize hT : toB (own1 l) = T at *
    generalize hL : toB l = L at *
    clear hT hL
    go_enter Tryz.func22, Tryz.ntmps22
    go_wp2_with (first
      | (go_at_call 43; (with_reducible refine (cu _).mono ?_); rintro e w2 ⟨rfl, hb2⟩
         have hS2 := hS0'.next hb2
         have KR := K0.next hb2
         have hB2 := below_next hB0 hb2
         have hz2 := hb2.size
         obtain ⟨k0, k1, k2, k3, k4⟩ := blk5 KR
         obtain ⟨f0, f1, f2, f3, f4⟩ := fz5 KR
         have p0 : w2.cell? ⟨w.heap.size + 1, 0, none⟩ = some (.string ⟨#[]⟩) := by
           have := hS2.blk.cell 0
           rw [htag] at this
           exact this))
    rw [hz0] at hz2
    have hS3 := hS2
    have KR3 := KR
    have hB3 := hB2
    have hz3 := hz2
    have hS0 := hS0'
    clear hS2 KR hB2 hz2 p0 htag hS0' k0 k1 k2 k3 k4 f0 f1 f2 f3 f4 hb2
    generalize w2 = W3 at *
    clear hS0 K0 K1 hB0 cu hcl z0 z1
    have hS3' : SiO W3 (w.heap.size + 1) (w.heap.size + 1) { sim0 with tag := tagP l } := ⟨_, _, hS3⟩
    clear hS3
    go_loopw [6, 7] (fun v6 v7 wr => ∃ (k : Nat) (rest : List UInt8) (p' : Sim), v6 = .string (toB rest) ∧ v7 = .int .i64 k ∧ k ≤ 8 ∧ rest.length ≤ l.length ∧ SiO wr (w.heap.size + 1) (w.heap.size + 1) p' ∧ p'.ids.length ≤ k ∧ p'.classes.length ≤ k ∧ Hid (R = ownF (8 - k) rest p') ∧ Blk wr w.heap.size 53 #[.string ⟨#[]⟩, .slice none 0 0, .slice none 0 0, .bool false, .bool false] ∧ Below w.heap.size w wr ∧ w.heap.size + 1 + 1 ≤ wr.heap.size) (fun _ v7 _ => 9 - (intOf v7).toNat)
    case atStart => exact ⟨0, own2 l, _, rfl, rfl, by omega, hrl, hS3', Nat.zero_le _, Nat.zero_le _, HR0, KR3, hB3, hz3⟩
    case round =>
      obtain ⟨k, rest, p', rfl, rfl, hk, hrest, ⟨vi, vc, hS⟩, hi, hc, HK, KR, hBr, hzr⟩ := hrel
      obtain ⟨k0, k1, k2, k3, k4⟩ := blk5 KR
      obtain ⟨f0, f1, f2, f3, f4⟩ := fz5 KR
      clear hS3' HR0 KR3 hB3 hz3
      cases rest with
      | nil =>
        have z0 : ((toB []).toList == []) = true := by rw [lit_eq]; rfl
        obtain ⟨Ai, ci, rfl⟩ := hS.ids.form
        obtain ⟨Ac, cc, rfl⟩ := hS.classes.form
        obtain ⟨s0, s1, s2, s3, s4⟩ := blk5 hS.blk
        have hRp : R = some p' := by rw [HK.out, own_nil]
        generalize toB [] = E at *
        go_wp2
        have hKT := kt_set5 (e := 9) KR (by decide) (.string (toB p'.tag)) (.slice Ai p'.ids.length ci) (.slice Ac p'.classes.length cc) (.bool p'.link) (.bool p'.visited)
        have hri := row_less (row_kt hS.ids hKT) (Nat.le_succ w.heap.size)
        have hrc := row_less (row_kt hS.classes hKT) (Nat.le_succ w.heap.size)
        have K5 := blk_set5 KR (.string (toB p'.tag)) (.slice Ai p'.ids.length ci) (.slice Ac p'.classes.length cc) (.bool p'.link) (.bool p'.visited)
        have B5 := below_set5 hBr (Nat.le_refl w.heap.size) (.string (toB p'.tag)) (.slice Ai p'.ids.length ci) (.slice Ac p'.classes.length cc) (.bool p'.link) (.bool p'.visited)
        generalize ((((wr.setCell ⟨w.heap.size, 0, none⟩ (.string (toB p'.tag))).setCell ⟨w.heap.size, 1, none⟩ (.slice Ai p'.ids.length ci)).setCell ⟨w.heap.size, 2, none⟩ (.slice Ac p'.classes.length cc)).setCell ⟨w.heap.size, 3, none⟩ (.bool p'.link)).setCell ⟨w.heap.size, 4, none⟩ (.bool p'.visited) = WF at K5 B5 hri hrc ⊢
        obtain ⟨r0, r1, r2, r3, r4⟩ := blk5 K5
        exact bodyPost_ret (v := .tuple #[siV p' (.slice Ai p'.ids.length ci) (.slice Ac p'.classes.length cc), .bool true]) (by simp [results, Tryz.results22, go_sem, siV, r0, r1, r2, r3, r4]) rfl ⟨by rw [hRp]; exact ⟨_, _, rfl, hri, hrc⟩, B5⟩
      | cons c t =>
        have z0 : ((toB (c :: t)).toList == []) = false := by rw [lit_eq]; simp
        have c1 : ∀ w, (Instr.slice 9 (.string (toB (c :: t))) (some (.int .i64 1)) none none).run Tryz.prog w = .ok (.string (toB t)) w := fun w => cutL (c :: t) 1 (by simp) w
        rw [List.length_cons] at hrest
        have cu := fun w => until_bg t (by unfold mostB; omega) w
        have hol := own1_le t
        have hTz : (toB (own1 t)).size = (own1 t).length := toB_size _
        have hM : (1 : Int) + ((toB (own1 t)).size : Int) = (((own1 t).length + 1 : Nat) : Int) := by rw [hTz]; omega
        have c2 := fun w => cutH (c :: t) ((own1 t).length + 1) (by rw [List.length_cons]; omega) w
        have e2 : (c :: t).take ((own1 t).length + 1) = c :: own1 t := by rw [List.take_succ_cons, ← own1_take]
        rw [e2] at c2
        have c3 := fun w => cutL (c :: t) ((own1 t).length + 1) (by rw [List.length_cons]; omega) w
        have e3 : (c :: t).drop ((own1 t).length + 1) = own2 t := by rw [List.drop_succ_cons, ← own2_drop]
        rw [e3] at c3
        have hOz : ((toB (c :: own1 t)).size : Int) = (((own1 t).length + 1 : Nat) : Int) := by rw [toB_size, List.length_cons]
        have hrl2 := own2_le t
        obtain ⟨m, hm⟩ : ∃ m, m = (own1 t).length + 1 := ⟨_, rfl⟩
        rw [← hm] at hM c2 c3 hOz
        have hm0 : (0 : Int) ≤ (m : Int) := Int.natCast_nonneg _
        have hmb : m ≤ 1000000 := by omega
        clear e2 e3 hTz hm
        generalize hE : toB (c :: t) = E at *
        generalize toB t = Et at *
        generalize toB (own1 t) = Eo at *
        generalize hO : toB (c :: own1 t) = O at *
        have HO := Lib.hid hO
        clear hE hO
        by_cases hk8 : k = 8
        · subst hk8
          obtain rfl : R = none := by rw [HK.out]; rfl
          clear c3 hOz
          go_wp2_with (first
            | (go_at_call 43; (with_reducible refine (cu _).mono ?_); rintro e w4 ⟨rfl, hb4⟩
               have hS4 := (show SiO wr (w.heap.size + 1) (w.heap.size + 1) p' from ⟨_, _, hS⟩).next hb4
               have KR4 := KR.next hb4
               have hB4 := below_next hBr hb4
               have hz4 := hb4.size
               obtain ⟨y0, y1, y2, y3, y4⟩ := blk5 KR4
               obtain ⟨g0, g1, g2, g3, g4⟩ := fz5 KR4))
          have K5 := blk_set5 KR4 (.string ⟨#[]⟩) (.slice none 0 0) (.slice none 0 0) (.bool false) (.bool false)
          have B5 := below_set5 hB4 (Nat.le_refl w.heap.size) (.string ⟨#[]⟩) (.slice none 0 0) (.slice none 0 0) (.bool false) (.bool false)
          generalize ((((w4.setCell ⟨w.heap.size, 0, none⟩ (.string ⟨#[]⟩)).setCell ⟨w.heap.size, 1, none⟩ (.slice none 0 0)).setCell ⟨w.heap.size, 2, none⟩ (.slice none 0 0)).setCell ⟨w.heap.size, 3, none⟩ (.bool false)).setCell ⟨w.heap.size, 4, none⟩ (.bool false) = WF at K5 B5 ⊢
          obtain ⟨r0, r1, r2, r3, r4⟩ := blk5 K5
          exact bodyPost_ret (v := .tuple #[.agg #[.string ⟨#[]⟩, .slice none 0 0, .slice none 0 0, .bool false, .bool false], .bool false]) (by simp [results, Tryz.results22, go_sem, r0, r1, r2, r3, r4]) rfl ⟨rfl, B5⟩
        · have hk8b : ((k : Int) == 8) = false := by rw [beq_eq_false_iff_ne]; omega
          obtain ⟨j, hj⟩ : ∃ j, 8 - k = j + 1 := ⟨7 - k, by omega⟩
          have hj2 : 8 - (k + 1) = j := by omega
          have HK2 : Hid (R = match takeS p' (c :: own1 t) with | none => none | some q => ownF j (own2 t) q) := by show _ = _; rw [HK.out, hj]; rfl
          have ct := fun w' h hb => take_any w' (w.heap.size + 1) (w.heap.size + 1) p' c (own1 t) h hb (by omega) (by omega) (by omega)
          have hcnt := fun q h => take_cnt (p := p') (q := q) (own := c :: own1 t) h
          rw [HO.out] at ct
          rw [← hj2] at HK2
          have hk7 : k ≤ 7 := by omega
          clear HK hj hj2 hk8
          cases hts : takeS p' (c :: own1 t) with
          | none =>
            rw [hts] at ct HK2
            obtain rfl : R = none := HK2.out
            clear HK2 hts hcnt c3
            go_wp2_with (first
              | (go_at_call 43; (with_reducible refine (cu _).mono ?_); rintro e w4 ⟨rfl, hb4⟩
                 have hS4 := (show SiO wr (w.heap.size + 1) (w.heap.size + 1) p' from ⟨_, _, hS⟩).next hb4
                 have KR4 := KR.next hb4
                 have hB4 := below_next hBr hb4
                 have hz4 := hb4.size
                 obtain ⟨y0, y1, y2, y3, y4⟩ := blk5 KR4
                 obtain ⟨g0, g1, g2, g3, g4⟩ := fz5 KR4)
              | (go_at_call 47; (with_reducible refine (ct _ hS4 (by omega)).mono ?_); rintro e w5 ⟨hta, hb5⟩
                 obtain ⟨rfl, hS5⟩ := ta_none hta
                 have KR5 := blk_below KR4 hb5 (Nat.lt_succ_self _)
                 have hB5 : Below w.heap.size w w5 := hB4.trans (hb5.mono (Nat.le_succ _))
                 obtain ⟨x0, x1, x2, x3, x4⟩ := blk5 KR5
                 obtain ⟨h0, h1, h2, h3, h4⟩ := fz5 KR5))
            have K5 := blk_set5 KR5 (.string ⟨#[]⟩) (.slice none 0 0) (.slice none 0 0) (.bool false) (.bool false)
            have B5 := below_set5 hB5 (Nat.le_refl w.heap.size) (.string ⟨#[]⟩) (.slice none 0 0) (.slice none 0 0) (.bool false) (.bool false)
            generalize ((((w5.setCell ⟨w.heap.size, 0, none⟩ (.string ⟨#[]⟩)).setCell ⟨w.heap.size, 1, none⟩ (.slice none 0 0)).setCell ⟨w.heap.size, 2, none⟩ (.slice none 0 0)).setCell ⟨w.heap.size, 3, none⟩ (.bool false)).setCell ⟨w.heap.size, 4, none⟩ (.bool false) = WF at K5 B5 ⊢
            obtain ⟨r0, r1, r2, r3, r4⟩ := blk5 K5
            exact bodyPost_ret (v := .tuple #[.agg #[.string ⟨#[]⟩, .slice none 0 0, .slice none 0 0, .bool false, .bool false], .bool false]) (by simp [results, Tryz.results22, go_sem, r0, r1, r2, r3, r4]) rfl ⟨rfl, B5⟩
          | some q =>
            rw [hts] at ct HK2
            obtain ⟨hq1, hq2⟩ := hcnt q hts
            clear hts hcnt
            go_wp2_with (first
              | (go_at_call 43; (with_reducible refine (cu _).mono ?_); rintro e w4 ⟨rfl, hb4⟩
                 have hS4 := (show SiO wr (w.heap.size + 1) (w.heap.size + 1) p' from ⟨_, _, hS⟩).next hb4
                 have KR4 := KR.next hb4
                 have hB4 := below_next hBr hb4
                 have hz4 := hb4.size
                 obtain ⟨y0, y1, y2, y3, y4⟩ := blk5 KR4
                 obtain ⟨g0, g1, g2, g3, g4⟩ := fz5 KR4)
              | (go_at_call 47; (with_reducible refine (ct _ hS4 (by omega)).mono ?_); rintro e w5 ⟨hta, hb5⟩
                 obtain ⟨rfl, hS5⟩ := ta_some hta
                 have KR5 := blk_below KR4 hb5 (Nat.lt_succ_self _)
                 have hB5 : Below w.heap.size w w5 := hB4.trans (hb5.mono (Nat.le_succ _))
                 have hz5 := Nat.le_trans hzr (Nat.le_trans hz4 hb5.size)))
            go_roundw
            case rel => exact ⟨k + 1, own2 t, q, rfl, by go_num, by omega, by omega, hS5, by omega, by omega, HK2, KR5, hB5, hz5⟩
            case measure => simp [intOf]; omega
  rw [decide_eq_false t1] at z1
  have htag : tagP l = own1 l := by unfold tagP; rw [if_neg t1]
  by_cases t2 : own1 l = []
  · rw [decide_eq_true t2] at z2
    have HR0 : Hid (R = ownF (8 - 0) (own2 l) { sim0 with tag := tagP l }) := HRO.out (fun e => e.1 (by rw [htag]; exact t2))
    have HTG := Lib.hid htag
    clear HRO HRN t1 htag
    clear t2
    generalize hT : toB (own1 l) = T at *
    have HT := Lib.hid hT
    generalize hL : toB l = L at *
    clear hT hL
    go_enter Tryz.func22, Tryz.ntmps22
    go_wp2_with (first
      | (go_at_call 43; (with_reducible refine (cu _).mono ?_); rintro e w2 ⟨rfl, hb2⟩
         have hS2 := hS0.next hb2
         have KR := K0.next hb2
         have hB2 := below_next hB0 hb2
         have hz2 := hb2.size
         have p0 := hS2.blk.cell 0
         have pf := hS2.blk.frozen 0
         simp only [List.getElem?_toArray, List.getElem?_cons_zero] at p0
         obtain ⟨k0, k1, k2, k3, k4⟩ := blk5 KR
         obtain ⟨f0, f1, f2, f3, f4⟩ := fz5 KR
         have KRt := blk_setOther (p := ⟨w.heap.size + 1, 0, none⟩) KR (Nat.ne_of_lt (Nat.lt_succ_self _)) (.string T)
         have hBt := hB2.setCell (p := ⟨w.heap.size + 1, 0, none⟩) (by show w.heap.size ≤ w.heap.size + 1; omega) (.string T)
         have hSt := hS2.tag_ (own1 l)
         rw [HT.out, ← HTG.out] at hSt))
    rw [hz0] at hz2
    have hS3 := hSt
    have KR3 := KRt
    have hB3 := hBt
    have hz3 : w.heap.size + 1 + 1 ≤ (w2.setCell ⟨w.heap.size + 1, 0, none⟩ (.string T)).heap.size := Nat.le_trans hz2 ((Below.refl (w.heap.size + 1) w2).setCell (p := ⟨w.heap.size + 1, 0, none⟩) (Nat.le_refl _) (.string T)).size
    clear hS2 KR hB2 hz2 p0 pf k0 k1 k2 k3 k4 f0 f1 f2 f3 f4 hb2 hSt KRt hBt
    generalize w2.setCell ⟨w.heap.size + 1, 0, none⟩ (.string T) = W3 at *
    clear hS0 K0 K1 hB0 cu hcl z0 z1
    have hS3' : SiO W3 (w.heap.size + 1) (w.heap.size + 1) { sim0 with tag := tagP l } := ⟨_, _, hS3⟩
    clear hS3
    go_loopw [6, 7] (fun v6 v7 wr => ∃ (k : Nat) (rest : List UInt8) (p' : Sim), v6 = .string (toB rest) ∧ v7 = .int .i64 k ∧ k ≤ 8 ∧ rest.length ≤ l.length ∧ SiO wr (w.heap.size + 1) (w.heap.size + 1) p' ∧ p'.ids.length ≤ k ∧ p'.classes.length ≤ k ∧ Hid (R = ownF (8 - k) rest p') ∧ Blk wr w.heap.size 53 #[.string ⟨#[]⟩, .slice none 0 0, .slice none 0 0, .bool false, .bool false] ∧ Below w.heap.size w wr ∧ w.heap.size + 1 + 1 ≤ wr.heap.size) (fun _ v7 _ => 9 - (intOf v7).toNat)
    case atStart => exact ⟨0, own2 l, _, rfl, rfl, by omega, hrl, hS3', Nat.zero_le _, Nat.zero_le _, HR0, KR3, hB3, hz3⟩
    case round =>
      obtain ⟨k, rest, p', rfl, rfl, hk, hrest, ⟨vi, vc, hS⟩, hi, hc, HK, KR, hBr, hzr⟩ := hrel
      obtain ⟨k0, k1, k2, k3, k4⟩ := blk5 KR
      obtain ⟨f0, f1, f2, f3, f4⟩ := fz5 KR
      clear hS3' HR0 KR3 hB3 hz3
      cases rest with
      | nil =>
        have z0 : ((toB []).toList == []) = true := by rw [lit_eq]; rfl
        obtain ⟨Ai, ci, rfl⟩ := hS.ids.form
        obtain ⟨Ac, cc, rfl⟩ := hS.classes.form
        obtain ⟨s0, s1, s2, s3, s4⟩ := blk5 hS.blk
        have hRp : R = some p' := by rw [HK.out, own_nil]
        generalize toB [] = E at *
        go_wp2
        have hKT := kt_set5 (e := 9) KR (by decide) (.string (toB p'.tag)) (.slice Ai p'.ids.length ci) (.slice Ac p'.classes.length cc) (.bool p'.link) (.bool p'.visited)
        have hri := row_less (row_kt hS.ids hKT) (Nat.le_succ w.heap.size)
        have hrc := row_less (row_kt hS.classes hKT) (Nat.le_succ w.heap.size)
        have K5 := blk_set5 KR (.string (toB p'.tag)) (.slice Ai p'.ids.length ci) (.slice Ac p'.classes.length cc) (.bool p'.link) (.bool p'.visited)
        have B5 := below_set5 hBr (Nat.le_refl w.heap.size) (.string (toB p'.tag)) (.slice Ai p'.ids.length ci) (.slice Ac p'.classes.length cc) (.bool p'.link) (.bool p'.visited)
        generalize ((((wr.setCell ⟨w.heap.size, 0, none⟩ (.string (toB p'.tag))).setCell ⟨w.heap.size, 1, none⟩ (.slice Ai p'.ids.length ci)).setCell ⟨w.heap.size, 2, none⟩ (.slice Ac p'.classes.length cc)).setCell ⟨w.heap.size, 3, none⟩ (.bool p'.link)).setCell ⟨w.heap.size, 4, none⟩ (.bool p'.visited) = WF at K5 B5 hri hrc ⊢
        obtain ⟨r0, r1, r2, r3, r4⟩ := blk5 K5
        exact bodyPost_ret (v := .tuple #[siV p' (.slice Ai p'.ids.length ci) (.slice Ac p'.classes.length cc), .bool true]) (by simp [results, Tryz.results22, go_sem, siV, r0, r1, r2, r3, r4]) rfl ⟨by rw [hRp]; exact ⟨_, _, rfl, hri, hrc⟩, B5⟩
      | cons c t =>
        have z0 : ((toB (c :: t)).toList == []) = false := by rw [lit_eq]; simp
        have c1 : ∀ w, (Instr.slice 9 (.string (toB (c :: t))) (some (.int .i64 1)) none none).run Tryz.prog w = .ok (.string (toB t)) w := fun w => cutL (c :: t) 1 (by simp) w
        rw [List.length_cons] at hrest
        have cu := fun w => until_bg t (by unfold mostB; omega) w
        have hol := own1_le t
        have hTz : (toB (own1 t)).size = (own1 t).length := toB_size _
        have hM : (1 : Int) + ((toB (own1 t)).size : Int) = (((own1 t).length + 1 : Nat) : Int) := by rw [hTz]; omega
        have c2 := fun w => cutH (c :: t) ((own1 t).length + 1) (by rw [List.length_cons]; omega) w
        have e2 : (c :: t).take ((own1 t).length + 1) = c :: own1 t := by rw [List.take_succ_cons, ← own1_take]
        rw [e2] at c2
        have c3 := fun w => cutL (c :: t) ((own1 t).length + 1) (by rw [List.length_cons]; omega) w
        have e3 : (c :: t).drop ((own1 t).length + 1) = own2 t := by rw [List.drop_succ_cons, ← own2_drop]
        rw [e3] at c3
        have hOz : ((toB (c :: own1 t)).size : Int) = (((own1 t).length + 1 : Nat) : Int) := by rw [toB_size, List.length_cons]
        have hrl2 := own2_le t
        obtain ⟨m, hm⟩ : ∃ m, m = (own1 t).length + 1 := ⟨_, rfl⟩
        rw [← hm] at hM c2 c3 hOz
        have hm0 : (0 : Int) ≤ (m : Int) := Int.natCast_nonneg _
        have hmb : m ≤ 1000000 := by omega
        clear e2 e3 hTz hm
        generalize hE : toB (c :: t) = E at *
        generalize toB t = Et at *
        generalize toB (own1 t) = Eo at *
        generalize hO : toB (c :: own1 t) = O at *
        have HO := Lib.hid hO
        clear hE hO
        by_cases hk8 : k = 8
        · subst hk8
          obtain rfl : R = none := by rw [HK.out]; rfl
          clear c3 hOz
          go_wp2_with (first
            | (go_at_call 43; (with_reducible refine (cu _).mono ?_); rintro e w4 ⟨rfl, hb4⟩
               have hS4 := (show SiO wr (w.heap.size + 1) (w.heap.size + 1) p' from ⟨_, _, hS⟩).next hb4
               have KR4 := KR.next hb4
               have hB4 := below_next hBr hb4
               have hz4 := hb4.size
               obtain ⟨y0, y1, y2, y3, y4⟩ := blk5 KR4
               obtain ⟨g0, g1, g2, g3, g4⟩ := fz5 KR4))
          have K5 := blk_set5 KR4 (.string ⟨#[]⟩) (.slice none 0 0) (.slice none 0 0) (.bool false) (.bool false)
          have B5 := below_set5 hB4 (Nat.le_refl w.heap.size) (.string ⟨#[]⟩) (.slice none 0 0) (.slice none 0 0) (.bool false) (.bool false)
          generalize ((((w4.setCell ⟨w.heap.size, 0, none⟩ (.string ⟨#[]⟩)).setCell ⟨w.heap.size, 1, none⟩ (.slice none 0 0)).setCell ⟨w.heap.size, 2, none⟩ (.slice none 0 0)).setCell ⟨w.heap.size, 3, none⟩ (.bool false)).setCell ⟨w.heap.size, 4, none⟩ (.bool false) = WF at K5 B5 ⊢
          obtain ⟨r0, r1, r2, r3, r4⟩ := blk5 K5
          exact bodyPost_ret (v := .tuple #[.agg #[.string ⟨#[]⟩, .slice none 0 0, .slice none 0 0, .bool false, .bool false], .bool false]) (by simp [results, Tryz.results22, go_sem, r0, r1, r2, r3, r4]) rfl ⟨rfl, B5⟩
        · have hk8b : ((k : Int) == 8) = false := by rw [beq_eq_false_iff_ne]; omega
          obtain ⟨j, hj⟩ : ∃ j, 8 - k = j + 1 := ⟨7 - k, by omega⟩
          have hj2 : 8 - (k + 1) = j := by omega
          have HK2 : Hid (R = match takeS p' (c :: own1 t) with | none => none | some q => ownF j (own2 t) q) := by show _ = _; rw [HK.out, hj]; rfl
          have ct := fun w' h hb => take_any w' (w.heap.size + 1) (w.heap.size + 1) p' c (own1 t) h hb (by omega) (by omega) (by omega)
          have hcnt := fun q h => take_cnt (p := p') (q := q) (own := c :: own1 t) h
          rw [HO.out] at ct
          rw [← hj2] at HK2
          have hk7 : k ≤ 7 := by omega
          clear HK hj hj2 hk8
          cases hts : takeS p' (c :: own1 t) with
          | none =>
            rw [hts] at ct HK2
            obtain rfl : R = none := HK2.out
            clear HK2 hts hcnt c3
            go_wp2_with (first
              | (go_at_call 43; (with_reducible refine (cu _).mono ?_); rintro e w4 ⟨rfl, hb4⟩
                 have hS4 := (show SiO wr (w.heap.size + 1) (w.heap.size + 1) p' from ⟨_, _, hS⟩).next hb4
                 have KR4 := KR.next hb4
                 have hB4 := below_next hBr hb4
                 have hz4 := hb4.size
                 obtain ⟨y0, y1, y2, y3, y4⟩ := blk5 KR4
                 obtain ⟨g0, g1, g2, g3, g4⟩ := fz5 KR4)
              | (go_at_call 47; (with_reducible refine (ct _ hS4 (by omega)).mono ?_); rintro e w5 ⟨hta, hb5⟩
                 obtain ⟨rfl, hS5⟩ := ta_none hta
                 have KR5 := blk_below KR4 hb5 (Nat.lt_succ_self _)
                 have hB5 : Below w.heap.size w w5 := hB4.trans (hb5.mono (Nat.le_succ _))
                 obtain ⟨x0, x1, x2, x3, x4⟩ := blk5 KR5
                 obtain ⟨h0, h1, h2, h3, h4⟩ := fz5 KR5))
            have K5 := blk_set5 KR5 (.string ⟨#[]⟩) (.slice none 0 0) (.slice none 0 0) (.bool false) (.bool false)
            have B5 := below_set5 hB5 (Nat.le_refl w.heap.size) (.string ⟨#[]⟩) (.slice none 0 0) (.slice none 0 0) (.bool false) (.bool false)
            generalize ((((w5.setCell ⟨w.heap.size, 0, none⟩ (.string ⟨#[]⟩)).setCell ⟨w.heap.size, 1, none⟩ (.slice none 0 0)).setCell ⟨w.heap.size, 2, none⟩ (.slice none 0 0)).setCell ⟨w.heap.size, 3, none⟩ (.bool false)).setCell ⟨w.heap.size, 4, none⟩ (.bool false) = WF at K5 B5 ⊢
            obtain ⟨r0, r1, r2, r3, r4⟩ := blk5 K5
            exact bodyPost_ret (v := .tuple #[.agg #[.string ⟨#[]⟩, .slice none 0 0, .slice none 0 0, .bool false, .bool false], .bool false]) (by simp [results, Tryz.results22, go_sem, r0, r1, r2, r3, r4]) rfl ⟨rfl, B5⟩
          | some q =>
            rw [hts] at ct HK2
            obtain ⟨hq1, hq2⟩ := hcnt q hts
            clear hts hcnt
            go_wp2_with (first
              | (go_at_call 43; (with_reducible refine (cu _).mono ?_); rintro e w4 ⟨rfl, hb4⟩
                 have hS4 := (show SiO wr (w.heap.size + 1) (w.heap.size + 1) p' from ⟨_, _, hS⟩).next hb4
                 have KR4 := KR.next hb4
                 have hB4 := below_next hBr hb4
                 have hz4 := hb4.size
                 obtain ⟨y0, y1, y2, y3, y4⟩ := blk5 KR4
                 obtain ⟨g0, g1, g2, g3, g4⟩ := fz5 KR4)
              | (go_at_call 47; (with_reducible refine (ct _ hS4 (by omega)).mono ?_); rintro e w5 ⟨hta, hb5⟩
                 obtain ⟨rfl, hS5⟩ := ta_some hta
                 have KR5 := blk_below KR4 hb5 (Nat.lt_succ_self _)
                 have hB5 : Below w.heap.size w w5 := hB4.trans (hb5.mono (Nat.le_succ _))
                 have hz5 := Nat.le_trans hzr (Nat.le_trans hz4 hb5.size)))
            go_roundw
            case rel => exact ⟨k + 1, own2 t, q, rfl, by go_num, by omega, by omega, hS5, by omega, by omega, HK2, KR5, hB5, hz5⟩
            case measure => simp [intOf]; omega
  rw [decide_eq_false t2] at z2
  have hnl := own1_le l
  have cn := fun w => name_any (own1 l) (by simp only [maxLen]; omega) w
  have HTG := Lib.hid htag
  cases hnm : nameB (own1 l) with
  | false =>
    obtain rfl : R = none := HRN.out (by rw [htag]; exact ⟨t2, hnm⟩)
    rw [hnm] at cn
    clear HRO HRN t1 t2 htag hnm hcl
    generalize hT : toB (own1 l) = T at *
    have HT := Lib.hid hT
    generalize hL : toB l = L at *
    clear hT hL
    go_enter Tryz.func22, Tryz.ntmps22
    go_wp2_with (first
      | (go_at_call 43; (with_reducible refine (cu _).mono ?_); rintro e w2 ⟨rfl, hb2⟩
         have hS2 := hS0.next hb2
         have KR := K0.next hb2
         have hB2 := below_next hB0 hb2
         have hz2 := hb2.size
         have p0 := hS2.blk.cell 0
         have pf := hS2.blk.frozen 0
         simp only [List.getElem?_toArray, List.getElem?_cons_zero] at p0
         obtain ⟨k0, k1, k2, k3, k4⟩ := blk5 KR
         obtain ⟨f0, f1, f2, f3, f4⟩ := fz5 KR
         have KRt := blk_setOther (p := ⟨w.heap.size + 1, 0, none⟩) KR (Nat.ne_of_lt (Nat.lt_succ_self _)) (.string T)
         have hBt := hB2.setCell (p := ⟨w.heap.size + 1, 0, none⟩) (by show w.heap.size ≤ w.heap.size + 1; omega) (.string T)
         have hSt := hS2.tag_ (own1 l)
         rw [HT.out, ← HTG.out] at hSt)
      | (go_at_call 46; (with_reducible refine (cn _).mono ?_); rintro e w3 ⟨rfl, hb3⟩
         have hSn := hSt.next hb3
         have KRn := KRt.next hb3
         have hBn := below_next hBt hb3
         have hzn := hb3.size
         obtain ⟨n0, n1, n2, n3, n4⟩ := blk5 KRn
         obtain ⟨m0, m1, m2, m3, m4⟩ := fz5 KRn))
    have K5 := blk_set5 KRn (.string ⟨#[]⟩) (.slice none 0 0) (.slice none 0 0) (.bool false) (.bool false)
    have B5 := below_set5 hBn (Nat.le_refl w.heap.size) (.string ⟨#[]⟩) (.slice none 0 0) (.slice none 0 0) (.bool false) (.bool false)
    generalize ((((w3.setCell ⟨w.heap.size, 0, none⟩ (.string ⟨#[]⟩)).setCell ⟨w.heap.size, 1, none⟩ (.slice none 0 0)).setCell ⟨w.heap.size, 2, none⟩ (.slice none 0 0)).setCell ⟨w.heap.size, 3, none⟩ (.bool false)).setCell ⟨w.heap.size, 4, none⟩ (.bool false) = WF at K5 B5 ⊢
    obtain ⟨r0, r1, r2, r3, r4⟩ := blk5 K5
    exact bodyPost_ret (v := .tuple #[.agg #[.string ⟨#[]⟩, .slice none 0 0, .slice none 0 0, .bool false, .bool false], .bool false]) (by simp [results, Tryz.results22, go_sem, r0, r1, r2, r3, r4]) rfl ⟨rfl, B5⟩
  | true =>
    have HR0 : Hid (R = ownF (8 - 0) (own2 l) { sim0 with tag := tagP l }) := HRO.out (fun e => by rw [htag, hnm] at e; exact absurd e.2 (by decide))
    rw [hnm] at cn
    clear HRO HRN t1 t2 htag hnm
    generalize hT : toB (own1 l) = T at *
    have HT := Lib.hid hT
    generalize hL : toB l = L at *
    clear hT hL
    go_enter Tryz.func22, Tryz.ntmps22
    go_wp2_with (first
      | (go_at_call 43; (with_reducible refine (cu _).mono ?_); rintro e w2 ⟨rfl, hb2⟩
         have hS2 := hS0.next hb2
         have KR := K0.next hb2
         have hB2 := below_next hB0 hb2
         have hz2 := hb2.size
         have p0 := hS2.blk.cell 0
         have pf := hS2.blk.frozen 0
         simp only [List.getElem?_toArray, List.getElem?_cons_zero] at p0
         obtain ⟨k0, k1, k2, k3, k4⟩ := blk5 KR
         obtain ⟨f0, f1, f2, f3, f4⟩ := fz5 KR
         have KRt := blk_setOther (p := ⟨w.heap.size + 1, 0, none⟩) KR (Nat.ne_of_lt (Nat.lt_succ_self _)) (.string T)
         have hBt := hB2.setCell (p := ⟨w.heap.size + 1, 0, none⟩) (by show w.heap.size ≤ w.heap.size + 1; omega) (.string T)
         have hSt := hS2.tag_ (own1 l)
         rw [HT.out, ← HTG.out] at hSt)
      | (go_at_call 46; (with_reducible refine (cn _).mono ?_); rintro e w3 ⟨rfl, hb3⟩
         have hSn := hSt.next hb3
         have KRn := KRt.next hb3
         have hBn := below_next hBt hb3
         have hzn := hb3.size
         obtain ⟨n0, n1, n2, n3, n4⟩ := blk5 KRn
         obtain ⟨m0, m1, m2, m3, m4⟩ := fz5 KRn))
    rw [hz0] at hz2
    have hS3 := hSn
    have KR3 := KRn
    have hB3 := hBn
    have hz3 : w.heap.size + 1 + 1 ≤ w3.heap.size := Nat.le_trans (Nat.le_trans hz2 ((Below.refl (w.heap.size + 1) w2).setCell (p := ⟨w.heap.size + 1, 0, none⟩) (Nat.le_refl _) (.string T)).size) hzn
    clear hS2 KR hB2 hz2 p0 pf k0 k1 k2 k3 k4 f0 f1 f2 f3 f4 hb2 hSt KRt hBt hSn KRn hBn hzn n0 n1 n2 n3 n4 m0 m1 m2 m3 m4 hb3 cn
    generalize w3 = W3 at *
    clear hS0 K0 K1 hB0 cu hcl z0 z1
    have hS3' : SiO W3 (w.heap.size + 1) (w.heap.size + 1) { sim0 with tag := tagP l } := ⟨_, _, hS3⟩
    clear hS3
    go_loopw [6, 7] (fun v6 v7 wr => ∃ (k : Nat) (rest : List UInt8) (p' : Sim), v6 = .string (toB rest) ∧ v7 = .int .i64 k ∧ k ≤ 8 ∧ rest.length ≤ l.length ∧ SiO wr (w.heap.size + 1) (w.heap.size + 1) p' ∧ p'.ids.length ≤ k ∧ p'.classes.length ≤ k ∧ Hid (R = ownF (8 - k) rest p') ∧ Blk wr w.heap.size 53 #[.string ⟨#[]⟩, .slice none 0 0, .slice none 0 0, .bool false, .bool false] ∧ Below w.heap.size w wr ∧ w.heap.size + 1 + 1 ≤ wr.heap.size) (fun _ v7 _ => 9 - (intOf v7).toNat)
    case atStart => exact ⟨0, own2 l, _, rfl, rfl, by omega, hrl, hS3', Nat.zero_le _, Nat.zero_le _, HR0, KR3, hB3, hz3⟩
    case round =>
      obtain ⟨k, rest, p', rfl, rfl, hk, hrest, ⟨vi, vc, hS⟩, hi, hc, HK, KR, hBr, hzr⟩ := hrel
      obtain ⟨k0, k1, k2, k3, k4⟩ := blk5 KR
      obtain ⟨f0, f1, f2, f3, f4⟩ := fz5 KR
      clear hS3' HR0 KR3 hB3 hz3
      cases rest with
      | nil =>
        have z0 : ((toB []).toList == []) = true := by rw [lit_eq]; rfl
        obtain ⟨Ai, ci, rfl⟩ := hS.ids.form
        obtain ⟨Ac, cc, rfl⟩ := hS.classes.form
        obtain ⟨s0, s1, s2, s3, s4⟩ := blk5 hS.blk
        have hRp : R = some p' := by rw [HK.out, own_nil]
        generalize toB [] = E at *
        go_wp2
        have hKT := kt_set5 (e := 9) KR (by decide) (.string (toB p'.tag)) (.slice Ai p'.ids.length ci) (.slice Ac p'.classes.length cc) (.bool p'.link) (.bool p'.visited)
        have hri := row_less (row_kt hS.ids hKT) (Nat.le_succ w.heap.size)
        have hrc := row_less (row_kt hS.classes hKT) (Nat.le_succ w.heap.size)
        have K5 := blk_set5 KR (.string (toB p'.tag)) (.slice Ai p'.ids.length ci) (.slice Ac p'.classes.length cc) (.bool p'.link) (.bool p'.visited)
        have B5 := below_set5 hBr (Nat.le_refl w.heap.size) (.string (toB p'.tag)) (.slice Ai p'.ids.length ci) (.slice Ac p'.classes.length cc) (.bool p'.link) (.bool p'.visited)
        generalize ((((wr.setCell ⟨w.heap.size, 0, none⟩ (.string (toB p'.tag))).setCell ⟨w.heap.size, 1, none⟩ (.slice Ai p'.ids.length ci)).setCell ⟨w.heap.size, 2, none⟩ (.slice Ac p'.classes.length cc)).setCell ⟨w.heap.size, 3, none⟩ (.bool p'.link)).setCell ⟨w.heap.size, 4, none⟩ (.bool p'.visited) = WF at K5 B5 hri hrc ⊢
        obtain ⟨r0, r1, r2, r3, r4⟩ := blk5 K5
        exact bodyPost_ret (v := .tuple #[siV p' (.slice Ai p'.ids.length ci) (.slice Ac p'.classes.length cc), .bool true]) (by simp [results, Tryz.results22, go_sem, siV, r0, r1, r2, r3, r4]) rfl ⟨by rw [hRp]; exact ⟨_, _, rfl, hri, hrc⟩, B5⟩
      | cons c t =>
        have z0 : ((toB (c :: t)).toList == []) = false := by rw [lit_eq]; simp
        have c1 : ∀ w, (Instr.slice 9 (.string (toB (c :: t))) (some (.int .i64 1)) none none).run Tryz.prog w = .ok (.string (toB t)) w := fun w => cutL (c :: t) 1 (by simp) w
        rw [List.length_cons] at hrest
        have cu := fun w => until_bg t (by unfold mostB; omega) w
        have hol := own1_le t
        have hTz : (toB (own1 t)).size = (own1 t).length := toB_size _
        have hM : (1 : Int) + ((toB (own1 t)).size : Int) = (((own1 t).length + 1 : Nat) : Int) := by rw [hTz]; omega
        have c2 := fun w => cutH (c :: t) ((own1 t).length + 1) (by rw [List.length_cons]; omega) w
        have e2 : (c :: t).take ((own1 t).length + 1) = c :: own1 t := by rw [List.take_succ_cons, ← own1_take]
        rw [e2] at c2
        have c3 := fun w => cutL (c :: t) ((own1 t).length + 1) (by rw [List.length_cons]; omega) w
        have e3 : (c :: t).drop ((own1 t).length + 1) = own2 t := by rw [List.drop_succ_cons, ← own2_drop]
        rw [e3] at c3
        have hOz : ((toB (c :: own1 t)).size : Int) = (((own1 t).length + 1 : Nat) : Int) := by rw [toB_size, List.length_cons]
        have hrl2 := own2_le t
        obtain ⟨m, hm⟩ : ∃ m, m = (own1 t).length + 1 := ⟨_, rfl⟩
        rw [← hm] at hM c2 c3 hOz
        have hm0 : (0 : Int) ≤ (m : Int) := Int.natCast_nonneg _
        have hmb : m ≤ 1000000 := by omega
        clear e2 e3 hTz hm
        generalize hE : toB (c :: t) = E at *
        generalize toB t = Et at *
        generalize toB (own1 t) = Eo at *
        generalize hO : toB (c :: own1 t) = O at *
        have HO := Lib.hid hO
        clear hE hO
        by_cases hk8 : k = 8
        · subst hk8
          obtain rfl : R = none := by rw [HK.out]; rfl
          clear c3 hOz
          go_wp2_with (first
            | (go_at_call 43; (with_reducible refine (cu _).mono ?_); rintro e w4 ⟨rfl, hb4⟩
               have hS4 := (show SiO wr (w.heap.size + 1) (w.heap.size + 1) p' from ⟨_, _, hS⟩).next hb4
               have KR4 := KR.next hb4
               have hB4 := below_next hBr hb4
               have hz4 := hb4.size
               obtain ⟨y0, y1, y2, y3, y4⟩ := blk5 KR4
               obtain ⟨g0, g1, g2, g3, g4⟩ := fz5 KR4))
          have K5 := blk_set5 KR4 (.string ⟨#[]⟩) (.slice none 0 0) (.slice none 0 0) (.bool false) (.bool false)
          have B5 := below_set5 hB4 (Nat.le_refl w.heap.size) (.string ⟨#[]⟩) (.slice none 0 0) (.slice none 0 0) (.bool false) (.bool false)
          generalize ((((w4.setCell ⟨w.heap.size, 0, none⟩ (.string ⟨#[]⟩)).setCell ⟨w.heap.size, 1, none⟩ (.slice none 0 0)).setCell ⟨w.heap.size, 2, none⟩ (.slice none 0 0)).setCell ⟨w.heap.size, 3, none⟩ (.bool false)).setCell ⟨w.heap.size, 4, none⟩ (.bool false) = WF at K5 B5 ⊢
          obtain ⟨r0, r1, r2, r3, r4⟩ := blk5 K5
          exact bodyPost_ret (v := .tuple #[.agg #[.string ⟨#[]⟩, .slice none 0 0, .slice none 0 0, .bool false, .bool false], .bool false]) (by simp [results, Tryz.results22, go_sem, r0, r1, r2, r3, r4]) rfl ⟨rfl, B5⟩
        · have hk8b : ((k : Int) == 8) = false := by rw [beq_eq_false_iff_ne]; omega
          obtain ⟨j, hj⟩ : ∃ j, 8 - k = j + 1 := ⟨7 - k, by omega⟩
          have hj2 : 8 - (k + 1) = j := by omega
          have HK2 : Hid (R = match takeS p' (c :: own1 t) with | none => none | some q => ownF j (own2 t) q) := by show _ = _; rw [HK.out, hj]; rfl
          have ct := fun w' h hb => take_any w' (w.heap.size + 1) (w.heap.size + 1) p' c (own1 t) h hb (by omega) (by omega) (by omega)
          have hcnt := fun q h => take_cnt (p := p') (q := q) (own := c :: own1 t) h
          rw [HO.out] at ct
          rw [← hj2] at HK2
          have hk7 : k ≤ 7 := by omega
          clear HK hj hj2 hk8
          cases hts : takeS p' (c :: own1 t) with
          | none =>
            rw [hts] at ct HK2
            obtain rfl : R = none := HK2.out
            clear HK2 hts hcnt c3
            go_wp2_with (first
              | (go_at_call 43; (with_reducible refine (cu _).mono ?_); rintro e w4 ⟨rfl, hb4⟩
                 have hS4 := (show SiO wr (w.heap.size + 1) (w.heap.size + 1) p' from ⟨_, _, hS⟩).next hb4
                 have KR4 := KR.next hb4
                 have hB4 := below_next hBr hb4
                 have hz4 := hb4.size
                 obtain ⟨y0, y1, y2, y3, y4⟩ := blk5 KR4
                 obtain ⟨g0, g1, g2, g3, g4⟩ := fz5 KR4)
              | (go_at_call 47; (with_reducible refine (ct _ hS4 (by omega)).mono ?_); rintro e w5 ⟨hta, hb5⟩
                 obtain ⟨rfl, hS5⟩ := ta_none hta
                 have KR5 := blk_below KR4 hb5 (Nat.lt_succ_self _)
                 have hB5 : Below w.heap.size w w5 := hB4.trans (hb5.mono (Nat.le_succ _))
                 obtain ⟨x0, x1, x2, x3, x4⟩ := blk5 KR5
                 obtain ⟨h0, h1, h2, h3, h4⟩ := fz5 KR5))
            have K5 := blk_set5 KR5 (.string ⟨#[]⟩) (.slice none 0 0) (.slice none 0 0) (.bool false) (.bool false)
            have B5 := below_set5 hB5 (Nat.le_refl w.heap.size) (.string ⟨#[]⟩) (.slice none 0 0) (.slice none 0 0) (.bool false) (.bool false)
            generalize ((((w5.setCell ⟨w.heap.size, 0, none⟩ (.string ⟨#[]⟩)).setCell ⟨w.heap.size, 1, none⟩ (.slice none 0 0)).setCell ⟨w.heap.size, 2, none⟩ (.slice none 0 0)).setCell ⟨w.heap.size, 3, none⟩ (.bool false)).setCell ⟨w.heap.size, 4, none⟩ (.bool false) = WF at K5 B5 ⊢
            obtain ⟨r0, r1, r2, r3, r4⟩ := blk5 K5
            exact bodyPost_ret (v := .tuple #[.agg #[.string ⟨#[]⟩, .slice none 0 0, .slice none 0 0, .bool false, .bool false], .bool false]) (by simp [results, Tryz.results22, go_sem, r0, r1, r2, r3, r4]) rfl ⟨rfl, B5⟩
          | some q =>
            rw [hts] at ct HK2
            obtain ⟨hq1, hq2⟩ := hcnt q hts
            clear hts hcnt
            go_wp2_with (first
              | (go_at_call 43; (with_reducible refine (cu _).mono ?_); rintro e w4 ⟨rfl, hb4⟩
                 have hS4 := (show SiO wr (w.heap.size + 1) (w.heap.size + 1) p' from ⟨_, _, hS⟩).next hb4
                 have KR4 := KR.next hb4
                 have hB4 := below_next hBr hb4
                 have hz4 := hb4.size
                 obtain ⟨y0, y1, y2, y3, y4⟩ := blk5 KR4
                 obtain ⟨g0, g1, g2, g3, g4⟩ := fz5 KR4)
              | (go_at_call 47; (with_reducible refine (ct _ hS4 (by omega)).mono ?_); rintro e w5 ⟨hta, hb5⟩
                 obtain ⟨rfl, hS5⟩ := ta_some hta
                 have KR5 := blk_below KR4 hb5 (Nat.lt_succ_self _)
                 have hB5 : Below w.heap.size w w5 := hB4.trans (hb5.mono (Nat.le_succ _))
                 have hz5 := Nat.le_trans hzr (Nat.le_trans hz4 hb5.size)))
            go_roundw
            case rel => exact ⟨k + 1, own2 t, q, rfl, by go_num, by omega, by omega, hS5, by omega, by omega, HK2, KR5, hB5, hz5⟩
            case measure => simp [intOf]; omega
end Sel
end Go.Proofs.YthacboofbbfmlaaGreatDoor
