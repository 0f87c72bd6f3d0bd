/- The reference's opening. Conditions: texts up to 5000 bytes. -/
import Derived.Test.YteopighhhcikcaaGreatDoorRtF
import Derived.Test.YteopighhhcikcaaGreatDoorTokF
namespace Go.Proofs.YteopighhhcikcaaGreatDoor
open Go.ChangeShapes Go.WideShapes Go.ChangeAt Go.RowKit
namespace Rt
open Tok Rep
open RowG (Row)
theorem row_low {α : Type} {w : World} {base k : Nat} {e : TypeId} {enc : α → List Value} {v : Value} {l : List α} (h : Row w base e k enc v l) {p : Addr} (hp : p.block < base) (u : Value) : Row (w.setCell p u) base e k enc v l := by
  refine ⟨h.1, ?_⟩
  rcases h.2 with h2 | ⟨g, cap, cur, rfl, hb, hg, rest⟩
  · exact .inl h2
  · exact .inr ⟨g, cap, cur, rfl, hb, (Below.heap_setCell w p u g (by omega)).trans hg, rest⟩
theorem row_less {α : Type} {w : World} {base b k : Nat} {e : TypeId} {enc : α → List Value} {v : Value} {l : List α} (h : Row w base e k enc v l) (hb : b ≤ base) : Row w b e k enc v l := by
  refine ⟨h.1, ?_⟩
  rcases h.2 with h2 | ⟨g, cap, cur, rfl, hb2, rest⟩
  · exact .inl h2
  · exact .inr ⟨g, cap, cur, rfl, by omega, rest⟩
def OpR (w' : World) (base : Nat) (l : List UInt8) (o : Nat) (v : Value) (P : Nat) : Prop := (P = 0 ∧ v = tk0 ∧ openP (l.drop o) = none) ∨ (∃ t, o < P ∧ P ≤ l.length ∧ openP (l.drop o) = some (t, l.drop P) ∧ TkV w' base v t)
def opOf (nm : List UInt8) (x : Option (List At × List UInt8)) : Option (T × List UInt8) := match x with
  | none => none
  | some (ats, b) => some (⟨1, nm, [], ats⟩, b)
theorem open_head {l : List UInt8} {o : Nat} (ho : o < l.length) (h : ¬ l[o] = 60) : openP (l.drop o) = none := by
  rw [List.drop_eq_getElem_cons ho]
  unfold openP
  split
  · rename_i h2; injection h2 with h2 _; exact absurd h2 h
  · rfl
theorem open_sixty {l : List UInt8} {o : Nat} (ho : o < l.length) (h : l[o] = 60) : openP (l.drop o) = match nameP (l.drop (o + 1)) with
    | none => none
    | some (n, r) => opOf n (finP [] r) := by
  rw [List.drop_eq_getElem_cons ho, h, openP_fin]
  rfl
theorem pre_61 {D : List UInt8} (h : List.isPrefixOf [61, 34] D = true) : List.isPrefixOf [61] D = true := by
  obtain ⟨r, hr⟩ := List.isPrefixOf_iff_prefix.1 h
  rw [← hr]
  rfl
theorem size_set_ (w : World) (p : Addr) (u : Value) : (w.setCell p u).heap.size = w.heap.size := by simp [World.setCell]
set_option maxRecDepth 100000 in
set_option maxHeartbeats 16000000 in
theorem opening_any (l : List UInt8) (o : Nat) (hl : l.length ≤ 5000) (ho : o < l.length) (w : World) :
    Calls Tryz.prog 54 #[.string (toB l), .int .i64 o] w fun e w' => (∃ (v : Value) (P : Nat), e = .returned (.tuple #[v, .int .i64 P]) ∧ OpR w' w.heap.size l o v P) ∧ Below w.heap.size w w' := by
  have hsz : (toB l).size = l.length := toB_size l
  have hgs : ∀ h : o < (toB l).size, (toB l)[o]'h = l[o] := fun _ => rfl
  have hgall : ∀ (k : Nat) (h : k < (toB l).size) (h2 : k < l.length), (toB l)[k]'h = l[k]'h2 := fun k h h2 => rfl
  have HGS := Lib.hid hgall
  clear hgall
  have hos : o < (toB l).size := by rw [hsz]; exact ho
  replace hgs := hgs hos
  obtain ⟨o1, ho1⟩ : ∃ q, q = o + 1 := ⟨_, rfl⟩
  have i1 : (o : Int) + 1 = (o1 : Int) := by omega
  obtain ⟨N, hN⟩ : ∃ N : Nat, N = if 20 < nm (l.drop o1) then 0 else nm (l.drop o1) := ⟨_, rfl⟩
  have cn := fun w => nameAt_any l o1 hl (by omega) w
  rw [← hN] at cn
  have hB0 := below_al (Below.refl w.heap.size w) (.cells #[.int .i64 0, .string ⟨#[]⟩, .string ⟨#[]⟩, .slice none 0 0] 42)
  have k0 : (0 : Int) ≤ (o : Int) := Int.natCast_nonneg _
  have k1 : (o : Int) < (l.length : Int) := by omega
  obtain ⟨c, hc⟩ : ∃ c, c = l[o] := ⟨_, rfl⟩
  rw [← hc] at hgs
  have hx := u8_lt c
  have hx0 : (0 : Int) ≤ (c.toNat : Int) := Int.natCast_nonneg _
  by_cases h60 : c = 60
  case neg =>
    have hR := open_head ho (fun e => h60 (hc.trans e))
    have HR : ∀ w' b, OpR w' b l o tk0 0 := fun _ _ => .inl ⟨rfl, rfl, hR⟩
    have HRR := Lib.hid HR
    have n1 : ((c.toNat : Int) != 60) = true := by rw [bne_iff_ne]; intro e; exact h60 (UInt8.toNat_inj.1 (by show c.toNat = 60; omega))
    have n2 : ((c.toNat : Int) == 60) = false := by rw [beq_eq_false_iff_ne]; intro e; exact h60 (UInt8.toNat_inj.1 (by show c.toNat = 60; omega))
    clear HR hR h60 hc hN ho1
    generalize toB l = s at *
    go_enter Tryz.func54, Tryz.ntmps54
    go_wp2_with (go_at_call 58; (with_reducible refine (cn _).mono ?_); rintro e w1 ⟨rfl, rfl⟩)
    exact bodyPost_ret (v := .tuple #[.agg #[.int .i64 0, .string ⟨#[]⟩, .string ⟨#[]⟩, .slice none 0 0], .int .i64 0]) (by simp [results, Tryz.results54, go_sem]) rfl ⟨⟨_, 0, rfl, HRR.out _ _⟩, hB0⟩
  case pos =>
    have hop := open_sixty ho (hc.symm.trans h60)
    rw [← ho1] at hop
    have n1 : ((c.toNat : Int) != 60) = false := by rw [h60]; rfl
    have n2 : ((c.toNat : Int) == 60) = true := by rw [h60]; rfl
    by_cases hN0 : N = 0
    · have HR : ∀ w' b, OpR w' b l o tk0 0 := fun _ _ => .inl ⟨rfl, rfl, by rw [hop, nameP_zero (by rw [← hN]; exact hN0)]⟩
      have HRR := Lib.hid HR
      subst hN0
      rw [show ((0 : Nat) : Int) = 0 from rfl] at cn
      clear HR hop h60 hc hN ho1
      generalize toB l = s at *
      go_enter Tryz.func54, Tryz.ntmps54
      go_wp2_with (go_at_call 58; (with_reducible refine (cn _).mono ?_); rintro e w1 ⟨rfl, rfl⟩)
      exact bodyPost_ret (v := .tuple #[.agg #[.int .i64 0, .string ⟨#[]⟩, .string ⟨#[]⟩, .slice none 0 0], .int .i64 0]) (by simp [results, Tryz.results54, go_sem]) rfl ⟨⟨_, 0, rfl, HRR.out _ _⟩, hB0⟩
    · obtain ⟨hnp, hNl, hN20⟩ := nameP_some hN hN0
      rw [List.length_drop] at hNl
      obtain ⟨e1, he1⟩ : ∃ q, q = o1 + N := ⟨_, rfl⟩
      have i2 : (o1 : Int) + (N : Int) = (e1 : Int) := by omega
      rw [hnp] at hop
      simp only [List.drop_drop] at hop
      rw [← he1] at hop
      have hN0i : ((N : Int) == 0) = false := by rw [beq_eq_false_iff_ne]; omega
      have hN0p : ¬((N : Int) = 0) := by omega
      have b2 : (0 : Int) ≤ (o1 : Int) := Int.natCast_nonneg _
      have b3 : (o1 : Int) ≤ (e1 : Int) := by omega
      have b4 : o1 ≤ e1 := by omega
      have b5 : e1 ≤ l.length := by omega
      have b6 : (e1 : Int) ≤ (l.length : Int) := by omega
      have b8 : o < e1 := by omega
      have hext := ext_toB l o1 N
      rw [← he1] at hext
      have cl := fun w => lower_any ((l.drop o1).take N) (by rw [List.length_take]; omega) w
      generalize (l.drop o1).take N = nn at *
      obtain ⟨NM, hNM⟩ : ∃ NM, NM = lowL nn := ⟨_, rfl⟩
      rw [← hNM] at cl hop
      obtain ⟨lo, hlo⟩ : ∃ lo, lo = toB NM := ⟨_, rfl⟩
      rw [← hlo] at cl
      have HLO := Lib.hid hlo
      have HOP := Lib.hid hop
      have HB := fun a h w => blanks_any l a hl h w
      have HH := fun t a h1 h2 h w => has_any l t a hl h1 h2 h w
      have HNA := fun a h w => nameAt_any l a hl h w
      have HEX := fun a n => ext_toB l a n
      have HB := Lib.hid HB
      have HH := Lib.hid HH
      have HNA := Lib.hid HNA
      have HEX := Lib.hid HEX
      generalize toB nn = tn at *
      clear hop h60 hc hN hN0 ho1 he1 hnp hlo hNM
      generalize toB l = s at *
      go_enter Tryz.func54, Tryz.ntmps54
      go_wp2_with (first
        | (go_at_call 58; (with_reducible refine (cn _).mono ?_); rintro e w1 ⟨rfl, rfl⟩)
        | (go_at_call 59; (with_reducible refine (cl _).mono ?_); rintro e w2 ⟨rfl, hb2⟩
           have hB2 := below_next hB0 hb2
           have KR := (Blk.new w 42 #[.int .i64 0, .string ⟨#[]⟩, .string ⟨#[]⟩, .slice none 0 0]).next hb2
           have zR := KR.lt))
      have KT := Blk.new w2 42 #[.int .i64 1, .string lo, .string ⟨#[]⟩, .slice none 0 0]
      have KR1 := KR.alloc (.cells #[.int .i64 1, .string lo, .string ⟨#[]⟩, .slice none 0 0] 42)
      have hB3 := below_al hB2 (.cells #[.int .i64 1, .string lo, .string ⟨#[]⟩, .slice none 0 0] 42)
      have hg1 := KT.lt
      obtain ⟨g, hg⟩ : ∃ g, g = w2.heap.size := ⟨_, rfl⟩
      rw [← hg] at KT zR hg1 ⊢
      clear hg
      generalize w2.alloc (.cells #[.int .i64 1, .string lo, .string ⟨#[]⟩, .slice none 0 0] 42) = W1 at *
      have hY0 := Row.nil W1 W1.heap.size 41 2 atC
      clear KR hb2 hB2 cn cl hext i1 i2 n1 n2
      go_loopw [1] (fun av wr => ∃ (a : Nat) (v : Value) (ats : List At), av = .int .i64 a ∧ Blk wr g 42 #[.int .i64 1, .string lo, .string ⟨#[]⟩, v] ∧ Blk wr w.heap.size 42 #[.int .i64 0, .string ⟨#[]⟩, .string ⟨#[]⟩, .slice none 0 0] ∧ Row wr W1.heap.size 41 2 atC v ats ∧ Below w.heap.size w wr ∧ W1.heap.size ≤ wr.heap.size ∧ (o < a ∧ a ≤ l.length ∧ ats.length ≤ a) ∧ Hid (openP (l.drop o) = opOf NM (finP ats (l.drop a)))) (fun av _ => l.length - (intOf av).toNat)
      case atStart => exact ⟨e1, _, [], rfl, KT, KR1, hY0, hB3, Nat.le_refl _, ⟨b8, b5, Nat.zero_le _⟩, HOP.out⟩
      case round =>
        obtain ⟨a, v, ats, rfl, KT, KR, hY, hB, hW, ⟨ha1, ha2, ha3⟩, HF⟩ := hrel
        clear hY0 hB3 HOP
        obtain ⟨A5, c5, rfl⟩ := hY.form
        obtain ⟨m, hm⟩ : ∃ m, m = ats.length := ⟨_, rfl⟩
        rw [← hm] at hY KT ha3
        have HM := Lib.hid hm
        clear hm
        have zT := KT.lt
        obtain ⟨t0, t1, t2, t3⟩ := blk4 KT
        obtain ⟨r0, r1, r2, r3⟩ := blk4 KR
        have f0 := KR.frozen 0
        have f1 := KR.frozen 1
        have f2 := KR.frozen 2
        have f3 := KR.frozen 3
        have hbl := bl_le (l.drop a)
        rw [List.length_drop] at hbl
        obtain ⟨Bl, hBl⟩ : ∃ q, q = bl (l.drop a) := ⟨_, rfl⟩
        rw [← hBl] at hbl
        obtain ⟨e, he⟩ : ∃ q, q = a + Bl := ⟨_, rfl⟩
        have i3 : (a : Int) + (Bl : Int) = (e : Int) := by omega
        have cb := HB.out a (by omega)
        rw [← hBl] at cb
        have cg := HH.out [62] e (by decide) (by decide) (by omega)
        rw [show toB [62] = ⟨#[62]⟩ from rfl] at cg
        have he' : e = a + bl (l.drop a) := by rw [he, hBl]
        cases hG : List.isPrefixOf [62] (l.drop e) with
        | true =>
          rw [hG] at cg
          have hfin := fin_end (ats := ats) he' hG
          have h3 := has_len hG (by decide)
          simp only [List.length_cons, List.length_nil] at h3
          obtain ⟨P, hP⟩ : ∃ q, q = e + 1 := ⟨_, rfl⟩
          rw [← hP] at hfin
          have i4 : (e : Int) + 1 = (P : Int) := by omega
          have hPl : P ≤ l.length := by omega
          have hoP : o < P := by omega
          have HRES : Hid (openP (l.drop o) = some (⟨1, NM, [], ats⟩, l.drop P)) := by show _ = _; rw [HF.out, hfin]; rfl
          clear hfin hP h3 he he' hBl hG HF
          go_wp2_with (first
            | (go_at_call 90; (with_reducible refine (cb _).mono ?_); rintro e w1 ⟨rfl, rfl⟩)
            | (go_at_call 62; (with_reducible refine (cg _).mono ?_); rintro e w1 ⟨rfl, rfl⟩))
          refine bodyPost_ret (v := .tuple #[.agg #[.int .i64 1, .string lo, .string ⟨#[]⟩, .slice A5 m c5], .int .i64 P]) (by simp [results, Tryz.results54, go_sem, r0, r1, r2, r3]) rfl ⟨⟨_, P, rfl, .inr ⟨⟨1, NM, [], ats⟩, hoP, hPl, HRES.out, ?_⟩⟩, ?_⟩
          · refine ⟨A5, c5, by rw [HLO.out, HM.out]; rfl, ?_⟩
            have hlow : ∀ k, (⟨w.heap.size, k, none⟩ : Addr).block < W1.heap.size := fun _ => by show w.heap.size < _; omega
            refine row_less (base := W1.heap.size) ?_ (by omega)
            rw [← HM.out]
            exact row_low (row_low (row_low (row_low hY (hlow _) _) (hlow _) _) (hlow _) _) (hlow _) _
          · exact (((hB.setCell (Nat.le_refl _) _).setCell (Nat.le_refl _) _).setCell (Nat.le_refl _) _).setCell (Nat.le_refl _) _
        | false =>
          rw [hG] at cg
          obtain ⟨N2, hN2⟩ : ∃ N : Nat, N = if 20 < nm (l.drop e) then 0 else nm (l.drop e) := ⟨_, rfl⟩
          have cn := HNA.out e (by omega)
          rw [← hN2] at cn
          have hbad := fun h => fin_bad (ats := ats) he' hG h
          rw [← hBl] at hbad
          by_cases hb0 : Bl = 0
          · have HRR : Hid (∀ w' b, OpR w' b l o tk0 0) := fun _ _ => .inl ⟨rfl, rfl, by rw [HF.out, hbad (.inl hb0)]; rfl⟩
            have z1 : ((Bl : Int) == 0) = true := by rw [beq_iff_eq]; omega
            clear hbad hG hN2 he he' hBl HF hb0
            go_wp2_with (first
              | (go_at_call 90; (with_reducible refine (cb _).mono ?_); rintro e w1 ⟨rfl, rfl⟩)
              | (go_at_call 58; (with_reducible refine (cn _).mono ?_); rintro e w1 ⟨rfl, rfl⟩)
              | (go_at_call 62; (with_reducible refine (cg _).mono ?_); rintro e w1 ⟨rfl, rfl⟩))
            exact bodyPost_ret (v := .tuple #[.agg #[.int .i64 0, .string ⟨#[]⟩, .string ⟨#[]⟩, .slice none 0 0], .int .i64 0]) (by simp [results, Tryz.results54, go_sem, r0, r1, r2, r3]) rfl ⟨⟨_, 0, rfl, HRR.out _ _⟩, (((hB.setCell (Nat.le_refl _) _).setCell (Nat.le_refl _) _).setCell (Nat.le_refl _) _).setCell (Nat.le_refl _) _⟩
          · have z1 : ((Bl : Int) == 0) = false := by rw [beq_eq_false_iff_ne]; omega
            by_cases hn0 : N2 = 0
            · have HRR : Hid (∀ w' b, OpR w' b l o tk0 0) := fun _ _ => .inl ⟨rfl, rfl, by rw [HF.out, hbad (.inr (nameP_zero (by rw [← hN2]; exact hn0)))]; rfl⟩
              subst hn0
              rw [show ((0 : Nat) : Int) = 0 from rfl] at cn
              clear hbad hG hN2 he he' hBl HF hb0
              go_wp2_with (first
                | (go_at_call 90; (with_reducible refine (cb _).mono ?_); rintro e w1 ⟨rfl, rfl⟩)
                | (go_at_call 58; (with_reducible refine (cn _).mono ?_); rintro e w1 ⟨rfl, rfl⟩)
                | (go_at_call 62; (with_reducible refine (cg _).mono ?_); rintro e w1 ⟨rfl, rfl⟩))
              exact bodyPost_ret (v := .tuple #[.agg #[.int .i64 0, .string ⟨#[]⟩, .string ⟨#[]⟩, .slice none 0 0], .int .i64 0]) (by simp [results, Tryz.results54, go_sem, r0, r1, r2, r3]) rfl ⟨⟨_, 0, rfl, HRR.out _ _⟩, (((hB.setCell (Nat.le_refl _) _).setCell (Nat.le_refl _) _).setCell (Nat.le_refl _) _).setCell (Nat.le_refl _) _⟩
            · obtain ⟨hnp, hNl2, hN22⟩ := nameP_some hN2 hn0
              rw [List.length_drop] at hNl2
              obtain ⟨e2, he2⟩ : ∃ q, q = e + N2 := ⟨_, rfl⟩
              have i4 : (e : Int) + (N2 : Int) = (e2 : Int) := by omega
              have hd : (l.drop a).drop (bl (l.drop a)) = l.drop e := by rw [List.drop_drop, ← he']
              have hat := attr_some (D := l.drop a) (by rw [← hBl]; exact hb0) (by rw [hd]; exact hnp)
              rw [List.drop_drop, ← he2] at hat
              have hst := fun x r h => fin_step (ats := ats) (D := l.drop a) (a := x) (r := r) h
              have z2 : ((N2 : Int) == 0) = false := by rw [beq_eq_false_iff_ne]; omega
              have z3 : e2 ≤ l.length := by omega
              have z4 : (e2 : Int) ≤ (l.length : Int) := by omega
              have z5 : (e : Int) ≤ (e2 : Int) := by omega
              have z6 : e ≤ e2 := by omega
              have z7 : (0 : Int) ≤ (e : Int) := Int.natCast_nonneg _
              have z8 : a < e2 := by omega
              have hext := HEX.out e N2
              rw [← he2] at hext
              have cl := fun w => lower_any ((l.drop e).take N2) (by rw [List.length_take]; omega) w
              generalize (l.drop e).take N2 = n2 at *
              obtain ⟨nn2, hnn2⟩ : ∃ x, x = lowL n2 := ⟨_, rfl⟩
              rw [← hnn2] at cl hat
              have cq := HH.out [61] e2 (by decide) (by decide) (by omega)
              rw [show toB [61] = ⟨#[61]⟩ from rfl] at cq
              have cv := HH.out [61, 34] e2 (by decide) (by decide) (by omega)
              rw [show toB [61, 34] = ⟨#[61, 34]⟩ from rfl] at cv
              generalize toB n2 = tn2 at *
              clear hbad hG hN2 he he' hBl hb0 hn0 hnp hnn2 hd he2
              cases hQ : List.isPrefixOf [61] (l.drop e2) with
              | false =>
                rw [hQ] at cq
                have hv : List.isPrefixOf [61, 34] (l.drop e2) = false := by
                  cases h : List.isPrefixOf [61, 34] (l.drop e2) with
                  | false => rfl
                  | true => rw [pre_61 h] at hQ; cases hQ
                rw [val_plain hv] at hat
                have hfin := hst _ _ hat
                simp only at hfin
                cases hia : ats.any (fun b => b.1 == nn2) with
                | true =>
                  rw [addA_is (a := (nn2, [])) hia] at hfin
                  have HF2 : Hid (openP (l.drop o) = opOf NM (finP ats (l.drop e2))) := by show _ = _; rw [HF.out, hfin]
                  clear hfin hat hst HF hv hQ cv
                  go_wp2_with (first
                    | (go_at_call 90; (with_reducible refine (cb _).mono ?_); rintro e w1 ⟨rfl, rfl⟩)
                    | (go_at_call 58; (with_reducible refine (cn _).mono ?_); rintro e w1 ⟨rfl, rfl⟩)
                    | (go_at_call 62; (with_reducible refine (cg _).mono ?_); rintro e w1 ⟨rfl, rfl⟩)
                    | (go_at_call 62; (with_reducible refine (cq _).mono ?_); rintro e w1 ⟨rfl, rfl⟩)
                    | (go_at_call 59; (with_reducible refine (cl _).mono ?_); rintro e w3 ⟨rfl, hb3⟩
                       have hB3 := below_next hB hb3
                       have KT3 := KT.next hb3
                       have KR3 := KR.next hb3
                       obtain ⟨p0, p1, p2, p3⟩ := blk4 KT3
                       have hY3 := hY.below hb3
                       have hs3 := hb3.size
                       have hrd : Reads w3 w3.heap.size 2 A5 m (ats.flatMap atC) := by rw [HM.out]; exact hY3.reads.1
                       have ca := attr_any A5 m c5 ats nn2 (by omega) w3 w3.heap.size hrd
                       rw [hia] at ca)
                    | (go_at_call 78; (with_reducible refine (ca).mono ?_); rintro e wx ⟨⟨va, rfl⟩, rfl⟩))
                  go_roundw
                  case rel => exact ⟨e2, _, ats, by go_num, KT3, KR3, hY3, hB3, by omega, ⟨by omega, by omega, by have := HM.out; omega⟩, HF2⟩
                  case measure => simp [intOf]; omega
                | false =>
                  rw [addA_not (a := (nn2, [])) hia] at hfin
                  have HF2 : Hid (openP (l.drop o) = opOf NM (finP (ats ++ [(nn2, [])]) (l.drop e2))) := by show _ = _; rw [HF.out, hfin]
                  clear hfin hat hst HF hv hQ cv
                  go_wp2_with (first
                    | (go_at_call 90; (with_reducible refine (cb _).mono ?_); rintro e w1 ⟨rfl, rfl⟩)
                    | (go_at_call 58; (with_reducible refine (cn _).mono ?_); rintro e w1 ⟨rfl, rfl⟩)
                    | (go_at_call 62; (with_reducible refine (cg _).mono ?_); rintro e w1 ⟨rfl, rfl⟩)
                    | (go_at_call 62; (with_reducible refine (cq _).mono ?_); rintro e w1 ⟨rfl, rfl⟩)
                    | (go_at_call 59; (with_reducible refine (cl _).mono ?_); rintro e w3 ⟨rfl, hb3⟩
                       have hB3 := below_next hB hb3
                       have KT3 := KT.next hb3
                       have KR3 := KR.next hb3
                       obtain ⟨p0, p1, p2, p3⟩ := blk4 KT3
                       have hY3 := hY.below hb3
                       have hs3 := hb3.size
                       have hrd : Reads w3 w3.heap.size 2 A5 m (ats.flatMap atC) := by rw [HM.out]; exact hY3.reads.1
                       have ca := attr_any A5 m c5 ats nn2 (by omega) w3 w3.heap.size hrd
                       rw [hia] at ca
                       have KT4 := KT3.alloc (.cells #[.string (toB nn2), .string ⟨#[]⟩] 41)
                       have KR4 := KR3.alloc (.cells #[.string (toB nn2), .string ⟨#[]⟩] 41)
                       have hY4 := hY3.alloc (.cells #[.string (toB nn2), .string ⟨#[]⟩] 41)
                       have hB4 := below_al hB3 (.cells #[.string (toB nn2), .string ⟨#[]⟩] 41)
                       have hz4 : (w3.alloc (.cells #[.string (toB nn2), .string ⟨#[]⟩] 41)).heap.size = w3.heap.size + 1 := size_al _ _
                       have hnc := RowG.new_cells w3 41 (atC (nn2, [])))
                    | (go_at_call 78; (with_reducible refine (ca).mono ?_); rintro e wx ⟨⟨va, rfl⟩, rfl⟩)
                    | (at_builtin; go_loud (refine RowG.wpList_more _ (by rfl) _ _ 36 (by rfl) 41 atC 2 32 _ info_at Tryz.underlying36 rfl (by decide) atC_len atC_one W1.heap.size _ ats (nn2, []) (by rfl) w3.heap.size _ (by rfl) hY4 hnc (by have := HM.out; simp only [maxLen]; omega) (by have := HM.out; omega) (by omega) ?_)
                       intro v5 w5 hrow5 hg5 _
                       obtain ⟨A6, c6, hv5⟩ := hrow5.form
                       obtain ⟨M6, hM6⟩ : ∃ M6, M6 = (ats ++ [(nn2, ([] : List UInt8))]).length := ⟨_, rfl⟩
                       rw [← hM6] at hv5
                       clear hM6
                       subst hv5
                       have KT5 := KT4.grown hg5 (fun q => by have := (World.ownsRow.lt hY4 g q.symm).1; omega)
                       have KR5 := KR4.grown hg5 (fun q => by have := (World.ownsRow.lt hY4 w.heap.size q.symm).1; omega)
                       have hB5 := hB4.grown hg5 hB4.size (fun k hk => by have := (World.ownsRow.lt hY4 k hk).1; omega)
                       have hs5 := hg5.size
                       obtain ⟨x0, x1, x2, x3⟩ := blk4 KT5
                       have y3 := KT5.frozen 3))
                  go_roundw
                  case rel => exact ⟨e2, .slice A6 M6 c6, ats ++ [(nn2, [])], by go_num, KT5.set_ 3 _, KR5.far (p := ⟨g, 3, none⟩) (by show w.heap.size ≠ g; omega) _, row_low hrow5 (by show g < _; omega) _, hB5.setCell (by show _ ≤ g; omega) _, by rw [size_set_]; omega, ⟨by omega, by omega, by have := HM.out; rw [List.length_append, List.length_singleton]; omega⟩, HF2⟩
                  case measure => simp [intOf]; omega
              | true =>
                rw [hQ] at cq
                cases hV : List.isPrefixOf [61, 34] (l.drop e2) with
                | false =>
                  rw [hV] at cv
                  rw [val_plain hV] at hat
                  have hfin := hst _ _ hat
                  simp only at hfin
                  rw [fin_eq hQ] at hfin
                  have HRR : Hid (∀ w' b, OpR w' b l o tk0 0) := fun _ _ => .inl ⟨rfl, rfl, by rw [HF.out, hfin]; rfl⟩
                  clear hfin hat hst HF hV hQ
                  go_wp2_with (first
                    | (go_at_call 90; (with_reducible refine (cb _).mono ?_); rintro e w1 ⟨rfl, rfl⟩)
                    | (go_at_call 58; (with_reducible refine (cn _).mono ?_); rintro e w1 ⟨rfl, rfl⟩)
                    | (go_at_call 62; (with_reducible refine (cg _).mono ?_); rintro e w1 ⟨rfl, rfl⟩)
                    | (go_at_call 62; (with_reducible refine (cq _).mono ?_); rintro e w1 ⟨rfl, rfl⟩)
                    | (go_at_call 62; (with_reducible refine (cv _).mono ?_); rintro e w1 ⟨rfl, rfl⟩)
                    | (go_at_call 59; (with_reducible refine (cl _).mono ?_); rintro e wb ⟨rfl, hb3⟩
                       have hBb := below_next hB hb3
                       have KTb := KT.next hb3
                       have KRb := KR.next hb3
                       obtain ⟨p0, p1, p2, p3⟩ := blk4 KRb
                       have g0 := KRb.frozen 0
                       have g1 := KRb.frozen 1
                       have g2 := KRb.frozen 2
                       have g3 := KRb.frozen 3
                       have hYb := hY.below hb3
                       have hsb := hb3.size))
                  exact bodyPost_ret (v := .tuple #[.agg #[.int .i64 0, .string ⟨#[]⟩, .string ⟨#[]⟩, .slice none 0 0], .int .i64 0]) (by simp [results, Tryz.results54, go_sem, p0, p1, p2, p3]) rfl ⟨⟨_, 0, rfl, HRR.out _ _⟩, (((hBb.setCell (Nat.le_refl _) _).setCell (Nat.le_refl _) _).setCell (Nat.le_refl _) _).setCell (Nat.le_refl _) _⟩
                | true =>
                  rw [hV] at cv
                  have hvo := val_open hV
                  have hlv := has_len hV (by decide)
                  simp only [List.length_cons, List.length_nil] at hlv
                  obtain ⟨u2, hu2⟩ : ∃ q, q = e2 + 2 := ⟨_, rfl⟩
                  rw [← hu2] at hvo
                  have i5 : (e2 : Int) + 2 = (u2 : Int) := by omega
                  have hul : u2 ≤ l.length := by omega
                  have heu : e2 < u2 := by omega
                  have HQE := Lib.hid (fin_eq (ats := addA ats (nn2, [])) hQ)
                  have HVO := Lib.hid hvo
                  have HAT2 := Lib.hid hat
                  have HST := Lib.hid hst
                  clear hvo hat hst hV hQ hu2 hlv
                  go_wp2_with (first
                    | (go_at_call 90; (with_reducible refine (cb _).mono ?_); rintro e w1 ⟨rfl, rfl⟩)
                    | (go_at_call 58; (with_reducible refine (cn _).mono ?_); rintro e w1 ⟨rfl, rfl⟩)
                    | (go_at_call 62; (with_reducible refine (cg _).mono ?_); rintro e w1 ⟨rfl, rfl⟩)
                    | (go_at_call 62; (with_reducible refine (cq _).mono ?_); rintro e w1 ⟨rfl, rfl⟩)
                    | (go_at_call 62; (with_reducible refine (cv _).mono ?_); rintro e w1 ⟨rfl, rfl⟩)
                    | (go_at_call 59; (with_reducible refine (cl _).mono ?_); rintro e wb ⟨rfl, hb3⟩
                       have hBb := below_next hB hb3
                       have KTb := KT.next hb3
                       have KRb := KR.next hb3
                       obtain ⟨p0, p1, p2, p3⟩ := blk4 KRb
                       have g0 := KRb.frozen 0
                       have g1 := KRb.frozen 1
                       have g2 := KRb.frozen 2
                       have g3 := KRb.frozen 3
                       have hYb := hY.below hb3
                       have hsb := hb3.size))
                  go_loop [11] (fun i => ∃ j : Nat, u2 ≤ j ∧ j ≤ l.length ∧ i = .int .i64 j ∧ Hid (∀ (x : Nat) (d : UInt8), u2 ≤ x → x < j → l[x]? = some d → d ≠ 34)) (fun i => l.length - (intOf i).toNat)
                  case atStart => exact ⟨u2, Nat.le_refl _, hul, rfl, fun x d h1 h2 => absurd h2 (by omega)⟩
                  case round =>
                    obtain ⟨j, hj1, hj2, rfl, HJ⟩ := hrel
                    have j0 : (0 : Int) ≤ (j : Int) := Int.natCast_nonneg _
                    by_cases hjl : j < l.length
                    · have hjs : j < s.size := by rw [hsz]; exact hjl
                      have hjg := HGS.out j hjs hjl
                      obtain ⟨d, hd⟩ : ∃ d : UInt8, l[j] = d := ⟨_, rfl⟩
                      rw [hd] at hjg
                      have hdx := u8_lt d
                      have hdx0 : (0 : Int) ≤ (d.toNat : Int) := Int.natCast_nonneg _
                      have j1 : (j : Int) < (l.length : Int) := by omega
                      have hjd : l[j]? = some d := by rw [List.getElem?_eq_getElem hjl, hd]
                      by_cases h34 : d = 34
                      · have n3 : ((d.toNat : Int) != 34) = false := by rw [h34]; rfl
                        have n4 : ((d.toNat : Int) == 34) = true := by rw [h34]; rfl
                        obtain ⟨hmem, htw⟩ := quote_at (q := l.drop u2) (k := j - u2) (fun x d' hx hd' => by
                          rw [List.getElem?_drop] at hd'
                          exact HJ.out (u2 + x) d' (by omega) (by omega) hd') (by rw [List.getElem?_drop, show u2 + (j - u2) = j by omega, hjd, h34])
                        have hat := HAT2.out
                        rw [HVO.out, if_pos hmem, htw] at hat
                        have hln : ((l.drop u2).take (j - u2)).length = j - u2 := by rw [List.length_take, List.length_drop]; omega
                        rw [hln, List.drop_drop, show u2 + (j - u2 + 1) = j + 1 by omega] at hat
                        obtain ⟨jn, hjn⟩ : ∃ q, q = j + 1 := ⟨_, rfl⟩
                        rw [← hjn] at hat
                        have i6 : (j : Int) + 1 = (jn : Int) := by omega
                        have hjnl : jn ≤ l.length := by omega
                        have hjn2 : a < jn := by omega
                        have hjn3 : e2 < jn := by omega
                        have hext3 := HEX.out u2 (j - u2)
                        rw [show u2 + (j - u2) = j by omega] at hext3
                        have ct := fun w => tell_any ((l.drop u2).take (j - u2)) (by rw [hln]; omega) w
                        generalize (l.drop u2).take (j - u2) = vt at *
                        obtain ⟨val, hval⟩ : ∃ x, x = tellL vt := ⟨_, rfl⟩
                        rw [← hval] at ct hat
                        generalize toB vt = tvt at *
                        have hfin := HST.out _ _ hat
                        simp only at hfin
                        have u0 : (0 : Int) ≤ (u2 : Int) := Int.natCast_nonneg _
                        have u1 : (u2 : Int) ≤ (j : Int) := by omega
                        have u3 : (j : Int) ≤ (l.length : Int) := by omega
                        have u4 : ((j : Int) == (l.length : Int)) = false := by rw [beq_eq_false_iff_ne]; omega
                        clear hmem htw hat hjn hval hjd hd h34 HJ hln
                        cases hia : ats.any (fun b => b.1 == nn2) with
                        | true =>
                          rw [addA_is (a := (nn2, val)) hia] at hfin
                          have HF2 : Hid (openP (l.drop o) = opOf NM (finP ats (l.drop jn))) := by show _ = _; rw [HF.out, hfin]
                          clear hfin HF
                          go_wp2_with (first
                            | (go_at_call 23; (with_reducible refine (ct _).mono ?_); rintro e w3 ⟨rfl, hb4⟩
                               have hB3 := below_next hBb hb4
                               have KT3 := KTb.next hb4
                               have KR3 := KRb.next hb4
                               obtain ⟨q0, q1, q2, q3⟩ := blk4 KT3
                               have hY3 := hYb.below hb4
                               have hs3 := hb4.size
                               have hrd : Reads w3 w3.heap.size 2 A5 m (ats.flatMap atC) := by rw [HM.out]; exact hY3.reads.1
                               have ca := attr_any A5 m c5 ats nn2 (by omega) w3 w3.heap.size hrd
                               rw [hia] at ca)
                            | (go_at_call 78; (with_reducible refine (ca).mono ?_); rintro e wx ⟨⟨va, rfl⟩, rfl⟩))
                          go_roundw
                          case rel => exact ⟨jn, _, ats, by go_num, KT3, KR3, hY3, hB3, by omega, ⟨by omega, by omega, by have := HM.out; omega⟩, HF2⟩
                          case measure => simp [intOf]; omega
                        | false =>
                          rw [addA_not (a := (nn2, val)) hia] at hfin
                          have HF2 : Hid (openP (l.drop o) = opOf NM (finP (ats ++ [(nn2, val)]) (l.drop jn))) := by show _ = _; rw [HF.out, hfin]
                          clear hfin HF
                          go_wp2_with (first
                            | (go_at_call 23; (with_reducible refine (ct _).mono ?_); rintro e w3 ⟨rfl, hb4⟩
                               have hB3 := below_next hBb hb4
                               have KT3 := KTb.next hb4
                               have KR3 := KRb.next hb4
                               obtain ⟨q0, q1, q2, q3⟩ := blk4 KT3
                               have hY3 := hYb.below hb4
                               have hs3 := hb4.size
                               have hrd : Reads w3 w3.heap.size 2 A5 m (ats.flatMap atC) := by rw [HM.out]; exact hY3.reads.1
                               have ca := attr_any A5 m c5 ats nn2 (by omega) w3 w3.heap.size hrd
                               rw [hia] at ca
                               have KT4 := KT3.alloc (.cells #[.string (toB nn2), .string (toB val)] 41)
                               have KR4 := KR3.alloc (.cells #[.string (toB nn2), .string (toB val)] 41)
                               have hY4 := hY3.alloc (.cells #[.string (toB nn2), .string (toB val)] 41)
                               have hB4 := below_al hB3 (.cells #[.string (toB nn2), .string (toB val)] 41)
                               have hz4 : (w3.alloc (.cells #[.string (toB nn2), .string (toB val)] 41)).heap.size = w3.heap.size + 1 := size_al _ _
                               have hnc := RowG.new_cells w3 41 (atC (nn2, val)))
                            | (go_at_call 78; (with_reducible refine (ca).mono ?_); rintro e wx ⟨⟨va, rfl⟩, rfl⟩)
                            | (at_builtin; (refine RowG.wpList_more _ (by rfl) _ _ 36 (by rfl) 41 atC 2 32 _ info_at Tryz.underlying36 rfl (by decide) atC_len atC_one W1.heap.size _ ats (nn2, val) (by rfl) w3.heap.size _ (by rfl) hY4 hnc (by have := HM.out; simp only [maxLen]; omega) (by have := HM.out; omega) (by omega) ?_)
                               intro v5 w5 hrow5 hg5 _
                               obtain ⟨A6, c6, hv5⟩ := hrow5.form
                               obtain ⟨M6, hM6⟩ : ∃ M6, M6 = (ats ++ [(nn2, (val : List UInt8))]).length := ⟨_, rfl⟩
                               rw [← hM6] at hv5
                               clear hM6
                               subst hv5
                               have KT5 := KT4.grown hg5 (fun q => by have := (World.ownsRow.lt hY4 g q.symm).1; omega)
                               have KR5 := KR4.grown hg5 (fun q => by have := (World.ownsRow.lt hY4 w.heap.size q.symm).1; omega)
                               have hB5 := hB4.grown hg5 hB4.size (fun k hk => by have := (World.ownsRow.lt hY4 k hk).1; omega)
                               have hs5 := hg5.size
                               obtain ⟨x0, x1, x2, x3⟩ := blk4 KT5
                               have y3 := KT5.frozen 3))
                          go_roundw
                          case rel => exact ⟨jn, .slice A6 M6 c6, ats ++ [(nn2, val)], by go_num, KT5.set_ 3 _, KR5.far (p := ⟨g, 3, none⟩) (by show w.heap.size ≠ g; omega) _, row_low hrow5 (by show g < _; omega) _, hB5.setCell (by show _ ≤ g; omega) _, by rw [size_set_]; omega, ⟨by omega, by omega, by have := HM.out; rw [List.length_append, List.length_singleton]; omega⟩, HF2⟩
                          case measure => simp [intOf]; omega
                      · have n3 : ((d.toNat : Int) != 34) = true := by rw [bne_iff_ne]; intro q; exact h34 (UInt8.toNat_inj.1 (by show d.toNat = 34; omega))
                        have n4 : ((d.toNat : Int) == 34) = false := by rw [beq_eq_false_iff_ne]; intro q; exact h34 (UInt8.toNat_inj.1 (by show d.toNat = 34; omega))
                        have HJ2 : Hid (∀ (x : Nat) (d : UInt8), u2 ≤ x → x < j + 1 → l[x]? = some d → d ≠ 34) := by
                          intro x d' h1 h2 h3
                          by_cases q : x = j
                          · subst q; rw [hjd] at h3; obtain rfl := Option.some.inj h3; exact h34
                          · exact HJ.out x d' h1 (by omega) h3
                        clear HJ hjd hd h34
                        go_wp2
                        go_round
                        case rel => exact ⟨j + 1, by omega, by omega, by go_num, HJ2⟩
                        case measure => simp [intOf]; omega
                    · obtain rfl : j = l.length := by omega
                      have hno : ¬ (34 : UInt8) ∈ l.drop u2 := quote_no (fun x d hx hd => by
                        rw [List.getElem?_drop] at hd
                        exact HJ.out (u2 + x) d (by omega) (by have := (List.getElem?_eq_some_iff.1 hd).1; omega) hd)
                      have hat := HAT2.out
                      rw [HVO.out, if_neg hno] at hat
                      have hfin := HST.out _ _ hat
                      simp only at hfin
                      rw [HQE.out] at hfin
                      have HRR : Hid (∀ w' b, OpR w' b l o tk0 0) := fun _ _ => .inl ⟨rfl, rfl, by rw [HF.out, hfin]; rfl⟩
                      clear hfin hat HJ hno HF
                      go_wp2
                      exact bodyPost_ret (v := .tuple #[.agg #[.int .i64 0, .string ⟨#[]⟩, .string ⟨#[]⟩, .slice none 0 0], .int .i64 0]) (by simp [results, Tryz.results54, go_sem, p0, p1, p2, p3]) rfl ⟨⟨_, 0, rfl, HRR.out _ _⟩, (((hBb.setCell (Nat.le_refl _) _).setCell (Nat.le_refl _) _).setCell (Nat.le_refl _) _).setCell (Nat.le_refl _) _⟩
end Rt
end Go.Proofs.YteopighhhcikcaaGreatDoor
