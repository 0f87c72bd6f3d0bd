/- What the landed package line's (*filler).end answers. Conditions: a filler lies in memory, whose pieces are not below 0. -/
import Derived.Test.YtgglffmfkhbcgaaLineB
import Derived.Test.YtgglffmfkhbcgaaStillD
import Derived.Deep.Cut
import Derived.Deep.CutRange
import Derived.Deep.DeepCutAuto
namespace Go.Proofs.Ytgglffmfkhbcgaa
open Go.ChangeShapes Go.WideShapes Go.ChangeAt Go.RowKit
def FilS (w : World) (E base g : Nat) (room align : Int) (s : Fs) : Prop :=
  ∃ vo vp, Blk w g 60 (filC room align vo s.wide vp s.lines s.high s.cut) ∧ OpnO w E base vo s.op ∧ PlsO w base vp s.pls
/-- What lies below n, but block L, lies as it lay; and so does all that is no cells. -/
structure KB (L n : Nat) (w w' : World) : Prop where
  but : KeepsBut L n w w'
  oth : KeepsOthers w w'
section
variable {L n : Nat} {a b c w w' : World}
theorem KB.size (h : KB L n a w) : a.heap.size ≤ w.heap.size := h.but.size
theorem KB.refl (L n : Nat) (w : World) : KB L n w w := ⟨KeepsBut.refl _ _ _, KeepsOthers.refl _⟩
theorem KB.trans (h : KB L n a b) (k : KB L n b c) : KB L n a c := ⟨h.but.trans k.but, h.oth.trans k.oth⟩
theorem oth_below (hb : Below w.heap.size w w') : KeepsOthers w w' := ⟨hb.size, fun k _ hk _ => (hb.block k (Array.getElem?_eq_some_iff.1 hk).1).trans hk⟩
theorem KB.of_below (L : Nat) (hb : Below w.heap.size w w') (hn : n ≤ w.heap.size) : KB L n w w' := ⟨.of_below L (hb.mono hn), oth_below hb⟩
theorem KB.drew (h : KB L n a w) : KB L n a w.drew := ⟨h.but.drew, h.oth.trans ⟨Nat.le_refl _, fun _ _ hk _ => hk⟩⟩
theorem KB.alloc (h : KB L n a w) (hn : n ≤ w.heap.size) (o : Obj) : KB L n a (w.alloc o) := ⟨h.but.alloc hn o, h.oth.trans (KeepsOthers.alloc w o)⟩
theorem KB.grown {row : Option Nat} (h : KB L n a w) (hg : w.grownBy w' row) (hn : n ≤ w.heap.size) (hr : ∀ k, row = some k → n ≤ k ∧ ∃ t cs, Blk w k t cs) : KB L n a w' :=
  ⟨h.but.grown hg hn (fun k e => (hr k e).1), h.oth.trans (KeepsOthers.of_grownBy hg fun j _ ej hj => by obtain ⟨_, t, cs, hb⟩ := hr j ej; unfold Blk at hb; rw [hb] at hj; cases hj; rfl)⟩
end
theorem kb_set {L n : Nat} {a w : World} (h : KB L n a w) {p : Addr} (hp : p.block = L) (v : Value) : KB L n a (w.setCell p v) :=
  ⟨h.but.trans ⟨rfl, rfl, rfl, by simp, fun k _ hk => Below.heap_setCell w p v k (by rw [hp]; exact hk)⟩, h.oth.trans (KeepsOthers.setCell _ _ _)⟩
theorem kb_below {L n : Nat} {a w w' : World} (h : KB L n a w) (hn : n ≤ w.heap.size) (hb : Below w.heap.size w w') : KB L n a w' := h.trans (.of_below L hb hn)
theorem opn_set {w : World} {E base g : Nat} {v : Value} {l : List Pc} {cs : Array Value} (h : OpnO w E base v l) (K : Blk w g 60 cs) (hE : E ≤ g) {p : Addr} (hp : p.block = g) (u : Value) : OpnO (w.setCell p u) E base v l := by
  rcases h with h | ⟨ad, e, h0, hr⟩
  · exact .inl (ownsRow_setCell_other h (by rw [hp]; exact own_blk_ne h K (by decide)) u)
  · exact .inr ⟨ad, e, h0, hr.setCell (by rw [hp]; exact hE) u⟩
theorem pls_set {w : World} {base g : Nat} {v : Value} {l : List Pl} {cs : Array Value} (h : PlsO w base v l) (K : Blk w g 60 cs) {p : Addr} (hp : p.block = g) (u : Value) : PlsO (w.setCell p u) base v l :=
  ownsRow_setCell_other h (by rw [hp]; exact own_blk_ne h K (by decide)) u
theorem opn_alloc {w : World} {E base : Nat} {v : Value} {l : List Pc} (hE : E ≤ w.heap.size) (h : OpnO w E base v l) (o : Obj) : OpnO (w.alloc o) E base v l := opn_below hE h ((Below.refl _ w).alloc (Nat.le_refl _) o)
theorem opn_grown {w w' : World} {E base b0 : Nat} {v : Value} {l : List Pc} (h : OpnO w E base v l) {row : Option Nat} (hg : w.grownBy w' row) (hE : E ≤ w.heap.size) (hr : ∀ k, row = some k → b0 ≤ k ∧ ∃ cs, Blk w k 30 cs) (hb : E ≤ b0) : OpnO w' E base v l := by
  rcases h with h | ⟨ad, e, h0, hrd⟩
  · exact .inl (own_grownT h hg hr (by decide))
  · refine .inr ⟨ad, e, h0, hrd.keep fun p hp => ?_⟩
    exact World.cell?_of_block (hg.block p.block (Nat.lt_of_lt_of_le hp hE) (fun e => by have := (hr _ e.symm).1; omega))
theorem may_of {op : List Pc} (h : mayP op = true) {k : Nat} {p : Pc} (hp : op[k]? = some p) : 0 ≤ p.w ∧ p.w ≤ 1099511627776 ∧ 0 ≤ p.h ∧ p.h ≤ 1099511627776 ∧ 0 ≤ p.g ∧ p.g ≤ 1099511627776 := by
  have := List.all_eq_true.1 h p (List.mem_of_getElem? hp)
  simp only [Pc.may, isz, Bool.and_eq_true, decide_eq_true_eq] at this
  obtain ⟨⟨a, b⟩, ⟨c, d⟩, e, f⟩ := this
  exact ⟨a, b, c, d, e, f⟩
theorem hi_bd {op : List Pc} (h : mayP op = true) : 0 ≤ hiP op ∧ hiP op ≤ 1099511627776 := by
  have key : ∀ (l : List Pc) (m : Int), mayP l = true → 0 ≤ m → m ≤ 1099511627776 → 0 ≤ l.foldl (fun m p => max m p.h) m ∧ l.foldl (fun m p => max m p.h) m ≤ 1099511627776 := by
    intro l
    induction l with
    | nil => intro m _ a b; exact ⟨a, b⟩
    | cons p l ih =>
      intro m hm a b
      have h1 : p.may = true ∧ mayP l = true := by
        unfold mayP at hm ⊢
        simpa using hm
      have h2 := may_of (op := [p]) (k := 0) (p := p) (by unfold mayP; simp [h1.1]) rfl
      exact ih _ h1.2 (show 0 ≤ max m p.h by omega) (show max m p.h ≤ 1099511627776 by omega)
  exact key op 0 h (by decide) (by decide)
theorem move_bd {room wide align : Int} (h1 : 0 ≤ room) (h2 : room ≤ 1099511627776) (h3 : 0 ≤ wide) : 0 ≤ moveF room wide align ∧ moveF room wide align ≤ 1099511627776 := by
  unfold moveF
  split
  · omega
  · split <;> omega
theorem blk8 {w : World} {g : Nat} {t : TypeId} {a b c d e f x y : Value} (h : Blk w g t #[a, b, c, d, e, f, x, y]) :
    w.cell? ⟨g, 0, none⟩ = some a ∧ w.cell? ⟨g, 1, none⟩ = some b ∧ w.cell? ⟨g, 2, none⟩ = some c ∧ w.cell? ⟨g, 3, none⟩ = some d ∧ w.cell? ⟨g, 4, none⟩ = some e ∧ w.cell? ⟨g, 5, none⟩ = some f ∧ w.cell? ⟨g, 6, none⟩ = some x ∧ w.cell? ⟨g, 7, none⟩ = some y :=
  ⟨h.cell 0, h.cell 1, h.cell 2, h.cell 3, h.cell 4, h.cell 5, h.cell 6, h.cell 7⟩
theorem blk6 {w : World} {g : Nat} {t : TypeId} {a b c d e f : Value} (h : Blk w g t #[a, b, c, d, e, f]) :
    w.cell? ⟨g, 0, none⟩ = some a ∧ w.cell? ⟨g, 1, none⟩ = some b ∧ w.cell? ⟨g, 2, none⟩ = some c ∧ w.cell? ⟨g, 3, none⟩ = some d ∧ w.cell? ⟨g, 4, none⟩ = some e ∧ w.cell? ⟨g, 5, none⟩ = some f :=
  ⟨h.cell 0, h.cell 1, h.cell 2, h.cell 3, h.cell 4, h.cell 5⟩
theorem endAt_snoc (lines high hi : Int) (s : Es) (l : List Pc) {k : Nat} {p : Pc} (hp : l[k]? = some p) : endAt lines high hi s l (k + 1) = endStep lines high hi (k == 0) (endAt lines high hi s l k) p := by rw [endAt, hp]
theorem endAt_first {lines high hi : Int} {s : Es} {l : List Pc} {k : Nat} {x0 : Int} {ps : List Pl} {c0 : Bool} {p : Pc} (h : endAt lines high hi s l (k + 1) = endStep lines high hi (k == 0) ⟨x0, ps, c0⟩ p) (hk : k = 0) :
    endAt lines high hi s l (k + 1) = ⟨add2 x0 p.w, ps ++ [⟨ps.length, lines, x0, add2 high (hi - p.h), p.w, p.h⟩], (c0 || !addOk high (hi - p.h)) || !addOk x0 p.w⟩ := by
  rw [h, hk]
  simp only [endStep, BEq.rfl, if_true]
theorem endAt_later {lines high hi : Int} {s : Es} {l : List Pc} {k : Nat} {x0 : Int} {ps : List Pl} {c0 : Bool} {p : Pc} (h : endAt lines high hi s l (k + 1) = endStep lines high hi (k == 0) ⟨x0, ps, c0⟩ p) (hk : k ≠ 0) :
    endAt lines high hi s l (k + 1) = ⟨add2 (add2 x0 p.g) p.w, ps ++ [⟨ps.length, lines, add2 x0 p.g, add2 high (hi - p.h), p.w, p.h⟩], ((c0 || !addOk x0 p.g) || !addOk high (hi - p.h)) || !addOk (add2 x0 p.g) p.w⟩ := by
  have e : (k == 0) = false := by simpa using hk
  rw [h, e]
  simp only [endStep, Bool.false_eq_true, if_false]
theorem filC_cut (room align : Int) (vo : Value) (wide : Int) (vp : Value) (lines high : Int) (c c' : Bool) : (filC room align vo wide vp lines high c).setIfInBounds 7 (.bool c') = filC room align vo wide vp lines high c' := rfl
theorem filC_pls (room align : Int) (vo : Value) (wide : Int) (vp vp' : Value) (lines high : Int) (c : Bool) : (filC room align vo wide vp lines high c).setIfInBounds 4 vp' = filC room align vo wide vp' lines high c := rfl
theorem filC_high (room align : Int) (vo : Value) (wide : Int) (vp : Value) (lines high high' : Int) (c : Bool) : (filC room align vo wide vp lines high c).setIfInBounds 6 (.int .i64 high') = filC room align vo wide vp lines high' c := rfl
theorem filC_lines (room align : Int) (vo : Value) (wide : Int) (vp : Value) (lines lines' high : Int) (c : Bool) : (filC room align vo wide vp lines high c).setIfInBounds 5 (.int .i64 lines') = filC room align vo wide vp lines' high c := rfl
theorem filC_open (room align : Int) (vo vo' : Value) (wide : Int) (vp : Value) (lines high : Int) (c : Bool) : (filC room align vo wide vp lines high c).setIfInBounds 2 vo' = filC room align vo' wide vp lines high c := rfl
theorem filC_wide (room align : Int) (vo : Value) (wide wide' : Int) (vp : Value) (lines high : Int) (c : Bool) : (filC room align vo wide vp lines high c).setIfInBounds 3 (.int .i64 wide') = filC room align vo wide' vp lines high c := rfl
theorem endF_some {room align : Int} {op : List Pc} {wide : Int} {pls : List Pl} {lines high : Int} {cut : Bool} (hz : op ≠ []) :
    endF room align ⟨op, wide, pls, lines, high, cut⟩ = ⟨op, wide, (endAt lines high (hiP op) ⟨moveF room wide align, pls, cut⟩ op op.length).pls, lines + 1, add2 high (hiP op), (endAt lines high (hiP op) ⟨moveF room wide align, pls, cut⟩ op op.length).cut || !addOk high (hiP op)⟩ := by
  simp only [endF, if_neg hz]
theorem endF_none {room align : Int} {wide : Int} {pls : List Pl} {lines high : Int} {cut : Bool} : endF room align ⟨[], wide, pls, lines, high, cut⟩ = ⟨[], wide, pls, lines, high, cut⟩ := by
  simp only [endF, if_true]
set_option maxHeartbeats 16000000 in
set_option maxRecDepth 100000 in
theorem end_any (E base g : Nat) (room align : Int) (s : Fs) (w : World) (h : FilS w E base g room align s) (hEg : E ≤ g) (hgb : g < base) (hbw : base ≤ w.heap.size)
    (r1 : 0 ≤ room) (r2 : room ≤ 1099511627776) (r3 : 0 ≤ s.wide) (r4 : s.wide ≤ 1099511627776) (hmay : mayP s.op = true) (ho1 : s.op.length ≤ 100000) (hp1 : s.pls.length ≤ 100000) (l1 : 0 ≤ s.lines) (l2 : s.lines ≤ 100000) :
    Calls Try.prog 31 #[.pointer (some ⟨g, 0, none⟩)] w fun e w' => e = .returned (.tuple #[]) ∧ FilS w' E base g room align (endF room align s) ∧ KB g base w w' := by
  obtain ⟨op, wide, pls, lines, high, cut⟩ := s
  obtain ⟨vo, vp, K, hO, hP⟩ := h
  simp only at r3 r4 hmay ho1 hp1 l1 l2 K hO hP
  have hEw : E ≤ w.heap.size := by omega
  obtain ⟨A, c, rfl⟩ := opn_form hO
  have hrd := opn_reads hEw hO
  by_cases hz : op = []
  · subst hz
    have c2 : w.cell? ⟨g, 2, none⟩ = some (.slice A 0 c) := K.cell 2
    rw [endF_none]
    go_enter Try.func31, Try.ntmps31
    go_wp2
    refine bodyPost_ret (results_none rfl _ _ _) rfl ?_
    exact ⟨rfl, ⟨_, vp, K, hO, hP⟩, KB.refl _ _ _⟩
  · have hn0 : 0 < op.length := List.length_pos_iff.2 hz
    rw [endF_some hz]
    clear hz
    have ch := fun w' (hb : Below w.heap.size w w') => highest_any A op.length c w'.heap.size op w' (Nat.le_refl _) ((hrd.below hb).more hb.size) (by omega)
    have hh := hi_bd hmay
    have hmv := move_bd (align := align) r1 r2 r3
    have cm := fun w' (K' : Blk w' g 60 (filC room align (.slice A op.length c) wide vp lines high cut)) => moved_any g room align wide lines high (.slice A op.length c) vp cut w' K' r1 r2 r3 r4
    obtain ⟨n, hn⟩ : ∃ n, n = op.length := ⟨_, rfl⟩
    have HN := Lib.hid hn
    rw [← hn] at K hO hrd ch cm hn0 ho1 ⊢
    clear hn
    have cK : w.cell? ⟨g, 2, none⟩ = some (.slice A n c) := K.cell 2
    have HMay := Lib.hid hmay
    clear hmay
    have hb0 := Below.refl w.heap.size w
    generalize hiP op = hi at *
    generalize moveF room wide align = mv at *
    have n0 : (n : Int) ≠ 0 := by omega
    go_enter Try.func31, Try.ntmps31
    go_upto_region 3 with (first
      | (go_at_call 52; (with_reducible refine (ch _ (by with_reducible assumption)).mono ?_); rintro e w1 ⟨rfl, hb1⟩
         have K1 := K.below hb1 (by omega))
      | (go_at_call 53; (with_reducible refine (cm _ (by with_reducible assumption)).mono ?_); rintro e w2 ⟨rfl, q, rfl⟩))
    have hb2 := below_dr hb1 q
    have K2 := K1.drewN q
    have hO2 : OpnO (w1.drewN q) E base (.slice A n c) op := opn_below hEw (by rw [HN.out]; rw [← HN.out]; exact hO) hb2
    have hP2 : PlsO (w1.drewN q) base vp pls := own_below hP hb2
    have hk2 : KB g base w (w1.drewN q) := .of_below g hb2 hbw
    generalize w1.drewN q = W at *
    clear K K1 hb1 hO hP ch cm cK hrd
    have c2 : W.cell? ⟨g, 2, none⟩ = some (.slice A n c) := K2.cell 2
    go_wp2
    clear c2
    go_loopw [25, 3] (fun i xv wr => ∃ (k : Nat) (vp : Value) (S : Es), k ≤ n ∧ i = .int .i64 k ∧ Hid (S = endAt lines high hi ⟨mv, pls, cut⟩ op k) ∧ xv = .int .i64 S.x ∧ S.pls.length ≤ 100000 + k ∧ Blk wr g 60 (filC room align (.slice A n c) wide vp lines high S.cut) ∧ OpnO wr E base (.slice A n c) op ∧ PlsO wr base vp S.pls ∧ KB g base w wr) (fun i _ _ => n - (intOf i).toNat)
    case atStart => exact ⟨0, vp, ⟨mv, pls, cut⟩, Nat.zero_le _, rfl, Lib.hid rfl, rfl, by simpa using hp1, K2, hO2, hP2, hk2⟩
    case round =>
      clear K2 hO2 hP2 hk2 hb2
      obtain ⟨k, vp, S, hk, rfl, HS, rfl, hsl, K, hO, hP, hkb⟩ := hrel
      have hle := Nat.le_trans hbw hkb.size
      have hwr : E ≤ wr.heap.size := by omega
      by_cases hlt : k < n
      · obtain ⟨p, hp⟩ : ∃ p, op[k]? = some p := ⟨op[k]'(by rw [← HN.out]; exact hlt), List.getElem?_eq_getElem _⟩
        have hO' : OpnO wr E base (.slice A op.length c) op := by rw [← HN.out]; exact hO
        obtain ⟨ad, rfl, hab, e0, e1, e2, e3, e4, e5⟩ := pc_of (opn_reads hwr hO') hp
        obtain ⟨m1, m2, m3, m4, m5, m6⟩ := may_of HMay.out hp
        have HE := Lib.hid (endAt_snoc lines high hi ⟨mv, pls, cut⟩ op hp)
        obtain ⟨pb, pw, ph, pg, pt, pk⟩ := p
        simp only at e0 e1 e2 e3 e4 e5 m1 m2 m3 m4 m5 m6 HE
        have ar1 := Lib.hid (show endAt lines high hi ⟨mv, pls, cut⟩ op (k + 1) = endStep lines high hi (k == 0) S ⟨pb, pw, ph, pg, pt, pk⟩ by rw [HE.out, HS.out])
        clear HE hp hab
        obtain ⟨x0, ps, c0⟩ := S
        simp only at hsl K hP
        have Kx := Blk.new wr 32 #[.int .i64 pb, .int .i64 pw, .int .i64 ph, .int .i64 pg, .string pt, .bool pk]
        have K1 := K.alloc (.cells #[.int .i64 pb, .int .i64 pw, .int .i64 ph, .int .i64 pg, .string pt, .bool pk] 32)
        have hO1 := opn_alloc hwr hO (.cells #[.int .i64 pb, .int .i64 pw, .int .i64 ph, .int .i64 pg, .string pt, .bool pk] 32)
        have hP1 : PlsO (wr.alloc (.cells #[.int .i64 pb, .int .i64 pw, .int .i64 ph, .int .i64 pg, .string pt, .bool pk] 32)) base vp ps := World.ownsRow.alloc hP _
        have hk1 := hkb.alloc hle (.cells #[.int .i64 pb, .int .i64 pw, .int .i64 ph, .int .i64 pg, .string pt, .bool pk] 32)
        have ngx : wr.heap.size ≠ g := Ne.symm (Nat.ne_of_lt K.lt)
        have hs1 : base ≤ (wr.alloc (.cells #[.int .i64 pb, .int .i64 pw, .int .i64 ph, .int .i64 pg, .string pt, .bool pk] 32)).heap.size := by rw [size_al]; omega
        have hpx : base ≤ wr.heap.size := hle
        have ik0 : (0 : Int) ≤ (k : Int) := Int.natCast_nonneg _
        have iwr : IntKind.i64.wrap (hi - ph) = hi - ph := by rw [IntKind.wrap_i64]; omega
        have ad1 := fun w => add_any x0 pg w
        have ad2 := fun w => add_any high (hi - ph) w
        have nu := fun w' n x c => numberL_any g n x c w'
        by_cases hk0 : k = 0
        · have HE2 := Lib.hid (endAt_first ar1.out hk0)
          simp only at HE2
          have dk : ¬ ((0 : Int) < (k : Int)) := by omega
          clear ar1 hO hP hkb K hk0
          go_upto_region 8 with (fail)
          generalize wr.alloc (.cells #[.int .i64 pb, .int .i64 pw, .int .i64 ph, .int .i64 pg, .string pt, .bool pk] 32) = W2 at *
          have K2 := K1
          have Kx2 := Kx
          have hO2 := hO1
          have hP2 := hP1
          have hk2 := hk1
          clear K1 Kx hO1 hP1 hk1 ad1 e0 e1 e2 e3 e4 e5
          generalize x0 = x1 at *
          generalize c0 = c1 at *
          have hSy : ∀ w' c', Blk w' g 60 (filC room align (.slice (some ad) n c) wide vp lines high c') → Blk w' wr.heap.size 32 #[.int .i64 pb, .int .i64 pw, .int .i64 ph, .int .i64 pg, .string pt, .bool pk] → (w'.cell? ⟨g, 6, none⟩ = some (.int .i64 high) ∧ w'.cell? ⟨wr.heap.size, 2, none⟩ = some (.int .i64 ph)) := fun w' c' k1 k2 => ⟨k1.cell 6, k2.cell 2⟩
          generalize hq1 : addOk high (hi - ph) = o2 at *
          generalize hq2 : add2 high (hi - ph) = y1 at *
          clear hq1 hq2
          have nu2 := numberL_any g y1 o2 c1 W2.drew (K2.drew.cell 7) (K2.drew.frozen 7)
          have K3 := K2.set_ 7 (.bool (c1 || !o2))
          rw [filC_cut] at K3
          have Kx3 := Kx2.far (p := ⟨g, 7, none⟩) ngx (.bool (c1 || !o2))
          have hO3 := opn_set hO2 K2 hEg (p := ⟨g, 7, none⟩) rfl (.bool (c1 || !o2))
          have hP3 := pls_set hP2 K2 (p := ⟨g, 7, none⟩) rfl (.bool (c1 || !o2))
          have hk3 := kb_set hk2 (p := ⟨g, 7, none⟩) rfl (.bool (c1 || !o2))
          have hs3 : base ≤ (W2.setCell ⟨g, 7, none⟩ (.bool (c1 || !o2))).heap.size := Nat.le_trans hbw hk3.size
          go_region_held3 (fun W' => W'.cell? ⟨g, 6, none⟩ = some (.int .i64 high) ∧ W'.cell? ⟨wr.heap.size, 2, none⟩ = some (.int .i64 ph))
            (first | (with_reducible assumption) | exact hSy _ _ K2.drew Kx2.drew | exact hSy _ _ K3.drew Kx3.drew)
            (first
              | (go_at_call 44; (with_reducible refine (ad2 _).mono ?_); rintro e w1 ⟨rfl, rfl⟩)
              | (go_at_call 51; (with_reducible refine nu2.mono ?_); rintro e w1 ⟨rfl, rfl⟩))
          clear nu2 hSy K2 Kx2 hO2 hP2 hk2 hs1
          have nv : vp.ownBlock ≠ some g := own_blk_ne hP3 K3 (by decide)
          have nvx : vp.ownBlock ≠ some wr.heap.size := own_blk_ne hP3 Kx3 (by decide)
          have hol : ps.length < 400000000 := by omega
          obtain ⟨Av, mv9, cv, hvp⟩ := own_slice hP3
          have hvl : mv9 = ps.length := by obtain ⟨A', c', e⟩ := own_form' hP3; rw [hvp] at e; injection e
          subst hvl
          replace K3 := K3.drew
          replace Kx3 := Kx3.drew
          replace hO3 : OpnO (W2.setCell ⟨g, 7, none⟩ (.bool (c1 || !o2))).drew E base (.slice (some ad) n c) op := hO3
          replace hP3 : PlsO (W2.setCell ⟨g, 7, none⟩ (.bool (c1 || !o2))).drew base (.slice Av ps.length cv) ps := hvp ▸ hP3
          replace hk3 := hk3.drew
          replace hs3 : base ≤ (W2.setCell ⟨g, 7, none⟩ (.bool (c1 || !o2))).drew.heap.size := hs3
          generalize (W2.setCell ⟨g, 7, none⟩ (.bool (c1 || !o2))).drew = W3 at *
          generalize (c1 || !o2) = c3 at *
          go_wp2
          have hSk : ∀ w', Blk w' g 60 (filC room align (.slice (some ad) n c) wide vp lines high c3) → Blk w' wr.heap.size 32 #[.int .i64 pb, .int .i64 pw, .int .i64 ph, .int .i64 pg, .string pt, .bool pk] → (w'.cell? ⟨g, 4, none⟩ = some vp ∧ w'.cell? ⟨g, 5, none⟩ = some (.int .i64 lines) ∧ w'.cell? ⟨wr.heap.size, 1, none⟩ = some (.int .i64 pw) ∧ w'.cell? ⟨wr.heap.size, 2, none⟩ = some (.int .i64 ph)) := fun w' k1 k2 => ⟨k1.cell 4, k1.cell 5, k2.cell 1, k2.cell 2⟩
          subst hvp
          refine region_last (m := 26) (S := fun w' => w'.cell? ⟨g, 4, none⟩ = some (.slice Av ps.length cv) ∧ w'.cell? ⟨g, 5, none⟩ = some (.int .i64 lines) ∧ w'.cell? ⟨wr.heap.size, 1, none⟩ = some (.int .i64 pw) ∧ w'.cell? ⟨wr.heap.size, 2, none⟩ = some (.int .i64 ph)) (by kernel_rfl) rfl (by kernel_rfl) ?_ (fun hHeld => ?_)
          · exact hSk _ K3.drew Kx3.drew
          refine held_take (i := 0) (v := ?_) rfl (by kernel_rfl) (fun _ _ _ h => h) rfl (by assumption) ?_ ?_
          rotate_left
          · intro w9 hSw; (try dsimp only at hSw); (try go_split_ands); go_simp; (try with_reducible rfl)
          (try simp only [Act.put]); (try simp only [List.setIfInBounds_toArray]); (try simp only [List.set_cons_succ]); (try simp only [List.set_cons_zero])
          refine held_take (i := 1) (v := ?_) rfl (by kernel_rfl) (fun _ _ _ h => h) rfl (by assumption) ?_ ?_
          rotate_left
          · intro w9 hSw; (try dsimp only at hSw); (try go_split_ands); go_simp; (try with_reducible rfl)
          (try simp only [Act.put]); (try simp only [List.setIfInBounds_toArray]); (try simp only [List.set_cons_succ]); (try simp only [List.set_cons_zero])
          refine held_take (i := 2) (v := ?_) rfl (by kernel_rfl) (fun _ _ _ h => h) rfl (by assumption) ?_ ?_
          rotate_left
          · intro w9 hSw; (try dsimp only at hSw); (try go_split_ands); go_simp; (try with_reducible rfl)
          (try simp only [Act.put]); (try simp only [List.setIfInBounds_toArray]); (try simp only [List.set_cons_succ]); (try simp only [List.set_cons_zero])
          refine held_take (i := 3) (v := ?_) rfl (by kernel_rfl) (fun _ _ _ h => h) rfl (by assumption) ?_ ?_
          rotate_left
          · intro w9 hSw; (try dsimp only at hSw); (try go_split_ands); go_simp; (try with_reducible rfl)
          (try simp only [Act.put]); (try simp only [List.setIfInBounds_toArray]); (try simp only [List.set_cons_succ]); (try simp only [List.set_cons_zero])
          refine held_take (i := 4) (v := ?_) rfl (by kernel_rfl) (fun _ _ _ h => h) rfl (by assumption) ?_ ?_
          rotate_left
          · intro w9 hSw; (try dsimp only at hSw); (try go_split_ands); go_simp; (try with_reducible rfl)
          (try simp only [Act.put]); (try simp only [List.setIfInBounds_toArray]); (try simp only [List.set_cons_succ]); (try simp only [List.set_cons_zero])
          refine held_take (i := 5) (v := ?_) rfl (by kernel_rfl) (fun _ _ _ h => h) rfl (by assumption) ?_ ?_
          rotate_left
          · intro w9 hSw; (try dsimp only at hSw); (try go_split_ands); go_simp; (try with_reducible rfl)
          (try simp only [Act.put]); (try simp only [List.setIfInBounds_toArray]); (try simp only [List.set_cons_succ]); (try simp only [List.set_cons_zero])
          refine held_take (i := 6) (v := ?_) rfl (by kernel_rfl) (fun _ _ _ h => h) rfl (by assumption) ?_ ?_
          rotate_left
          · intro w9 hSw; (try dsimp only at hSw); (try go_split_ands); go_simp; (try with_reducible rfl)
          (try simp only [Act.put]); (try simp only [List.setIfInBounds_toArray]); (try simp only [List.set_cons_succ]); (try simp only [List.set_cons_zero])
          refine held_take (i := 7) (v := ?_) rfl (by kernel_rfl) (fun _ _ _ h => h) rfl (by assumption) ?_ ?_
          rotate_left
          · intro w9 hSw; (try dsimp only at hSw); (try go_split_ands); go_simp; (try with_reducible rfl)
          (try simp only [Act.put]); (try simp only [List.setIfInBounds_toArray]); (try simp only [List.set_cons_succ]); (try simp only [List.set_cons_zero])
          refine held_take (i := 8) (v := ?_) rfl (by kernel_rfl) (fun _ _ _ h => h) rfl (by assumption) ?_ ?_
          rotate_left
          · intro w9 hSw; (try dsimp only at hSw); (try go_split_ands); go_simp; (try with_reducible rfl)
          (try simp only [Act.put]); (try simp only [List.setIfInBounds_toArray]); (try simp only [List.set_cons_succ]); (try simp only [List.set_cons_zero])
          refine held_take (i := 9) (v := ?_) rfl (by kernel_rfl) (fun _ _ _ h => h) rfl (by assumption) ?_ ?_
          rotate_left
          · intro w9 hSw; (try dsimp only at hSw); (try go_split_ands); go_simp; (try with_reducible rfl)
          (try simp only [Act.put]); (try simp only [List.setIfInBounds_toArray]); (try simp only [List.set_cons_succ]); (try simp only [List.set_cons_zero])
          refine held_take (i := 10) (v := ?_) rfl (by kernel_rfl) (fun _ _ _ h => h) rfl (by assumption) ?_ ?_
          rotate_left
          · intro w9 hSw; (try dsimp only at hSw); (try go_split_ands); go_simp; (try with_reducible rfl)
          (try simp only [Act.put]); (try simp only [List.setIfInBounds_toArray]); (try simp only [List.set_cons_succ]); (try simp only [List.set_cons_zero])
          refine held_take (i := 11) (v := ?_) rfl (by kernel_rfl) (fun _ _ _ h => h) rfl (by assumption) ?_ ?_
          rotate_left
          · intro w9 hSw; (try dsimp only at hSw); (try go_split_ands); go_simp; (try with_reducible rfl)
          (try simp only [Act.put]); (try simp only [List.setIfInBounds_toArray]); (try simp only [List.set_cons_succ]); (try simp only [List.set_cons_zero])
          refine held_take (i := 12) (v := ?_) rfl (by kernel_rfl) (fun _ _ _ h => h) rfl (by assumption) ?_ ?_
          rotate_left
          · intro w9 hSw; (try dsimp only at hSw); (try go_split_ands); go_simp; (try with_reducible rfl)
          (try simp only [Act.put]); (try simp only [List.setIfInBounds_toArray]); (try simp only [List.set_cons_succ]); (try simp only [List.set_cons_zero])
          refine held_take (i := 13) (v := ?_) rfl (by kernel_rfl) (fun _ _ _ h => h) rfl (by assumption) ?_ ?_
          rotate_left
          · intro w9 hSw; (try dsimp only at hSw); (try go_split_ands); go_simp; (try with_reducible rfl)
          (try simp only [Act.put]); (try simp only [List.setIfInBounds_toArray]); (try simp only [List.set_cons_succ]); (try simp only [List.set_cons_zero])
          refine held_take (i := 14) (v := ?_) rfl (by kernel_rfl) (fun _ _ _ h => h) rfl (by assumption) ?_ ?_
          rotate_left
          · intro w9 hSw; (try dsimp only at hSw); (try go_split_ands); go_simp; (try with_reducible rfl)
          (try simp only [Act.put]); (try simp only [List.setIfInBounds_toArray]); (try simp only [List.set_cons_succ]); (try simp only [List.set_cons_zero])
          refine held_take (i := 15) (v := ?_) rfl (by kernel_rfl) (fun _ _ _ h => h) rfl (by assumption) ?_ ?_
          rotate_left
          · intro w9 hSw; (try dsimp only at hSw); (try go_split_ands); go_simp; (try with_reducible rfl)
          (try simp only [Act.put]); (try simp only [List.setIfInBounds_toArray]); (try simp only [List.set_cons_succ]); (try simp only [List.set_cons_zero])
          refine held_take (i := 16) (v := ?_) rfl (by kernel_rfl) (fun _ _ _ h => h) rfl (by assumption) ?_ ?_
          rotate_left
          · intro w9 hSw; (try dsimp only at hSw); (try go_split_ands); go_simp; (try with_reducible rfl)
          (try simp only [Act.put]); (try simp only [List.setIfInBounds_toArray]); (try simp only [List.set_cons_succ]); (try simp only [List.set_cons_zero])
          refine held_take (i := 17) (v := ?_) rfl (by kernel_rfl) (fun _ _ _ h => h) rfl (by assumption) ?_ ?_
          rotate_left
          · intro w9 hSw; (try dsimp only at hSw); (try go_split_ands); go_simp; (try with_reducible rfl)
          (try simp only [Act.put]); (try simp only [List.setIfInBounds_toArray]); (try simp only [List.set_cons_succ]); (try simp only [List.set_cons_zero])
          refine held_take (i := 18) (v := ?_) rfl (by kernel_rfl) (fun _ _ _ h => h) rfl (by assumption) ?_ ?_
          rotate_left
          · intro w9 hSw; (try dsimp only at hSw); (try go_split_ands); go_simp; (try with_reducible rfl)
          (try simp only [Act.put]); (try simp only [List.setIfInBounds_toArray]); (try simp only [List.set_cons_succ]); (try simp only [List.set_cons_zero])
          refine held_take (i := 19) (v := ?_) rfl (by kernel_rfl) (fun _ _ _ h => h) rfl (by assumption) ?_ ?_
          rotate_left
          · intro w9 hSw; (try dsimp only at hSw); (try go_split_ands); go_simp; (try with_reducible rfl)
          (try simp only [Act.put]); (try simp only [List.setIfInBounds_toArray]); (try simp only [List.set_cons_succ]); (try simp only [List.set_cons_zero])
          refine held_take (i := 20) (v := ?_) rfl (by kernel_rfl) (fun _ _ _ h => h) rfl (by assumption) ?_ ?_
          rotate_left
          · intro w9 hSw; (try dsimp only at hSw); (try go_split_ands); go_simp; (try with_reducible rfl)
          (try simp only [Act.put]); (try simp only [List.setIfInBounds_toArray]); (try simp only [List.set_cons_succ]); (try simp only [List.set_cons_zero])
          refine held_take (i := 21) (v := ?_) rfl (by kernel_rfl) (fun _ _ _ h => h) rfl (by assumption) ?_ ?_
          rotate_left
          · intro w9 hSw; (try dsimp only at hSw); (try go_split_ands); go_simp; (try with_reducible rfl)
          (try simp only [Act.put]); (try simp only [List.setIfInBounds_toArray]); (try simp only [List.set_cons_succ]); (try simp only [List.set_cons_zero])
          refine wpAnyH_ready (rs := [22]) (by kernel_rfl) (by simp) ?_
          refine AllReadyH.cons rfl (fun K hK => ?_) AllReadyH.nil
          go_simp
          refine hK.out _ _ (hSk _ (K3.drew.alloc _) (Kx3.drew.alloc _)) (fun hHeld => ?_)
          clear hK K
          (try simp only [Act.put]); (try simp only [List.setIfInBounds_toArray]); (try simp only [List.set_cons_succ]); (try simp only [List.set_cons_zero])
          refine wpAnyH_ready (rs := [23]) (by kernel_rfl) (by simp) ?_
          refine AllReadyH.cons rfl (fun K hK => ?_) AllReadyH.nil
          refine step_PlsO W3.drew (by rfl) (.tmp 57) (.tmp 75) (by rfl) base _ ps ⟨(ps.length : Int), lines, x1, y1, pw, ph⟩ (by rfl) (World.ownsRow.drew hP3) _ _ rfl (by rfl) hol hs3 ?_; intro v' w' hP4 hg4
          have K4 := (K3.drew.alloc _).grown hg4 (fun e => nv e.symm)
          have Kx4 := (Kx3.drew.alloc _).grown hg4 (fun e => nvx e.symm)
          refine hK.out _ _ (hSk _ K4 Kx4) (fun hHeld => ?_)
          clear hK K
          (try simp only [Act.put]); (try simp only [List.setIfInBounds_toArray]); (try simp only [List.set_cons_succ]); (try simp only [List.set_cons_zero])
          refine held_take (i := 24) (v := ?_) rfl (by kernel_rfl) (fun _ _ _ h => h) rfl (by assumption) ?_ ?_
          rotate_left
          · intro w9 hSw; (try dsimp only at hSw); (try go_split_ands); go_simp; (try with_reducible rfl)
          (try simp only [Act.put]); (try simp only [List.setIfInBounds_toArray]); (try simp only [List.set_cons_succ]); (try simp only [List.set_cons_zero])
          refine held_take (i := 25) (v := ?_) rfl (by kernel_rfl) (fun _ _ _ h => h) rfl (by assumption) ?_ ?_
          rotate_left
          · intro w9 hSw; (try dsimp only at hSw); (try go_split_ands); go_simp; (try with_reducible rfl)
          (try simp only [Act.put]); (try simp only [List.setIfInBounds_toArray]); (try simp only [List.set_cons_succ]); (try simp only [List.set_cons_zero])
          refine wpAnyH_done (by kernel_rfl) ?_ _
          simp only [beforeLast]
          have hPa : PlsO (W3.drew.alloc (.cells #[.int .i64 (ps.length : Int), .int .i64 lines, .int .i64 x1, .int .i64 y1, .int .i64 pw, .int .i64 ph] 30)) base (.slice Av ps.length cv) ps := World.ownsRow.alloc (World.ownsRow.drew hP3) _
          have hrow : ∀ k, (Value.slice Av ps.length cv).ownBlock = some k → base ≤ k ∧ ∃ cs, Blk (W3.drew.alloc (.cells #[.int .i64 (ps.length : Int), .int .i64 lines, .int .i64 x1, .int .i64 y1, .int .i64 pw, .int .i64 ph] 30)) k 30 cs := fun k hk => ⟨(World.ownsRow.lt hPa k hk).1, own_blk_of hPa hk⟩
          have hO4 : OpnO w' E base (.slice (some ad) n c) op := opn_grown (opn_alloc (by show E ≤ W3.heap.size; omega) (show OpnO W3.drew E base (.slice (some ad) n c) op from hO3) _) hg4 (by rw [size_al]; show E ≤ W3.heap.size + 1; omega) hrow (by omega)
          have hk4 : KB g base w w' := (hk3.drew.alloc hs3 _).grown hg4 (by rw [size_al]; show base ≤ W3.heap.size + 1; omega) (fun k hk => ⟨(hrow k hk).1, _, (hrow k hk).2⟩)
          obtain ⟨A1, m1v, c1v, hv'⟩ := own_slice hP4
          subst hv'
          have f4 := K4.frozen 4
          have c4 := K4.cell 4
          have K5 := K4.set_ 4 (.slice A1 m1v c1v)
          rw [filC_pls] at K5
          have Kx5 := Kx4.far (p := ⟨g, 4, none⟩) ngx (.slice A1 m1v c1v)
          have hO5 := opn_set hO4 K4 hEg (p := ⟨g, 4, none⟩) rfl (.slice A1 m1v c1v)
          have hP5 := pls_set hP4 K4 (p := ⟨g, 4, none⟩) rfl (.slice A1 m1v c1v)
          have hk5 := kb_set hk4 (p := ⟨g, 4, none⟩) rfl (.slice A1 m1v c1v)
          clear hSk hHeld hPa hrow hO4 hP4 hk4 hg4 hP3 hO3 hk3 hs3 K3 Kx3 K4 Kx4 nv nvx
          have ad3 := fun w => add_any x1 pw w
          generalize hq1 : addOk x1 pw = o3 at *
          generalize hq2 : add2 x1 pw = x2 at *
          clear hq1 hq2
          have nu5 := numberL_any g x2 o3 c3 _ (K5.cell 7) (K5.frozen 7)
          have K6 := K5.set_ 7 (.bool (c3 || !o3))
          rw [filC_cut] at K6
          have hO6 := opn_set hO5 K5 hEg (p := ⟨g, 7, none⟩) rfl (.bool (c3 || !o3))
          have hP6 := pls_set hP5 K5 (p := ⟨g, 7, none⟩) rfl (.bool (c3 || !o3))
          have hk6 := kb_set hk5 (p := ⟨g, 7, none⟩) rfl (.bool (c3 || !o3))
          have x51 : ((w'.setCell ⟨g, 4, none⟩ (.slice A1 m1v c1v)).cell? ⟨wr.heap.size, 1, none⟩) = some (.int .i64 pw) := Kx5.cell 1
          clear K5 Kx5 hO5 hP5 hk5
          go_wp2_with (first
            | (go_at_call 44; (with_reducible refine (ad3 _).mono ?_); rintro e w1 ⟨rfl, rfl⟩)
            | (go_at_call 51; (with_reducible refine nu5.mono ?_); rintro e w1 ⟨rfl, rfl⟩))
          go_roundw
          case rel => exact ⟨k + 1, .slice A1 m1v c1v, ⟨x2, ps ++ [⟨ps.length, lines, x1, y1, pw, ph⟩], c3 || !o3⟩, by omega, by go_num, Lib.hid HE2.out.symm, rfl, by simp; omega, K6, hO6, hP6, hk6⟩
          case measure => simp [intOf]; omega
        · have HE2 := Lib.hid (endAt_later ar1.out hk0)
          simp only at HE2
          have dk : (0 : Int) < (k : Int) := by omega
          have c7 := K1.cell 7
          have f7 := K1.frozen 7
          have nu1 := numberL_any g (add2 x0 pg) (addOk x0 pg) c0 _ c7 f7
          have K2 := K1.set_ 7 (.bool (c0 || !addOk x0 pg))
          rw [filC_cut] at K2
          have Kx2 := Kx.far (p := ⟨g, 7, none⟩) ngx (.bool (c0 || !addOk x0 pg))
          have hO2 := opn_set hO1 K1 hEg (p := ⟨g, 7, none⟩) rfl (.bool (c0 || !addOk x0 pg))
          have hP2 := pls_set hP1 K1 (p := ⟨g, 7, none⟩) rfl (.bool (c0 || !addOk x0 pg))
          have hk2 := kb_set hk1 (p := ⟨g, 7, none⟩) rfl (.bool (c0 || !addOk x0 pg))
          have hs2 : base ≤ ((wr.alloc (.cells #[.int .i64 pb, .int .i64 pw, .int .i64 ph, .int .i64 pg, .string pt, .bool pk] 32)).setCell ⟨g, 7, none⟩ (.bool (c0 || !addOk x0 pg))).heap.size := Nat.le_trans hbw hk2.size
          clear ar1 hO hP hkb K hk0 c7 f7 K1 Kx hO1 hP1 hk1 hs1
          generalize addOk x0 pg = o1 at *
          generalize add2 x0 pg = x1 at *
          go_upto_region 8 with (first
            | (go_at_call 44; (with_reducible refine (ad1 _).mono ?_); rintro e w1 ⟨rfl, rfl⟩)
            | (go_at_call 51; (with_reducible refine nu1.mono ?_); rintro e w1 ⟨rfl, rfl⟩))
          generalize (wr.alloc (.cells #[.int .i64 pb, .int .i64 pw, .int .i64 ph, .int .i64 pg, .string pt, .bool pk] 32)).setCell ⟨g, 7, none⟩ (.bool (c0 || !o1)) = W2 at *
          have hs1 := hs2
          clear hs2
          clear ad1 nu1 e0 e1 e2 e3 e4 e5
          generalize (c0 || !o1) = c1 at *
          have hSy : ∀ w' c', Blk w' g 60 (filC room align (.slice (some ad) n c) wide vp lines high c') → Blk w' wr.heap.size 32 #[.int .i64 pb, .int .i64 pw, .int .i64 ph, .int .i64 pg, .string pt, .bool pk] → (w'.cell? ⟨g, 6, none⟩ = some (.int .i64 high) ∧ w'.cell? ⟨wr.heap.size, 2, none⟩ = some (.int .i64 ph)) := fun w' c' k1 k2 => ⟨k1.cell 6, k2.cell 2⟩
          generalize hq1 : addOk high (hi - ph) = o2 at *
          generalize hq2 : add2 high (hi - ph) = y1 at *
          clear hq1 hq2
          have nu2 := numberL_any g y1 o2 c1 W2.drew (K2.drew.cell 7) (K2.drew.frozen 7)
          have K3 := K2.set_ 7 (.bool (c1 || !o2))
          rw [filC_cut] at K3
          have Kx3 := Kx2.far (p := ⟨g, 7, none⟩) ngx (.bool (c1 || !o2))
          have hO3 := opn_set hO2 K2 hEg (p := ⟨g, 7, none⟩) rfl (.bool (c1 || !o2))
          have hP3 := pls_set hP2 K2 (p := ⟨g, 7, none⟩) rfl (.bool (c1 || !o2))
          have hk3 := kb_set hk2 (p := ⟨g, 7, none⟩) rfl (.bool (c1 || !o2))
          have hs3 : base ≤ (W2.setCell ⟨g, 7, none⟩ (.bool (c1 || !o2))).heap.size := Nat.le_trans hbw hk3.size
          go_region_held3 (fun W' => W'.cell? ⟨g, 6, none⟩ = some (.int .i64 high) ∧ W'.cell? ⟨wr.heap.size, 2, none⟩ = some (.int .i64 ph))
            (first | (with_reducible assumption) | exact hSy _ _ K2.drew Kx2.drew | exact hSy _ _ K3.drew Kx3.drew)
            (first
              | (go_at_call 44; (with_reducible refine (ad2 _).mono ?_); rintro e w1 ⟨rfl, rfl⟩)
              | (go_at_call 51; (with_reducible refine nu2.mono ?_); rintro e w1 ⟨rfl, rfl⟩))
          clear nu2 hSy K2 Kx2 hO2 hP2 hk2 hs1
          have nv : vp.ownBlock ≠ some g := own_blk_ne hP3 K3 (by decide)
          have nvx : vp.ownBlock ≠ some wr.heap.size := own_blk_ne hP3 Kx3 (by decide)
          have hol : ps.length < 400000000 := by omega
          obtain ⟨Av, mv9, cv, hvp⟩ := own_slice hP3
          have hvl : mv9 = ps.length := by obtain ⟨A', c', e⟩ := own_form' hP3; rw [hvp] at e; injection e
          subst hvl
          replace K3 := K3.drew
          replace Kx3 := Kx3.drew
          replace hO3 : OpnO (W2.setCell ⟨g, 7, none⟩ (.bool (c1 || !o2))).drew E base (.slice (some ad) n c) op := hO3
          replace hP3 : PlsO (W2.setCell ⟨g, 7, none⟩ (.bool (c1 || !o2))).drew base (.slice Av ps.length cv) ps := hvp ▸ hP3
          replace hk3 := hk3.drew
          replace hs3 : base ≤ (W2.setCell ⟨g, 7, none⟩ (.bool (c1 || !o2))).drew.heap.size := hs3
          generalize (W2.setCell ⟨g, 7, none⟩ (.bool (c1 || !o2))).drew = W3 at *
          generalize (c1 || !o2) = c3 at *
          go_wp2
          have hSk : ∀ w', Blk w' g 60 (filC room align (.slice (some ad) n c) wide vp lines high c3) → Blk w' wr.heap.size 32 #[.int .i64 pb, .int .i64 pw, .int .i64 ph, .int .i64 pg, .string pt, .bool pk] → (w'.cell? ⟨g, 4, none⟩ = some vp ∧ w'.cell? ⟨g, 5, none⟩ = some (.int .i64 lines) ∧ w'.cell? ⟨wr.heap.size, 1, none⟩ = some (.int .i64 pw) ∧ w'.cell? ⟨wr.heap.size, 2, none⟩ = some (.int .i64 ph)) := fun w' k1 k2 => ⟨k1.cell 4, k1.cell 5, k2.cell 1, k2.cell 2⟩
          subst hvp
          refine region_last (m := 26) (S := fun w' => w'.cell? ⟨g, 4, none⟩ = some (.slice Av ps.length cv) ∧ w'.cell? ⟨g, 5, none⟩ = some (.int .i64 lines) ∧ w'.cell? ⟨wr.heap.size, 1, none⟩ = some (.int .i64 pw) ∧ w'.cell? ⟨wr.heap.size, 2, none⟩ = some (.int .i64 ph)) (by kernel_rfl) rfl (by kernel_rfl) ?_ (fun hHeld => ?_)
          · exact hSk _ K3.drew Kx3.drew
          refine held_take (i := 0) (v := ?_) rfl (by kernel_rfl) (fun _ _ _ h => h) rfl (by assumption) ?_ ?_
          rotate_left
          · intro w9 hSw; (try dsimp only at hSw); (try go_split_ands); go_simp; (try with_reducible rfl)
          (try simp only [Act.put]); (try simp only [List.setIfInBounds_toArray]); (try simp only [List.set_cons_succ]); (try simp only [List.set_cons_zero])
          refine held_take (i := 1) (v := ?_) rfl (by kernel_rfl) (fun _ _ _ h => h) rfl (by assumption) ?_ ?_
          rotate_left
          · intro w9 hSw; (try dsimp only at hSw); (try go_split_ands); go_simp; (try with_reducible rfl)
          (try simp only [Act.put]); (try simp only [List.setIfInBounds_toArray]); (try simp only [List.set_cons_succ]); (try simp only [List.set_cons_zero])
          refine held_take (i := 2) (v := ?_) rfl (by kernel_rfl) (fun _ _ _ h => h) rfl (by assumption) ?_ ?_
          rotate_left
          · intro w9 hSw; (try dsimp only at hSw); (try go_split_ands); go_simp; (try with_reducible rfl)
          (try simp only [Act.put]); (try simp only [List.setIfInBounds_toArray]); (try simp only [List.set_cons_succ]); (try simp only [List.set_cons_zero])
          refine held_take (i := 3) (v := ?_) rfl (by kernel_rfl) (fun _ _ _ h => h) rfl (by assumption) ?_ ?_
          rotate_left
          · intro w9 hSw; (try dsimp only at hSw); (try go_split_ands); go_simp; (try with_reducible rfl)
          (try simp only [Act.put]); (try simp only [List.setIfInBounds_toArray]); (try simp only [List.set_cons_succ]); (try simp only [List.set_cons_zero])
          refine held_take (i := 4) (v := ?_) rfl (by kernel_rfl) (fun _ _ _ h => h) rfl (by assumption) ?_ ?_
          rotate_left
          · intro w9 hSw; (try dsimp only at hSw); (try go_split_ands); go_simp; (try with_reducible rfl)
          (try simp only [Act.put]); (try simp only [List.setIfInBounds_toArray]); (try simp only [List.set_cons_succ]); (try simp only [List.set_cons_zero])
          refine held_take (i := 5) (v := ?_) rfl (by kernel_rfl) (fun _ _ _ h => h) rfl (by assumption) ?_ ?_
          rotate_left
          · intro w9 hSw; (try dsimp only at hSw); (try go_split_ands); go_simp; (try with_reducible rfl)
          (try simp only [Act.put]); (try simp only [List.setIfInBounds_toArray]); (try simp only [List.set_cons_succ]); (try simp only [List.set_cons_zero])
          refine held_take (i := 6) (v := ?_) rfl (by kernel_rfl) (fun _ _ _ h => h) rfl (by assumption) ?_ ?_
          rotate_left
          · intro w9 hSw; (try dsimp only at hSw); (try go_split_ands); go_simp; (try with_reducible rfl)
          (try simp only [Act.put]); (try simp only [List.setIfInBounds_toArray]); (try simp only [List.set_cons_succ]); (try simp only [List.set_cons_zero])
          refine held_take (i := 7) (v := ?_) rfl (by kernel_rfl) (fun _ _ _ h => h) rfl (by assumption) ?_ ?_
          rotate_left
          · intro w9 hSw; (try dsimp only at hSw); (try go_split_ands); go_simp; (try with_reducible rfl)
          (try simp only [Act.put]); (try simp only [List.setIfInBounds_toArray]); (try simp only [List.set_cons_succ]); (try simp only [List.set_cons_zero])
          refine held_take (i := 8) (v := ?_) rfl (by kernel_rfl) (fun _ _ _ h => h) rfl (by assumption) ?_ ?_
          rotate_left
          · intro w9 hSw; (try dsimp only at hSw); (try go_split_ands); go_simp; (try with_reducible rfl)
          (try simp only [Act.put]); (try simp only [List.setIfInBounds_toArray]); (try simp only [List.set_cons_succ]); (try simp only [List.set_cons_zero])
          refine held_take (i := 9) (v := ?_) rfl (by kernel_rfl) (fun _ _ _ h => h) rfl (by assumption) ?_ ?_
          rotate_left
          · intro w9 hSw; (try dsimp only at hSw); (try go_split_ands); go_simp; (try with_reducible rfl)
          (try simp only [Act.put]); (try simp only [List.setIfInBounds_toArray]); (try simp only [List.set_cons_succ]); (try simp only [List.set_cons_zero])
          refine held_take (i := 10) (v := ?_) rfl (by kernel_rfl) (fun _ _ _ h => h) rfl (by assumption) ?_ ?_
          rotate_left
          · intro w9 hSw; (try dsimp only at hSw); (try go_split_ands); go_simp; (try with_reducible rfl)
          (try simp only [Act.put]); (try simp only [List.setIfInBounds_toArray]); (try simp only [List.set_cons_succ]); (try simp only [List.set_cons_zero])
          refine held_take (i := 11) (v := ?_) rfl (by kernel_rfl) (fun _ _ _ h => h) rfl (by assumption) ?_ ?_
          rotate_left
          · intro w9 hSw; (try dsimp only at hSw); (try go_split_ands); go_simp; (try with_reducible rfl)
          (try simp only [Act.put]); (try simp only [List.setIfInBounds_toArray]); (try simp only [List.set_cons_succ]); (try simp only [List.set_cons_zero])
          refine held_take (i := 12) (v := ?_) rfl (by kernel_rfl) (fun _ _ _ h => h) rfl (by assumption) ?_ ?_
          rotate_left
          · intro w9 hSw; (try dsimp only at hSw); (try go_split_ands); go_simp; (try with_reducible rfl)
          (try simp only [Act.put]); (try simp only [List.setIfInBounds_toArray]); (try simp only [List.set_cons_succ]); (try simp only [List.set_cons_zero])
          refine held_take (i := 13) (v := ?_) rfl (by kernel_rfl) (fun _ _ _ h => h) rfl (by assumption) ?_ ?_
          rotate_left
          · intro w9 hSw; (try dsimp only at hSw); (try go_split_ands); go_simp; (try with_reducible rfl)
          (try simp only [Act.put]); (try simp only [List.setIfInBounds_toArray]); (try simp only [List.set_cons_succ]); (try simp only [List.set_cons_zero])
          refine held_take (i := 14) (v := ?_) rfl (by kernel_rfl) (fun _ _ _ h => h) rfl (by assumption) ?_ ?_
          rotate_left
          · intro w9 hSw; (try dsimp only at hSw); (try go_split_ands); go_simp; (try with_reducible rfl)
          (try simp only [Act.put]); (try simp only [List.setIfInBounds_toArray]); (try simp only [List.set_cons_succ]); (try simp only [List.set_cons_zero])
          refine held_take (i := 15) (v := ?_) rfl (by kernel_rfl) (fun _ _ _ h => h) rfl (by assumption) ?_ ?_
          rotate_left
          · intro w9 hSw; (try dsimp only at hSw); (try go_split_ands); go_simp; (try with_reducible rfl)
          (try simp only [Act.put]); (try simp only [List.setIfInBounds_toArray]); (try simp only [List.set_cons_succ]); (try simp only [List.set_cons_zero])
          refine held_take (i := 16) (v := ?_) rfl (by kernel_rfl) (fun _ _ _ h => h) rfl (by assumption) ?_ ?_
          rotate_left
          · intro w9 hSw; (try dsimp only at hSw); (try go_split_ands); go_simp; (try with_reducible rfl)
          (try simp only [Act.put]); (try simp only [List.setIfInBounds_toArray]); (try simp only [List.set_cons_succ]); (try simp only [List.set_cons_zero])
          refine held_take (i := 17) (v := ?_) rfl (by kernel_rfl) (fun _ _ _ h => h) rfl (by assumption) ?_ ?_
          rotate_left
          · intro w9 hSw; (try dsimp only at hSw); (try go_split_ands); go_simp; (try with_reducible rfl)
          (try simp only [Act.put]); (try simp only [List.setIfInBounds_toArray]); (try simp only [List.set_cons_succ]); (try simp only [List.set_cons_zero])
          refine held_take (i := 18) (v := ?_) rfl (by kernel_rfl) (fun _ _ _ h => h) rfl (by assumption) ?_ ?_
          rotate_left
          · intro w9 hSw; (try dsimp only at hSw); (try go_split_ands); go_simp; (try with_reducible rfl)
          (try simp only [Act.put]); (try simp only [List.setIfInBounds_toArray]); (try simp only [List.set_cons_succ]); (try simp only [List.set_cons_zero])
          refine held_take (i := 19) (v := ?_) rfl (by kernel_rfl) (fun _ _ _ h => h) rfl (by assumption) ?_ ?_
          rotate_left
          · intro w9 hSw; (try dsimp only at hSw); (try go_split_ands); go_simp; (try with_reducible rfl)
          (try simp only [Act.put]); (try simp only [List.setIfInBounds_toArray]); (try simp only [List.set_cons_succ]); (try simp only [List.set_cons_zero])
          refine held_take (i := 20) (v := ?_) rfl (by kernel_rfl) (fun _ _ _ h => h) rfl (by assumption) ?_ ?_
          rotate_left
          · intro w9 hSw; (try dsimp only at hSw); (try go_split_ands); go_simp; (try with_reducible rfl)
          (try simp only [Act.put]); (try simp only [List.setIfInBounds_toArray]); (try simp only [List.set_cons_succ]); (try simp only [List.set_cons_zero])
          refine held_take (i := 21) (v := ?_) rfl (by kernel_rfl) (fun _ _ _ h => h) rfl (by assumption) ?_ ?_
          rotate_left
          · intro w9 hSw; (try dsimp only at hSw); (try go_split_ands); go_simp; (try with_reducible rfl)
          (try simp only [Act.put]); (try simp only [List.setIfInBounds_toArray]); (try simp only [List.set_cons_succ]); (try simp only [List.set_cons_zero])
          refine wpAnyH_ready (rs := [22]) (by kernel_rfl) (by simp) ?_
          refine AllReadyH.cons rfl (fun K hK => ?_) AllReadyH.nil
          go_simp
          refine hK.out _ _ (hSk _ (K3.drew.alloc _) (Kx3.drew.alloc _)) (fun hHeld => ?_)
          clear hK K
          (try simp only [Act.put]); (try simp only [List.setIfInBounds_toArray]); (try simp only [List.set_cons_succ]); (try simp only [List.set_cons_zero])
          refine wpAnyH_ready (rs := [23]) (by kernel_rfl) (by simp) ?_
          refine AllReadyH.cons rfl (fun K hK => ?_) AllReadyH.nil
          refine step_PlsO W3.drew (by rfl) (.tmp 57) (.tmp 75) (by rfl) base _ ps ⟨(ps.length : Int), lines, x1, y1, pw, ph⟩ (by rfl) (World.ownsRow.drew hP3) _ _ rfl (by rfl) hol hs3 ?_; intro v' w' hP4 hg4
          have K4 := (K3.drew.alloc _).grown hg4 (fun e => nv e.symm)
          have Kx4 := (Kx3.drew.alloc _).grown hg4 (fun e => nvx e.symm)
          refine hK.out _ _ (hSk _ K4 Kx4) (fun hHeld => ?_)
          clear hK K
          (try simp only [Act.put]); (try simp only [List.setIfInBounds_toArray]); (try simp only [List.set_cons_succ]); (try simp only [List.set_cons_zero])
          refine held_take (i := 24) (v := ?_) rfl (by kernel_rfl) (fun _ _ _ h => h) rfl (by assumption) ?_ ?_
          rotate_left
          · intro w9 hSw; (try dsimp only at hSw); (try go_split_ands); go_simp; (try with_reducible rfl)
          (try simp only [Act.put]); (try simp only [List.setIfInBounds_toArray]); (try simp only [List.set_cons_succ]); (try simp only [List.set_cons_zero])
          refine held_take (i := 25) (v := ?_) rfl (by kernel_rfl) (fun _ _ _ h => h) rfl (by assumption) ?_ ?_
          rotate_left
          · intro w9 hSw; (try dsimp only at hSw); (try go_split_ands); go_simp; (try with_reducible rfl)
          (try simp only [Act.put]); (try simp only [List.setIfInBounds_toArray]); (try simp only [List.set_cons_succ]); (try simp only [List.set_cons_zero])
          refine wpAnyH_done (by kernel_rfl) ?_ _
          simp only [beforeLast]
          have hPa : PlsO (W3.drew.alloc (.cells #[.int .i64 (ps.length : Int), .int .i64 lines, .int .i64 x1, .int .i64 y1, .int .i64 pw, .int .i64 ph] 30)) base (.slice Av ps.length cv) ps := World.ownsRow.alloc (World.ownsRow.drew hP3) _
          have hrow : ∀ k, (Value.slice Av ps.length cv).ownBlock = some k → base ≤ k ∧ ∃ cs, Blk (W3.drew.alloc (.cells #[.int .i64 (ps.length : Int), .int .i64 lines, .int .i64 x1, .int .i64 y1, .int .i64 pw, .int .i64 ph] 30)) k 30 cs := fun k hk => ⟨(World.ownsRow.lt hPa k hk).1, own_blk_of hPa hk⟩
          have hO4 : OpnO w' E base (.slice (some ad) n c) op := opn_grown (opn_alloc (by show E ≤ W3.heap.size; omega) (show OpnO W3.drew E base (.slice (some ad) n c) op from hO3) _) hg4 (by rw [size_al]; show E ≤ W3.heap.size + 1; omega) hrow (by omega)
          have hk4 : KB g base w w' := (hk3.drew.alloc hs3 _).grown hg4 (by rw [size_al]; show base ≤ W3.heap.size + 1; omega) (fun k hk => ⟨(hrow k hk).1, _, (hrow k hk).2⟩)
          obtain ⟨A1, m1v, c1v, hv'⟩ := own_slice hP4
          subst hv'
          have f4 := K4.frozen 4
          have c4 := K4.cell 4
          have K5 := K4.set_ 4 (.slice A1 m1v c1v)
          rw [filC_pls] at K5
          have Kx5 := Kx4.far (p := ⟨g, 4, none⟩) ngx (.slice A1 m1v c1v)
          have hO5 := opn_set hO4 K4 hEg (p := ⟨g, 4, none⟩) rfl (.slice A1 m1v c1v)
          have hP5 := pls_set hP4 K4 (p := ⟨g, 4, none⟩) rfl (.slice A1 m1v c1v)
          have hk5 := kb_set hk4 (p := ⟨g, 4, none⟩) rfl (.slice A1 m1v c1v)
          clear hSk hHeld hPa hrow hO4 hP4 hk4 hg4 hP3 hO3 hk3 hs3 K3 Kx3 K4 Kx4 nv nvx
          have ad3 := fun w => add_any x1 pw w
          generalize hq1 : addOk x1 pw = o3 at *
          generalize hq2 : add2 x1 pw = x2 at *
          clear hq1 hq2
          have nu5 := numberL_any g x2 o3 c3 _ (K5.cell 7) (K5.frozen 7)
          have K6 := K5.set_ 7 (.bool (c3 || !o3))
          rw [filC_cut] at K6
          have hO6 := opn_set hO5 K5 hEg (p := ⟨g, 7, none⟩) rfl (.bool (c3 || !o3))
          have hP6 := pls_set hP5 K5 (p := ⟨g, 7, none⟩) rfl (.bool (c3 || !o3))
          have hk6 := kb_set hk5 (p := ⟨g, 7, none⟩) rfl (.bool (c3 || !o3))
          have x51 : ((w'.setCell ⟨g, 4, none⟩ (.slice A1 m1v c1v)).cell? ⟨wr.heap.size, 1, none⟩) = some (.int .i64 pw) := Kx5.cell 1
          clear K5 Kx5 hO5 hP5 hk5
          go_wp2_with (first
            | (go_at_call 44; (with_reducible refine (ad3 _).mono ?_); rintro e w1 ⟨rfl, rfl⟩)
            | (go_at_call 51; (with_reducible refine nu5.mono ?_); rintro e w1 ⟨rfl, rfl⟩))
          go_roundw
          case rel => exact ⟨k + 1, .slice A1 m1v c1v, ⟨x2, ps ++ [⟨ps.length, lines, x1, y1, pw, ph⟩], c3 || !o3⟩, by omega, by go_num, Lib.hid HE2.out.symm, rfl, by simp; omega, K6, hO6, hP6, hk6⟩
          case measure => simp [intOf]; omega
      · obtain rfl : k = n := by omega
        obtain ⟨x0, ps, c0⟩ := S
        simp only at hsl K hP
        have ad4 := fun w => add_any high hi w
        obtain ⟨o4, hq1⟩ : ∃ o4, o4 = addOk high hi := ⟨_, rfl⟩
        obtain ⟨h4, hq2⟩ : ∃ h4, h4 = add2 high hi := ⟨_, rfl⟩
        rw [← hq1, ← hq2] at ad4
        have HQ1 := Lib.hid hq1
        have HQ2 := Lib.hid hq2
        clear hq1 hq2
        have c6 : wr.cell? ⟨g, 6, none⟩ = some (.int .i64 high) := K.cell 6
        have nu7 := numberL_any g h4 o4 c0 wr (K.cell 7) (K.frozen 7)
        have K7 := K.set_ 7 (.bool (c0 || !o4))
        rw [filC_cut] at K7
        have hO7 := opn_set hO K hEg (p := ⟨g, 7, none⟩) rfl (.bool (c0 || !o4))
        have hP7 := pls_set hP K (p := ⟨g, 7, none⟩) rfl (.bool (c0 || !o4))
        have hk7 := kb_set hkb (p := ⟨g, 7, none⟩) rfl (.bool (c0 || !o4))
        have c67 : (wr.setCell ⟨g, 7, none⟩ (.bool (c0 || !o4))).cell? ⟨g, 6, none⟩ = some (.int .i64 high) := K7.cell 6
        have f67 := K7.frozen 6
        have K8 := K7.set_ 6 (.int .i64 h4)
        rw [filC_high] at K8
        have hO8 := opn_set hO7 K7 hEg (p := ⟨g, 6, none⟩) rfl (.int .i64 h4)
        have hP8 := pls_set hP7 K7 (p := ⟨g, 6, none⟩) rfl (.int .i64 h4)
        have hk8 := kb_set hk7 (p := ⟨g, 6, none⟩) rfl (.int .i64 h4)
        have c58 : (((wr.setCell ⟨g, 7, none⟩ (.bool (c0 || !o4))).setCell ⟨g, 6, none⟩ (.int .i64 h4)).cell? ⟨g, 5, none⟩) = some (.int .i64 lines) := K8.cell 5
        have f58 := K8.frozen 5
        have iw : IntKind.i64.wrap (lines + 1) = lines + 1 := by rw [IntKind.wrap_i64]; omega
        have K9 := K8.set_ 5 (.int .i64 (lines + 1))
        rw [filC_lines] at K9
        have hO9 := opn_set hO8 K8 hEg (p := ⟨g, 5, none⟩) rfl (.int .i64 (lines + 1))
        have hP9 := pls_set hP8 K8 (p := ⟨g, 5, none⟩) rfl (.int .i64 (lines + 1))
        have hk9 := kb_set hk8 (p := ⟨g, 5, none⟩) rfl (.int .i64 (lines + 1))
        clear K K7 K8 hO hO7 hO8 hP hP7 hP8 hkb hk7 hk8
        go_wp2_with (first
          | (go_at_call 44; (with_reducible refine (ad4 _).mono ?_); rintro e w1 ⟨rfl, rfl⟩)
          | (go_at_call 51; (with_reducible refine nu7.mono ?_); rintro e w1 ⟨rfl, rfl⟩))
        go_end0
        rw [← HS.out, ← HQ1.out, ← HQ2.out]
        exact ⟨rfl, ⟨_, vp, K9, hO9, hP9⟩, hk9⟩
end Go.Proofs.Ytgglffmfkhbcgaa
