/- TreeClosed's walk: closings of what isn't open, and empty texts, change nothing. Conditions: as the theorem's premises say. -/
import Derived.Test.YteopighhhcikcaaGreatDoorTreeTexts
import Derived.Test.YteopighhhcikcaaGreatDoorTreeMath5
import Derived.Test.YteopighhhcikcaaGreatDoorAppend
/- TreeClosed: what its walk wants. Conditions: none. -/
namespace Go.Proofs.YteopighhhcikcaaGreatDoor
open Go.ChangeShapes Go.WideShapes Go.ChangeAt Go.RowKit Go.Shelf
namespace Tre
open Tok
open RowG (Row)
set_option maxRecDepth 100000 in
theorem slice_hi (A : Option Addr) (n c a : Nat) (ha : a ≤ c) (w : World) : (Instr.slice 23 (.slice A n c) none (some (.int .i64 (a : Int))) none).run Tryz.prog w = .ok (.slice A a c) w := by
  have h := run_slice_h (P := Tryz.prog) (w := w) (t := 23) (a := A) (len := n) (cap := c) Tryz.underlying23 .i64 a (by omega) (by omega)
  rw [h]
  have hs : (sizeOf (Tryz.prog.elem 23)).run Tryz.prog w = .ok 4 w := by kernel_rfl
  rw [hs]
  have e : A.map (fun x => x.add (0 * 4)) = A := by cases A <;> simp [Addr.add]
  by_cases hc : c = 0
  · simp [Result.andThen, sliced, hc]
  · simp only [Result.andThen, sliced, Int.toNat_natCast, Nat.sub_zero, if_neg hc]
    rw [e]
def tailA (A : Option Addr) (a c : Nat) : Option Addr := if c = a then A else A.map (·.add (a * 4))
set_option maxRecDepth 100000 in
theorem slice_lo (A : Option Addr) (n c a : Nat) (ha : a ≤ n) (w : World) : (Instr.slice 23 (.slice A n c) (some (.int .i64 (a : Int))) none none).run Tryz.prog w = .ok (.slice (tailA A a c) (n - a) (c - a)) w := by
  have h := run_slice_l (P := Tryz.prog) (w := w) (t := 23) (a := A) (len := n) (cap := c) Tryz.underlying23 .i64 a (by omega) (by omega)
  rw [h]
  have hs : (sizeOf (Tryz.prog.elem 23)).run Tryz.prog w = .ok 4 w := by kernel_rfl
  rw [hs]
  simp only [Result.andThen, sliced, Int.toNat_natCast, tailA]
theorem reads_hi {w : World} {B n a : Nat} {A : Option Addr} {cs : List TC} (h : Reads w B 4 A n (cs.flatMap tcC)) (ha : a ≤ n) : Reads w B 4 A a ((cs.take a).flatMap tcC) := by
  have hl : cs.length = n := by have := h.1; rw [flat_len tcC_len] at this; omega
  have e : cs.flatMap tcC = (cs.take a).flatMap tcC ++ (cs.drop a).flatMap tcC := by rw [← List.flatMap_append, List.take_append_drop]
  refine ⟨by rw [flat_len tcC_len, List.length_take]; congr 1; omega, fun h0 => ?_⟩
  obtain ⟨ad, h1, h2, h3⟩ := h.2 (by omega)
  refine ⟨ad, h1, h2, fun j u hu => h3 j u ?_⟩
  rw [e, List.getElem?_append_left (List.getElem?_eq_some_iff.1 hu).1]
  exact hu
theorem reads_lo {w : World} {B n a c : Nat} {A : Option Addr} {cs : List TC} (h : Reads w B 4 A n (cs.flatMap tcC)) (ha : a ≤ n) (hc : n ≤ c) : Reads w B 4 (tailA A a c) (n - a) ((cs.drop a).flatMap tcC) := by
  have hl : cs.length = n := by have := h.1; rw [flat_len tcC_len] at this; omega
  have e : cs.flatMap tcC = (cs.take a).flatMap tcC ++ (cs.drop a).flatMap tcC := by rw [← List.flatMap_append, List.take_append_drop]
  refine ⟨by rw [flat_len tcC_len, List.length_drop, hl], fun h0 => ?_⟩
  obtain ⟨ad, h1, h2, h3⟩ := h.2 (by omega)
  refine ⟨ad.add (a * 4), by unfold tailA; rw [if_neg (by omega), h1]; rfl, by rw [block_of_add]; exact h2, fun j u hu => ?_⟩
  rw [add_of_add]
  refine h3 _ u ?_
  have hlt : ((cs.take a).flatMap tcC).length = a * 4 := by rw [flat_len tcC_len, List.length_take]; congr 1; omega
  rw [e, List.getElem?_append_right (by omega), hlt, Nat.add_sub_cancel_left]
  exact hu
/-- Pairs. -/
def Prs {α β : Type} (R : α → β → Prop) (l : List α) (m : List β) : Prop := l.length = m.length ∧ ∀ (i : Nat) (a : α) (b : β), l[i]? = some a → m[i]? = some b → R a b
theorem Prs.app {α β : Type} {R : α → β → Prop} {l l2 : List α} {m m2 : List β} (h : Prs R l m) (h2 : Prs R l2 m2) : Prs R (l ++ l2) (m ++ m2) := by
  refine ⟨by rw [List.length_append, List.length_append, h.1, h2.1], fun i a b ha hb => ?_⟩
  by_cases hi : i < l.length
  · rw [List.getElem?_append_left hi] at ha
    rw [List.getElem?_append_left (by rw [← h.1]; exact hi)] at hb
    exact h.2 i a b ha hb
  · rw [List.getElem?_append_right (by omega)] at ha
    rw [List.getElem?_append_right (by rw [← h.1]; omega), ← h.1] at hb
    exact h2.2 _ a b ha hb
theorem Prs.take {α β : Type} {R : α → β → Prop} {l : List α} {m : List β} (h : Prs R l m) (a : Nat) : Prs R (l.take a) (m.take a) := by
  refine ⟨by rw [List.length_take, List.length_take, h.1], fun i x y hx hy => ?_⟩
  by_cases hi : i < a
  · rw [List.getElem?_take_of_lt hi] at hx hy
    exact h.2 i x y hx hy
  · rw [List.getElem?_take_eq_none (by omega)] at hx
    cases hx
theorem Prs.drop {α β : Type} {R : α → β → Prop} {l : List α} {m : List β} (h : Prs R l m) (a : Nat) : Prs R (l.drop a) (m.drop a) := by
  refine ⟨by rw [List.length_drop, List.length_drop, h.1], fun i x y hx hy => ?_⟩
  rw [List.getElem?_drop] at hx hy
  exact h.2 _ x y hx hy
theorem Prs.cons {α β : Type} {R : α → β → Prop} {a : α} {b : β} {l : List α} {m : List β} (h0 : R a b) (h : Prs R l m) : Prs R (a :: l) (b :: m) := by
  refine ⟨by rw [List.length_cons, List.length_cons, h.1], fun i x y hx hy => ?_⟩
  cases i with
  | zero => simp at hx hy; subst hx; subst hy; exact h0
  | succ i => exact h.2 i x y (by simpa using hx) (by simpa using hy)
theorem Prs.nil {α β : Type} {R : α → β → Prop} : Prs R ([] : List α) ([] : List β) := ⟨rfl, fun i x y hx => by simp at hx⟩
theorem reads_new (w : World) (t : TypeId) (cs : Array Value) (size n : Nat) (h : cs.size = n * size) : Reads (w.alloc (.cells cs t)) (w.heap.size + 1) size (some ⟨w.heap.size, 0, none⟩) n cs.toList := by
  refine ⟨by simpa using h, fun _ => ⟨_, rfl, by show w.heap.size < _; omega, ?_⟩⟩
  intro j u hu
  have hc : (w.alloc (.cells cs t)).cell? ⟨w.heap.size, j, none⟩ = cs[j]? := cell_of_row _ w.heap.size j cs t (0, 0) (heap_alloc_new w _)
  have ha : (⟨w.heap.size, 0, none⟩ : Addr).add j = ⟨w.heap.size, j, none⟩ := by
    unfold Addr.add
    split
    · subst_vars; rfl
    · simp
  rw [ha, hc, ← hu]
  simp
theorem wpList_toks {w : World} {ops : Array Oper} {rest : List Oper} {o : Oper} {a : Act} {Q : Exit → Act → World → Prop} (hgd : o.guard = none) (s x : Operand)
    (ho : o.op = .call { callee := .builtin .append, args := #[s, x], argTypes := #[23, 23] }) (base : Nat) (v : Value) (l news : List TC) (hs : a.eval s = v) (hown : Row w base 38 4 tcC v l)
    (B : Nat) (A : Option Addr) (m c : Nat) (hx : a.eval x = .slice A m c) (hr : Reads w B 4 A m (news.flatMap tcC)) (hl : l.length + m ≤ 1000000) (hbase : base ≤ w.heap.size)
    (h : ∀ v' w', Row w' base 38 4 tcC v' (l ++ news) → w.grownBy w' v.ownBlock → wpList Tryz.prog ops Q rest (a.put o.dst v') w') : wpList Tryz.prog ops Q (o :: rest) a w := by
  have hm : news.length = m := by have := hr.1; rw [flat_len tcC_len] at this; omega
  cases hi : Tryz.prog.info? 38 with
  | none => have hinfo := info_tok; rw [hi] at hinfo; cases hinfo
  | some i =>
    have hinfo := info_tok
    rw [hi] at hinfo
    simp only [Option.map_some, Option.some.injEq, Prod.mk.injEq] at hinfo
    have h1 : ∀ u ∈ news.flatMap tcC, u.oneCell' = true := by
      intro u hu
      obtain ⟨y, -, hy⟩ := List.mem_flatMap.1 hu
      exact tcC_one y u hy
    obtain ⟨v', w', hrun, h2, h3, h4⟩ := run_append_any (P := Tryz.prog) w base 23 o.type 38 i _ 4 64 Tryz.underlying23 hi hinfo.1 hinfo.2.1 hinfo.2.2 rfl (by decide) v l.length (l.flatMap tcC) hown B A m c (news.flatMap tcC) hr h1 (by simp only [maxLen]; omega) (by omega) hbase
    refine wpList_plain hgd fun _ hK => RowG.wp_more w s x _ ho v _ hs hx v' w' hrun (hK _ _ (h v' w' ?_ h3))
    unfold Row
    rw [List.length_append, List.flatMap_append, hm]
    exact h2
def C2 (tn : ByteArray) : TC := ⟨2, tn, ⟨#[]⟩, none, 0, 0⟩
def C3 : TC := ⟨3, ⟨#[]⟩, ⟨#[]⟩, none, 0, 0⟩
theorem c2_r (w : World) (B : Nat) (nm : List UInt8) : TkR w B (C2 (toB nm)) ⟨2, nm, [], []⟩ := ⟨rfl, rfl, rfl, rfl, Reads.none_⟩
theorem c3_r (w : World) (B : Nat) : TkR w B C3 ⟨3, [], [], []⟩ := ⟨rfl, rfl, rfl, rfl, Reads.none_⟩
end Tre
end Go.Proofs.YteopighhhcikcaaGreatDoor
namespace Go.Proofs.YteopighhhcikcaaGreatDoor
open Go.ChangeShapes Go.WideShapes Go.ChangeAt Go.RowKit Go.Shelf
namespace treeClosed
open Tok Tre
open RowG (Row)
set_option maxRecDepth 100000 in
set_option maxHeartbeats 16000000 in
theorem walk (A : Option Addr) (n c : Nat) (ts : List Tk) (p : Int) (name : ByteArray) (hname : name.size ≤ maxLen) (W : World) (hn : n ≤ 17592186043904 ∧ n ≤ c) (hT : TRK W W.heap.size A n ts) (hbd : ∀ x ∈ ts, (x.name.length ≤ 140737488351232 ∧ x.text.length ≤ 140737488351232) ∧ x.attrs.length ≤ 4398046511104 ∧ ∀ q ∈ x.attrs, q.1.length ≤ 140737488351232 ∧ q.2.length ≤ 140737488351232) :
    Calls Tryz.prog 9 #[.slice A n c, .int .i64 p, .string name] W fun e w' => e = .returned (.bool true) ∧ Below W.heap.size W w' := by
  obtain ⟨hn1, hnc⟩ := hn
  obtain ⟨nm, rfl⟩ : ∃ l, name = toB l := ⟨name.data.toList, bytes_inj rfl⟩
  rw [toB_size] at hname
  have ca := awake5_any W
  have co := fun w' h => own_any A n c ts hn1 (fun t ht => ⟨(hbd t ht).1.2, (hbd t ht).2.1⟩) w' h
  have cn := fun w => name_any nm hname w
  have hlen := hT.len
  have HBD := Lib.hid hbd
  have HL := Lib.hid hlen
  obtain ⟨tn, htn⟩ : ∃ tn, tn = toB nm := ⟨_, rfl⟩
  rw [← htn] at cn ⊢
  have HTN := Lib.hid htn
  clear hbd hlen htn
  go_enter Tryz.func9, Tryz.ntmps9
  go_upto_region 4 with (first
    | (go_at_call 26; (with_reducible refine ca.mono ?_); rintro e w1 ⟨rfl, hB1⟩
       have hT1 := hT.below hB1 hB1.size
       have co1 := co w1 hT1)
    | (go_at_call 27; (with_reducible refine co1.mono ?_); rintro e w2 ⟨A2, n2, c2, N, rfl, hb2, hN⟩))
  have hB2 := below_next hB1 hb2
  have hT2 := hT1.below hb2 hb2.size
  clear co1 co ca hT1 hB1 hb2
  by_cases hbig : 20000 < N
  · have hbig' : (20000 : Int) < (N : Int) := by omega
    clear hN hn1 hnc
    go_wp2
    go_ret
    exact ⟨rfl, hB2⟩
  obtain ⟨rfl, -, -⟩ : N = cost ts ∧ n2 = n ∧ TRK w2 w2.heap.size A2 n ts := hN.resolve_left hbig
  have hN' : decide ((20000 : Int) < ((cost ts : Nat) : Int)) = false := decide_eq_false (by omega)
  have hco : cost ts ≤ 20000 := by omega
  clear hN hbig
  by_cases hmany : 300 < n
  · have hmany' : (300 : Int) < (n : Int) := by omega
    clear hn1 hnc
    go_wp2
    go_ret
    exact ⟨rfl, hB2⟩
  have hm' : decide ((300 : Int) < (n : Int)) = false := decide_eq_false (by omega)
  by_cases hp0 : p < 0
  · clear hn1 hnc
    go_wp2
    go_ret
    exact ⟨rfl, hB2⟩
  obtain ⟨a, rfl⟩ : ∃ a : Nat, p = a := ⟨p.toNat, by omega⟩
  clear hp0
  by_cases hpn : n < a
  · have hpn' : (n : Int) < (a : Int) := by omega
    clear hn1 hnc
    go_wp2
    go_ret
    exact ⟨rfl, hB2⟩
  have hpn' : decide ((n : Int) < (a : Int)) = false := decide_eq_false (by omega)
  have hpa : decide ((a : Int) < 0) = false := decide_eq_false (by omega)
  have ha : a ≤ n := by omega
  have hn3 : n ≤ 300 := by omega
  clear hpn hmany hn1
  cases hnm : nameB nm with
  | false =>
    rw [hnm] at cn
    clear hnc
    go_wp2_with (first
      | (go_at_call 20; (with_reducible refine (cn _).mono ?_); rintro e w3 ⟨rfl, hb3⟩))
    go_ret
    exact ⟨rfl, below_next hB2 hb3⟩
  | true =>
    rw [hnm] at cn
    have HNM := Lib.hid hnm
    have HCO := Lib.hid hco
    have HNC := Lib.hid hnc
    have HN3 := Lib.hid hn3
    clear hnm hco hnc
    go_upto_region 7 with (first
      | (go_at_call 20; (with_reducible refine (cn _).mono ?_); rintro e w3 ⟨rfl, hb3⟩))
    have hB3 := below_next hB2 hb3
    clear hB2 hT2 hb3 hm' hN' hpn' cn
    go_loopw [47] (fun iv wr => ∃ (k : Nat), k ≤ n ∧ iv = .int .i64 k ∧ Hid (∀ t ∈ ts.take k, ¬(t.kind = 1 ∧ t.name = nm)) ∧ Below W.heap.size W wr) (fun iv _ => n - (intOf iv).toNat)
    case atStart => exact ⟨0, Nat.zero_le _, rfl, fun t ht => (by simp at ht), hB3⟩
    case round =>
      obtain ⟨k, hk, rfl, HNO, hBr⟩ := hrel
      clear hB3
      by_cases hlt : k < n
      · obtain ⟨t, ht⟩ : ∃ t, ts[k]? = some t := ⟨_, List.getElem?_eq_getElem (by rw [HL.out]; exact hlt)⟩
        have hTr := hT.below hBr hBr.size
        obtain ⟨cs, hrd, hcl, hall⟩ := hTr
        obtain ⟨d, hd⟩ : ∃ d, cs[k]? = some d := ⟨_, List.getElem?_eq_getElem (by rw [hcl, HL.out]; exact hlt)⟩
        obtain ⟨ad, rfl, -, e0, e1, e2, e3⟩ := tok_of hrd hd
        obtain ⟨q1, q2, q3, -, -⟩ := hall k d t hd ht
        have HTK : Hid (ts.take (k + 1) = ts.take k ++ [t]) := by show _ = _; rw [List.take_add_one, ht]; rfl
        obtain ⟨dk, dn, dx, dA, dm, dc⟩ := d
        simp only at e0 e1 e2 e3 q1 q2 q3
        subst q2 q3
        have Q1 := Lib.hid q1
        have hBx := below_al hBr (.cells #[.int .i64 dk, .string (toB t.name), .string (toB t.text), .slice dA dm dc] 38)
        have heq : ((toB t.name).toList == tn.toList) = decide (t.name = nm) := by rw [HTN.out, toB_eq]
        have next : ¬(t.kind = 1 ∧ t.name = nm) → ∀ u ∈ ts.take (k + 1), ¬(u.kind = 1 ∧ u.name = nm) := by
          intro hno u hu
          rw [HTK.out, List.mem_append] at hu
          rcases hu with hu | hu
          · exact HNO.out u hu
          · obtain rfl : u = t := by simpa using hu
            exact hno
        have NEXT := Lib.hid next
        clear hcl hall hd hrd q1 next ht
        by_cases hk1 : dk = 1
        · have hk1t : t.kind = 1 := by rw [← Q1.out]; exact hk1
          have HK1 := Lib.hid hk1t
          subst hk1
          clear hk1t
          by_cases hr : t.name = nm
          · rw [decide_eq_true hr] at heq
            clear hr
            go_wp2
            go_ret
            exact ⟨rfl, hBx⟩
          · have HNX : Hid (∀ u ∈ ts.take (k + 1), ¬(u.kind = 1 ∧ u.name = nm)) := NEXT.out (fun h => hr h.2)
            rw [decide_eq_false hr] at heq
            clear hr
            go_wp2
            go_roundw
            case rel => exact ⟨k + 1, by omega, by go_num, HNX, hBx⟩
            case measure => simp [intOf]; omega
        · have hk1' : (dk == 1) = false := by simp [hk1]
          have HNX : Hid (∀ u ∈ ts.take (k + 1), ¬(u.kind = 1 ∧ u.name = nm)) := NEXT.out (fun h => hk1 (by rw [Q1.out]; exact h.1))
          clear heq
          go_wp2
          go_roundw
          case rel => exact ⟨k + 1, by omega, by go_num, HNX, hBx⟩
          case measure => simp [intOf]; omega
      · obtain rfl : k = n := by omega
        have hfull : ts.take k = ts := List.take_of_length_le (by rw [HL.out]; exact Nat.le_refl _)
        rw [hfull] at HNO
        have hbc := build_closed (ts.take a) (ts.drop a) nm HNM.out (fun t ht => HNO.out t (List.mem_of_mem_take ht))
        rw [List.take_append_drop] at hbc
        have hTr := hT.below hBr hBr.size
        obtain ⟨cs, hrd, hcl, hall⟩ := hTr
        have hpr : Prs (TkR wr wr.heap.size) cs ts := ⟨hcl, hall⟩
        have hpr' : Prs (TkR wr wr.heap.size) (cs.take a ++ (C2 tn :: C3 :: cs.drop a)) (ts.take a ++ (⟨2, nm, [], []⟩ :: ⟨3, [], [], []⟩ :: ts.drop a)) := (hpr.take a).app (Prs.cons (by rw [HTN.out]; exact c2_r _ _ _) (Prs.cons (c3_r _ _) (hpr.drop a)))
        have hsm := small_of HCO.out HBD.out
        have hszt : sizeTx ts ≤ 20000 := by have := sizeTx_cost ts; have := HCO.out; omega
        obtain ⟨hb60, hbk⟩ := build_small (ts := ts) (fun t ht => (hsm t ht).1)
        have cb1 := fun w h => build_any A k c ts (by omega) hsm (by omega) w h
        have cb2 := fun A' c' w h => build_any A' (k + 2) c' (ts.take a ++ (⟨2, nm, [], []⟩ :: ⟨3, [], [], []⟩ :: ts.drop a)) (by omega) (by
          intro t ht
          rw [List.mem_append, List.mem_cons, List.mem_cons] at ht
          rcases ht with ht | rfl | rfl | ht
          · exact hsm t (List.mem_of_mem_take ht)
          · exact ⟨Nat.zero_le _, hname, fun a ha => (by cases ha)⟩
          · exact ⟨by decide, by decide, fun a ha => (by cases ha)⟩
          · exact hsm t (List.mem_of_mem_drop ht)) (by
          have e : sizeTx (ts.take a ++ (⟨2, nm, [], []⟩ :: ⟨3, [], [], []⟩ :: ts.drop a)) = sizeTx ts := by unfold sizeTx; simp; rw [← List.sum_append, List.take_append_drop]
          rw [e]; omega) w h
        rw [hbc] at cb2
        have cs2 := fun A1 c1 A2 c2 w h1 h2 => same_yes A1 (build ts).1.length c1 A2 c2 (build ts).1 (by omega) (fun nd hnd => by have := hbk nd hnd; omega) w h1 h2
        have HPR := Lib.hid hpr'
        have HHC := Lib.hid (hcl.trans HL.out)
        clear hfull hbc hpr hpr' hsm hszt hb60 hbk hall HNO
        generalize build ts = bl at *
        obtain ⟨bl, be⟩ := bl
        simp only at cb1 cb2 cs2
        have hsh := slice_hi A k c a (by have := HNC.out; omega)
        have hsl := slice_lo A k c a ha
        have hown0 : Row (wr.alloc (.cells #[] 38)) wr.heap.size 38 4 tcC (.slice (some ⟨wr.heap.size, 0, none⟩) 0 0) [] := World.ownsRow_made wr #[] 0 (Nat.le_refl _) (Nat.zero_le _) rfl
        have hB1 := below_al (Below.refl wr.heap.size wr) (.cells #[] 38)
        have hr1 := (reads_hi hrd ha).below hB1
        have hr3 := reads_lo hrd ha HNC.out
        have hl1 : (cs.take a).length ≤ 300 := by rw [List.length_take]; omega
        go_upto_region 15 with (first
          | (refine wpList_toks (by rfl) (.tmp 61) (.tmp 64) (by rfl) wr.heap.size _ [] (cs.take a) (by rfl) hown0 wr.heap.size A a _ (by rfl) hr1 (by simp; omega) hB1.size ?_
             intro v1 w4 hrow1 hg1
             have hB4 := RowG.below_row hB1 hown0 hg1
             obtain ⟨A4, c4, hv4⟩ := hrow1.form
             obtain ⟨n4, hn4⟩ : ∃ n4, n4 = ([] ++ cs.take a).length := ⟨_, rfl⟩
             rw [← hn4] at hv4
             clear hn4
             subst hv4
             have hB5 := below_al hB4 (.cells #[.int .i64 2, .string tn, .string ⟨#[]⟩, .slice none 0 0, .int .i64 3, .string ⟨#[]⟩, .string ⟨#[]⟩, .slice none 0 0] 38)
             have hr2 : Reads _ _ 4 _ 2 ([C2 tn, C3].flatMap tcC) := reads_new w4 38 #[.int .i64 2, .string tn, .string ⟨#[]⟩, .slice none 0 0, .int .i64 3, .string ⟨#[]⟩, .string ⟨#[]⟩, .slice none 0 0] 4 2 rfl
             have hrow2 := hrow1.alloc (.cells #[.int .i64 2, .string tn, .string ⟨#[]⟩, .slice none 0 0, .int .i64 3, .string ⟨#[]⟩, .string ⟨#[]⟩, .slice none 0 0] 38))
          | (refine wpList_toks (by rfl) (.tmp 66) (.tmp 70) (by rfl) wr.heap.size _ _ [C2 tn, C3] (by rfl) hrow2 _ _ 2 _ (by rfl) hr2 (by simp only [List.nil_append]; omega) hB5.size ?_
             intro v2 w6 hrow3 hg2
             have hB6 := RowG.below_row hB5 hrow2 hg2
             obtain ⟨A6, c6, hv6⟩ := hrow3.form
             obtain ⟨n6, hn6⟩ : ∃ n6, n6 = ([] ++ cs.take a ++ [C2 tn, C3]).length := ⟨_, rfl⟩
             rw [← hn6] at hv6
             clear hn6
             subst hv6)
          | (refine wpList_toks (by rfl) (.tmp 72) (.tmp 75) (by rfl) wr.heap.size _ _ (cs.drop a) (by rfl) hrow3 wr.heap.size _ (k - a) _ (by rfl) (hr3.below hB6) (by simp only [List.nil_append, List.length_append, List.length_cons, List.length_nil]; omega) hB6.size ?_
             intro v3 w7 hrow7 hg3
             have hB7 := RowG.below_row hB6 hrow3 hg3))
        have hL3 : ([] ++ cs.take a ++ [C2 tn, C3] ++ cs.drop a).length = k + 2 := by
          have := HHC.out
          simp only [List.nil_append, List.length_append, List.length_cons, List.length_nil, List.length_take, List.length_drop]; omega
        obtain ⟨A7, c7, rfl⟩ := hrow7.form
        have hrd7 := hrow7.reads.1
        rw [hL3] at hrd7 ⊢
        have hT7 : TRK w7 w7.heap.size A7 (k + 2) (ts.take a ++ (⟨2, nm, [], []⟩ :: ⟨3, [], [], []⟩ :: ts.drop a)) := by
          refine ⟨cs.take a ++ (C2 tn :: C3 :: cs.drop a), ?_, HPR.out.1, fun i x y hx hy => (HPR.out.2 i x y hx hy).below hB7 hB7.size⟩
          have e : [] ++ cs.take a ++ [C2 tn, C3] ++ cs.drop a = cs.take a ++ (C2 tn :: C3 :: cs.drop a) := by simp
          rwa [e] at hrd7
        have hBW7 := below_next hBr hB7
        have cb17 := cb1 w7 (hT.below hBW7 hBW7.size)
        clear hrow1 hrow2 hrow3 hrow7 hown0 hr1 hr2 hr3 hrd7 hB1 hB4 hB5 hB6 hg1 hg2 hg3 hsh hsl hL3 hl1 cb1
        go_wp2_with (first
          | (go_at_call 28; (with_reducible refine cb17.mono ?_); rintro e w8 ⟨⟨A8, c8, rfl, hN8⟩, hb8⟩
             have hB8 := below_next hBW7 hb8
             have cb28 := cb2 A7 c7 w8 (hT7.below hb8 hb8.size))
          | (go_at_call 28; (with_reducible refine cb28.mono ?_); rintro e w9 ⟨⟨A9, c9, rfl, hN9⟩, hb9⟩
             have hB9 := below_next hB8 hb9
             have cs9 := cs2 A8 c8 A9 c9 w9 (hN8.next hb9) hN9)
          | (go_at_call 32; (with_reducible refine cs9.mono ?_); rintro e w10 ⟨rfl, hb10⟩
             have hB10 := below_next hB9 hb10))
        go_ret
        exact ⟨rfl, hB10⟩
end treeClosed
end Go.Proofs.YteopighhhcikcaaGreatDoor
