/- Lists of tokens that lie in memory, read; layer 4's own; the reference's SameAttrs and Same. Conditions: the lists lie in memory. -/
import Derived.Test.YteopighhhcikcaaGreatDoorTokG
import Derived.Deep.QuietTactic
import Derived.BigQuiet
namespace Go.Proofs.YteopighhhcikcaaGreatDoor
open Go.ChangeShapes Go.WideShapes Go.ChangeAt Go.RowKit
namespace Tok
open RowG (Row)
/-- A token's cells read as a token. -/
def TcR (w : World) (B : Nat) (c : TC) (t : T) : Prop := c.k = t.kind ∧ c.n = toB t.name ∧ c.x = toB t.text ∧ c.m = t.attrs.length ∧ Reads w B 2 c.A c.m (t.attrs.flatMap atC)
/-- A list of tokens, read. -/
def TR (w : World) (B : Nat) (A : Option Addr) (n : Nat) (ts : List T) : Prop := ∃ cs : List TC, Reads w B 4 A n (cs.flatMap tcC) ∧ cs.length = ts.length ∧ ∀ (i : Nat) (c : TC) (t : T), cs[i]? = some c → ts[i]? = some t → TcR w B c t
theorem TcR.below {w w' : World} {B B' : Nat} {c : TC} {t : T} (h : TcR w B c t) (hb : Below B w w') (hB : B ≤ B') : TcR w' B' c t := by
  obtain ⟨h1, h2, h3, h4, h5⟩ := h
  exact ⟨h1, h2, h3, h4, (h5.below hb).more hB⟩
theorem TR.below {w w' : World} {B B' : Nat} {A : Option Addr} {n : Nat} {ts : List T} (h : TR w B A n ts) (hb : Below B w w') (hB : B ≤ B') : TR w' B' A n ts := by
  obtain ⟨cs, h1, h2, h3⟩ := h
  exact ⟨cs, (h1.below hb).more hB, h2, fun i c t hc ht => (h3 i c t hc ht).below hb hB⟩
theorem TR.next {w w' : World} {A : Option Addr} {n : Nat} {ts : List T} (h : TR w w.heap.size A n ts) (hb : Below w.heap.size w w') : TR w' w'.heap.size A n ts := h.below hb hb.size
theorem TR.len {w : World} {B : Nat} {A : Option Addr} {n : Nat} {ts : List T} (h : TR w B A n ts) : ts.length = n := by
  obtain ⟨cs, h1, h2, -⟩ := h
  have := h1.1
  rw [flat_len tcC_len] at this
  omega
theorem tcR_of {w : World} {base : Nat} {c : TC} {t : T} (h : TkV w base (tcV c) t) : TcR w w.heap.size c t := by
  obtain ⟨A, cp, e, hr⟩ := h
  unfold tcV at e
  injection e with e
  injection e with e
  simp only [List.cons.injEq, Value.int.injEq, Value.string.injEq, Value.slice.injEq, and_true, true_and] at e
  obtain ⟨e1, e2, e3, e4, e5, e6⟩ := e
  exact ⟨e1, e2, e3, e5, by rw [e4, e5]; exact hr.reads.1⟩
theorem TksV.tr {w : World} {base : Nat} {v : Value} {ts : List T} (h : TksV w base v ts) : ∃ A c, v = .slice A ts.length c ∧ TR w w.heap.size A ts.length ts := by
  obtain ⟨cs, h1, h2, h3⟩ := h
  obtain ⟨A, c, rfl⟩ := h1.form
  exact ⟨A, c, by rw [h2], cs, by rw [← h2]; exact h1.reads.1, h2, fun i c t hc ht => tcR_of (h3 i c t hc ht)⟩
/-- The cells of the token number k of a list that lies in memory, as the walk spells them. -/
theorem tok_of {w : World} {B n k : Nat} {A : Option Addr} {l : List TC} {r : TC} (h : Reads w B 4 A n (l.flatMap tcC)) (hk : l[k]? = some r) :
    ∃ ad, A = some ad ∧ ad.block < B ∧ w.cell? (ad.add (k * 4)) = some (.int .i64 r.k) ∧ w.cell? ⟨(ad.add (k * 4)).block, (ad.add (k * 4)).off + 1, none⟩ = some (.string r.n) ∧
      w.cell? ⟨(ad.add (k * 4)).block, (ad.add (k * 4)).off + 2, none⟩ = some (.string r.x) ∧ w.cell? ⟨(ad.add (k * 4)).block, (ad.add (k * 4)).off + 3, none⟩ = some (.slice r.A r.m r.c) := by
  have hl : l.length = n := by have := h.1; rw [flat_len tcC_len] at this; omega
  have hkl := (List.getElem?_eq_some_iff.1 hk).1
  obtain ⟨ad, e, hb, hc⟩ := h.2 (by omega)
  have f0 := flat_at tcC_len l k r 0 hk (by decide)
  have f1 := flat_at tcC_len l k r 1 hk (by decide)
  have f2 := flat_at tcC_len l k r 2 hk (by decide)
  have f3 := flat_at tcC_len l k r 3 hk (by decide)
  refine ⟨ad, e, hb, hc _ _ f0, ?_, ?_, ?_⟩
  · have := hc _ _ f1; rwa [← add_of_add, add_one] at this
  · have := hc _ _ f2; rwa [← add_of_add, add_one] at this
  · have := hc _ _ f3; rwa [← add_of_add, add_one] at this
theorem tok_adr {w : World} {B n k : Nat} {A : Option Addr} {l : List TC} (h : Reads w B 4 A n (l.flatMap tcC)) (hk : k < l.length) : ∃ ad, A = some ad := by
  obtain ⟨ad, e, -⟩ := tok_of h (List.getElem?_eq_getElem hk)
  exact ⟨ad, e⟩
theorem info_rt : (Tryz.prog.info? 42).map (fun i => (i.zero, i.size, i.bytes)) = some (some (.agg #[.int .i64 0, .string ⟨#[]⟩, .string ⟨#[]⟩, .slice none 0 0]), 4, 64) := by kernel_rfl
set_option maxRecDepth 100000 in
set_option maxHeartbeats 8000000 in
theorem ownT_any (A : Option Addr) (n c : Nat) (ts : List T) (hn : n ≤ 1000000) (w : World) (hT : TR w w.heap.size A n ts) :
    Calls Tryz.prog 19 #[.slice A n c] w fun e w' => ∃ A' c', e = .returned (.slice A' n c') ∧ TR w' w'.heap.size A' n ts ∧ Below w.heap.size w w' := by
  obtain ⟨cs, hr, hcl, hall⟩ := hT
  have hlen : cs.length = n := by have := hr.1; rw [flat_len tcC_len] at this; omega
  have hB0 := below_al (Below.refl w.heap.size w) (.cells #[] 42)
  have hY0 : Row (w.alloc (.cells #[] 42)) w.heap.size 42 4 tcC (.slice (some ⟨w.heap.size, 0, none⟩) 0 0) (cs.take 0) := World.ownsRow_made w #[] 0 (Nat.le_refl _) (Nat.zero_le _) rfl
  have HL := Lib.hid hlen
  have HCL := Lib.hid hcl
  clear hlen hcl
  go_enter Tryz.func19, Tryz.ntmps19
  go_wp2
  go_loopw [3, 9] (fun v i wr => ∃ k : Nat, k ≤ n ∧ i = .int .i64 k ∧ Below w.heap.size w wr ∧ Row wr w.heap.size 42 4 tcC v (cs.take k)) (fun _ i _ => n - (intOf i).toNat)
  case atStart => exact ⟨0, Nat.zero_le _, rfl, hB0, hY0⟩
  case round =>
    obtain ⟨k, hk, rfl, hBr, hY⟩ := hrel
    clear hB0 hY0
    by_cases hlt : k < n
    · have hkl : k < cs.length := by rw [HL.out]; exact hlt
      obtain ⟨r, hrk⟩ : ∃ r, cs[k]? = some r := ⟨_, List.getElem?_eq_getElem hkl⟩
      obtain ⟨ad, rfl, hab, e0, e1, e2, e3⟩ := tok_of (hr.below hBr) hrk
      have htk : cs.take (k + 1) = cs.take k ++ [r] := by rw [List.take_add_one, hrk]; rfl
      have HTK := Lib.hid htk
      have hB2 := below_al hBr (.cells #[.int .i64 r.k, .string r.n, .string r.x, .slice r.A r.m r.c] 38)
      have hY2 := (hY.alloc (.cells #[.int .i64 r.k, .string r.n, .string r.x, .slice r.A r.m r.c] 38)).alloc (.cells #[.int .i64 r.k, .string r.n, .string r.x, .slice r.A r.m r.c] 42)
      have hB3 := below_al hB2 (.cells #[.int .i64 r.k, .string r.n, .string r.x, .slice r.A r.m r.c] 42)
      have hnc := RowG.new_cells (wr.alloc (.cells #[.int .i64 r.k, .string r.n, .string r.x, .slice r.A r.m r.c] 38)) 42 (tcC r)
      rw [size_al] at hnc
      have hll : (cs.take k).length ≤ 1000000 := by rw [List.length_take]; omega
      obtain ⟨A0, c0, hv0⟩ := hY.form
      obtain ⟨M0, hM0⟩ : ∃ M0, M0 = (cs.take k).length := ⟨_, rfl⟩
      rw [← hM0] at hv0
      clear htk hrk hM0
      obtain rfl := hv0
      generalize cs.take k = ck at *
      go_wp2_with (refine RowG.wpList_more _ (by rfl) _ _ 27 (by rfl) 42 tcC 4 64 _ info_rt Tryz.underlying27 rfl (by decide) tcC_len tcC_one w.heap.size _ ck r (by rfl) (wr.heap.size + 1) _ (by rfl) hY2 hnc (by simp only [maxLen]; omega) (by omega) hB3.size ?_
                   intro v5 w5 hrow5 hg5 _)
      go_roundw
      case rel => exact ⟨k + 1, by omega, by go_num, RowG.below_row hB3 hY2 hg5, by rw [HTK.out]; exact hrow5⟩
      case measure => simp [intOf]; omega
    · obtain rfl : k = n := by omega
      have hfull : cs.take k = cs := List.take_of_length_le (by rw [HL.out]; exact Nat.le_refl _)
      rw [hfull] at hY
      obtain ⟨A0, c0, rfl⟩ := hY.form
      have hrd := hY.reads.1
      have HF : Hid (cs.length = k) := HL
      go_wp2
      go_ret
      refine ⟨A0, c0, by rw [HF.out]; rfl, ⟨cs, by rw [HF.out] at hrd; exact hrd, HCL.out, fun i c t hc ht => (hall i c t hc ht).below hBr hBr.size⟩, hBr⟩
/-- Two attributes, unlike or not. -/
theorem neq_at (w : World) (a b c d : ByteArray) : (binOp .neq 41 (.agg #[.string a, .string b]) (.agg #[.string c, .string d])).run Tryz.prog w = .ok (.bool (!((a.toList == c.toList) && (b.toList == d.toList)))) w := by
  cases h1 : (a.toList == c.toList) <;> cases h2 : (b.toList == d.toList) <;> go_simp
theorem at_eq (a b : At) : (((toB a.1).toList == (toB b.1).toList) && ((toB a.2).toList == (toB b.2).toList)) = (a == b) := by
  rw [toB_toList, toB_toList, toB_toList, toB_toList]
  rfl
theorem list_eq_of {α : Type} {a b : List α} (hl : a.length = b.length) (h : ∀ (j : Nat) (x y : α), a[j]? = some x → b[j]? = some y → x = y) : a = b := by
  apply List.ext_getElem?
  intro j
  by_cases hj : j < a.length
  · rw [List.getElem?_eq_getElem hj, List.getElem?_eq_getElem (by omega)]
    exact congrArg some (h j _ _ (List.getElem?_eq_getElem hj) (List.getElem?_eq_getElem (by omega)))
  · rw [List.getElem?_eq_none (by omega), List.getElem?_eq_none (by omega)]
set_option maxRecDepth 100000 in
set_option maxHeartbeats 8000000 in
theorem sameAttrs_any (A : Option Addr) (n c : Nat) (as1 : List At) (A2 : Option Addr) (n2 c2 : Nat) (as2 : List At) (hn : n ≤ 1000000) (w : World) (B : Nat) (h1 : Reads w B 2 A n (as1.flatMap atC)) (h2 : Reads w B 2 A2 n2 (as2.flatMap atC)) :
    Calls Tryz.prog 56 #[.slice A n c, .slice A2 n2 c2] w fun e w' => e = .returned (.bool (decide (as1 = as2))) ∧ ∃ q, w' = w.drewN q := by
  have hl1 : as1.length = n := by have := h1.1; rw [flat_len atC_len] at this; omega
  have hl2 : as2.length = n2 := by have := h2.1; rw [flat_len atC_len] at this; omega
  by_cases hne : n = n2
  · subst hne
    obtain ⟨R, hR⟩ : ∃ R, R = decide (as1 = as2) := ⟨_, rfl⟩
    rw [← hR]
    have HR := Lib.hid hR
    have HL1 := Lib.hid hl1
    have HL2 := Lib.hid hl2
    have hnq := neq_at
    clear hR hl1 hl2
    go_enter Tryz.func56, Tryz.ntmps56
    go_wp2
    go_loopw [5] (fun i wr => ∃ k : Nat, k ≤ n ∧ i = .int .i64 k ∧ Hid (∀ (j : Nat) (x y : At), j < k → as1[j]? = some x → as2[j]? = some y → x = y) ∧ ∃ q, wr = w.drewN q) (fun i _ => n - (intOf i).toNat)
    case atStart => exact ⟨0, Nat.zero_le _, rfl, fun j x y h => absurd h (by omega), 0, rfl⟩
    case round =>
      obtain ⟨k, hk, rfl, HK, q, rfl⟩ := hrel
      by_cases hlt : k < n
      · obtain ⟨x, hx⟩ : ∃ x, as1[k]? = some x := ⟨_, List.getElem?_eq_getElem (by rw [HL1.out]; exact hlt)⟩
        obtain ⟨y, hy⟩ : ∃ y, as2[k]? = some y := ⟨_, List.getElem?_eq_getElem (by rw [HL2.out]; exact hlt)⟩
        obtain ⟨ad, rfl, -, e0, e1⟩ := attr_of (h1.drewN q) hx
        obtain ⟨ad2, rfl, -, f0, f1⟩ := attr_of (h2.drewN q) hy
        have k0 : (0 : Int) ≤ (k : Int) := Int.natCast_nonneg _
        have k1 : (k : Int) < (n : Int) := by omega
        have heq := at_eq x y
        simp only [World.cell?_drewN] at e0 e1 f0 f1
        cases hxy : (x == y) with
        | true =>
          rw [hxy] at heq
          have HK2 : Hid (∀ (j : Nat) (x y : At), j < k + 1 → as1[j]? = some x → as2[j]? = some y → x = y) := by
            intro j x' y' hj hx' hy'
            by_cases e : j = k
            · subst e
              rw [hx] at hx'; rw [hy] at hy'
              injection hx' with hx'; injection hy' with hy'
              subst hx'; subst hy'
              exact LawfulBEq.eq_of_beq hxy
            · exact HK.out j x' y' (by omega) hx' hy'
          clear hxy hx hy HK
          go_wp2
          go_quiet (fail)
          go_wp2
          go_roundw
          case rel => exact ⟨k + 1, by omega, by go_num, HK2, _, by first | rfl | exact World.drewN_drewN _ _ _⟩
          case measure => simp [intOf]; omega
        | false =>
          rw [hxy] at heq
          obtain rfl : R = false := by
            rw [HR.out, decide_eq_false_iff_not]
            rintro rfl
            rw [hx] at hy
            injection hy with hy
            subst hy
            rw [beq_self_eq_true] at hxy
            cases hxy
          clear hxy hx hy HK
          go_wp2
          go_quiet (fail)
          go_wp2
          go_ret
          exact ⟨rfl, _, by first | rfl | exact World.drewN_drewN _ _ _⟩
      · obtain rfl : k = n := by omega
        obtain rfl : R = true := by
          rw [HR.out, decide_eq_true_iff]
          exact list_eq_of (by rw [HL1.out, HL2.out]) (fun j x y hx hy => HK.out j x y (by have := (List.getElem?_eq_some_iff.1 hx).1; have := HL1.out; omega) hx hy)
        go_wp2
        go_ret
        exact ⟨rfl, q, rfl⟩
  · have hne2 : ((n : Int) != (n2 : Int)) = true := by rw [bne_iff_ne]; omega
    rw [decide_eq_false (by rintro rfl; omega)]
    clear hne
    go_enter Tryz.func56, Tryz.ntmps56
    go_wp2
    go_ret
    exact ⟨rfl, 0, rfl⟩
theorem tcR_eq {w w2 : World} {B B2 : Nat} {c d : TC} {t u : T} (h : TcR w B c t) (h' : TcR w2 B2 d u) (ha : t.attrs = u.attrs) (hk : (c.k == d.k) = true) (hn : (c.n.toList == d.n.toList) = true) (hx : (c.x.toList == d.x.toList) = true) : t = u := by
  obtain ⟨a1, a2, a3, a4, a5⟩ := h
  obtain ⟨b1, b2, b3, b4, b5⟩ := h'
  rw [a2, b2, toB_toList, toB_toList] at hn
  rw [a3, b3, toB_toList, toB_toList] at hx
  rw [a1, b1] at hk
  have e1 := LawfulBEq.eq_of_beq hk
  have e2 := LawfulBEq.eq_of_beq hn
  have e3 := LawfulBEq.eq_of_beq hx
  cases t; cases u
  simp only at *
  subst e2; subst e3; subst ha
  congr 1
  omega
theorem tcR_beq {w : World} {B : Nat} {c d : TC} {t : T} (h : TcR w B c t) (h' : TcR w B d t) : (c.k == d.k) = true ∧ (c.n.toList == d.n.toList) = true ∧ (c.x.toList == d.x.toList) = true := by
  obtain ⟨a1, a2, a3, a4, a5⟩ := h
  obtain ⟨b1, b2, b3, b4, b5⟩ := h'
  rw [a1, a2, a3, b1, b2, b3]
  simp
set_option maxRecDepth 100000 in
set_option maxHeartbeats 16000000 in
theorem sameT_any (A : Option Addr) (n c : Nat) (ts : List T) (A2 : Option Addr) (n2 c2 : Nat) (us : List T) (hn : n ≤ 1000000) (hm : ∀ t ∈ ts, t.attrs.length ≤ 1000000) (w : World) (B : Nat) (h1 : TR w B A n ts) (h2 : TR w B A2 n2 us) :
    Calls Tryz.prog 18 #[.slice A n c, .slice A2 n2 c2] w fun e w' => e = .returned (.bool (decide (ts = us))) ∧ ∃ q, w' = w.drewN q := by
  have hl1 := h1.len
  have hl2 := h2.len
  obtain ⟨cs, r1, g1, a1⟩ := h1
  obtain ⟨ds, r2, g2, a2⟩ := h2
  by_cases hne : n = n2
  · subst hne
    obtain ⟨R, hR⟩ : ∃ R, R = decide (ts = us) := ⟨_, rfl⟩
    rw [← hR]
    have HR := Lib.hid hR
    have HL1 := Lib.hid hl1
    have HL2 := Lib.hid hl2
    have HC1 := Lib.hid g1
    have HC2 := Lib.hid g2
    have HA1 := Lib.hid a1
    have HA2 := Lib.hid a2
    have HM := Lib.hid hm
    clear hR hl1 hl2 g1 g2 a1 a2 hm
    go_enter Tryz.func18, Tryz.ntmps18
    go_wp2
    go_loopw [5] (fun i wr => ∃ k : Nat, k ≤ n ∧ i = .int .i64 k ∧ Hid (∀ (j : Nat) (x y : T), j < k → ts[j]? = some x → us[j]? = some y → x = y) ∧ ∃ q, wr = w.drewN q) (fun i _ => n - (intOf i).toNat)
    case atStart => exact ⟨0, Nat.zero_le _, rfl, fun j x y h => absurd h (by omega), 0, rfl⟩
    case round =>
      obtain ⟨k, hk, rfl, HK, q, hW⟩ := hrel
      have HW := Lib.hid hW
      have r1 : Reads wr B 4 A n (cs.flatMap tcC) := by rw [hW]; exact r1.drewN q
      have r2 : Reads wr B 4 A2 n (ds.flatMap tcC) := by rw [hW]; exact r2.drewN q
      have hrd : ∀ {k n A xs}, Reads w B k A n xs → Reads wr B k A n xs := fun h => by rw [hW]; exact h.drewN q
      clear hW
      by_cases hlt : k < n
      · obtain ⟨t, ht⟩ : ∃ t, ts[k]? = some t := ⟨_, List.getElem?_eq_getElem (by rw [HL1.out]; exact hlt)⟩
        obtain ⟨u, hu⟩ : ∃ u, us[k]? = some u := ⟨_, List.getElem?_eq_getElem (by rw [HL2.out]; exact hlt)⟩
        obtain ⟨x, hx⟩ : ∃ x, cs[k]? = some x := ⟨_, List.getElem?_eq_getElem (by rw [HC1.out, HL1.out]; exact hlt)⟩
        obtain ⟨y, hy⟩ : ∃ y, ds[k]? = some y := ⟨_, List.getElem?_eq_getElem (by rw [HC2.out, HL2.out]; exact hlt)⟩
        have q1 := HA1.out k x t hx ht
        have q2 := HA2.out k y u hy hu
        obtain ⟨ad, rfl, -, e0, e1, e2, e3⟩ := tok_of r1 hx
        obtain ⟨ad2, rfl, -, f0, f1, f2, f3⟩ := tok_of r2 hy
        have k0 : (0 : Int) ≤ (k : Int) := Int.natCast_nonneg _
        have k1 : (k : Int) < (n : Int) := by omega
        have hat := HM.out t (List.mem_of_getElem? ht)
        have hxm : x.m ≤ 1000000 := by rw [q1.2.2.2.1]; exact hat
        have csa := fun q => sameAttrs_any x.A x.m x.c t.attrs y.A y.m y.c u.attrs hxm (wr.drewN q) B ((hrd q1.2.2.2.2).drewN q) ((hrd q2.2.2.2.2).drewN q)
        clear hrd
        have hno : t ≠ u → R = false := by
          intro h
          rw [HR.out, decide_eq_false_iff_not]
          rintro rfl
          rw [ht] at hu
          exact h (Option.some.inj hu)
        have hbe : t = u → (x.k == y.k) = true ∧ (x.n.toList == y.n.toList) = true ∧ (x.x.toList == y.x.toList) = true := by rintro rfl; exact tcR_beq q1 q2
        have hyes : t = u → Hid (∀ (j : Nat) (x y : T), j < k + 1 → ts[j]? = some x → us[j]? = some y → x = y) := by
          rintro rfl j x' y' hj hx' hy'
          by_cases e : j = k
          · subst e
            rw [ht] at hx'; rw [hu] at hy'
            exact (Option.some.inj hx').symm.trans (Option.some.inj hy')
          · exact HK.out j x' y' (by omega) hx' hy'
        have hall := tcR_eq q1 q2
        clear ht hu hx hy HK HM hat
        cases d1 : (x.k == y.k) with
        | false =>
          obtain rfl : R = false := hno (fun e => by rw [(hbe e).1] at d1; cases d1)
          have d1n : (x.k != y.k) = true := by rw [bne, d1]; rfl
          clear hno hbe hyes hall q1 q2 csa
          go_wp2
          go_quiet (fail)
          go_wp2
          go_ret
          exact ⟨rfl, _, by rw [HW.out]; first | rfl | exact World.drewN_drewN _ _ _⟩
        | true =>
          have d1n : (x.k != y.k) = false := by rw [bne, d1]; rfl
          cases d2 : (x.n.toList == y.n.toList) with
          | false =>
            obtain rfl : R = false := hno (fun e => by rw [(hbe e).2.1] at d2; cases d2)
            clear hno hbe hyes hall q1 q2 csa
            go_wp2
            go_quiet (fail)
            go_wp2
            go_ret
            exact ⟨rfl, _, by rw [HW.out]; first | rfl | exact World.drewN_drewN _ _ _⟩
          | true =>
            cases d3 : (x.x.toList == y.x.toList) with
            | false =>
              obtain rfl : R = false := hno (fun e => by rw [(hbe e).2.2] at d3; cases d3)
              clear hno hbe hyes hall q1 q2 csa
              go_wp2
              go_quiet (fail)
              go_wp2
              go_ret
              exact ⟨rfl, _, by rw [HW.out]; first | rfl | exact World.drewN_drewN _ _ _⟩
            | true =>
              by_cases hae : t.attrs = u.attrs
              · have hY := hyes (hall hae d1 d2 d3)
                simp only [hae, decide_true] at csa
                clear hno hbe hyes hall q1 q2 hae
                go_wp2
                go_quiet ((go_at_call 56; exact Calls.quiet_of (csa _)))
                go_wp2
                go_roundw
                case rel => exact ⟨k + 1, by omega, by go_num, hY, _, by rw [HW.out]; first | rfl | exact World.drewN_drewN _ _ _⟩
                case measure => simp [intOf]; omega
              · obtain rfl : R = false := hno (fun e => hae (by rw [e]))
                simp only [decide_eq_false hae] at csa
                clear hno hbe hyes hall q1 q2 hae
                go_wp2
                go_quiet ((go_at_call 56; exact Calls.quiet_of (csa _)))
                go_wp2
                go_ret
                exact ⟨rfl, _, by rw [HW.out]; first | rfl | exact World.drewN_drewN _ _ _⟩
      · obtain rfl : k = n := by omega
        obtain rfl : R = true := by
          rw [HR.out, decide_eq_true_iff]
          exact list_eq_of (by rw [HL1.out, HL2.out]) (fun j x y hx hy => HK.out j x y (by have := (List.getElem?_eq_some_iff.1 hx).1; have := HL1.out; omega) hx hy)
        go_wp2
        go_ret
        exact ⟨rfl, q, HW.out⟩
  · have hne2 : ((n : Int) != (n2 : Int)) = true := by rw [bne_iff_ne]; omega
    rw [decide_eq_false (by rintro rfl; omega)]
    clear hne
    go_enter Tryz.func18, Tryz.ntmps18
    go_wp2
    go_ret
    exact ⟨rfl, 0, rfl⟩
end Tok
end Go.Proofs.YteopighhhcikcaaGreatDoor
