/- TreeTexts's walk: all that texts tell is in the document. Conditions: as the theorem's premises say. -/
import Derived.Test.YteopighhhcikcaaGreatDoorTreeF
import Derived.Test.YteopighhhcikcaaGreatDoorTokL
import Derived.Test.YteopighhhcikcaaGreatDoorTreeZ
import Derived.Test.YteopighhhcikcaaGreatDoorLaw
/- scrimlaw05.own: tokens that came in, as the document's, and how large they are. Conditions: as the theorem's premises say. -/
namespace Go.Proofs.YteopighhhcikcaaGreatDoor
open Go.ChangeShapes Go.WideShapes Go.ChangeAt Go.RowKit Go.Shelf
namespace Tre
open Tok
open RowG (Row)
def cost1 (t : Tk) : Nat := 1 + t.text.length + 30 * t.attrs.length
def cost (ts : List Tk) : Nat := (ts.map cost1).sum
theorem cost_snoc (ts : List Tk) (t : Tk) : cost (ts ++ [t]) = cost ts + (1 + t.text.length + 30 * t.attrs.length) := by unfold cost; simp [cost1]
theorem cost_take {ts : List Tk} {k : Nat} {t : Tk} (h : ts[k]? = some t) : cost (ts.take (k + 1)) = cost (ts.take k) + (1 + t.text.length + 30 * t.attrs.length) := by
  rw [← cost_snoc, List.take_add_one, h]; rfl
theorem cost_len : ∀ ts : List Tk, ts.length ≤ cost ts
  | [] => Nat.le_refl _
  | t :: ts => by have := cost_len ts; unfold cost at *; simp only [List.map_cons, List.sum_cons, List.length_cons, cost1]; omega
theorem cost_in {t : Tk} : ∀ {ts : List Tk}, t ∈ ts → 1 + t.text.length + 30 * t.attrs.length ≤ cost ts
  | u :: ts, h => by
    unfold cost
    simp only [List.map_cons, List.sum_cons]
    rcases List.mem_cons.1 h with h | h
    · subst h; unfold cost1; omega
    · have := cost_in h; unfold cost at this; omega
set_option maxRecDepth 100000 in
set_option maxHeartbeats 8000000 in
theorem own_cs (A : Option Addr) (n c : Nat) (ts : List Tk) (cs : List TC) (hn : n ≤ 17592186043904) (hbd : ∀ t ∈ ts, t.text.length ≤ 140737488351232 ∧ t.attrs.length ≤ 4398046511104) (w : World) (hr : Reads w w.heap.size 4 A n (cs.flatMap tcC)) (hcl : cs.length = ts.length) (hall : ∀ (i : Nat) (c : TC) (t : Tk), cs[i]? = some c → ts[i]? = some t → TkR w w.heap.size c t) :
    Calls Tryz.prog 27 #[.slice A n c] w fun e w' => ∃ (A' : Option Addr) (n' c' N : Nat), e = .returned (.tuple #[.slice A' n' c', .int .i64 (N : Int)]) ∧ Below w.heap.size w w' ∧ (20000 < N ∨ (N = cost ts ∧ n' = n ∧ Reads w' w'.heap.size 4 A' n (cs.flatMap tcC))) := by
  have htl := TRK.len (⟨cs, hr, hcl, hall⟩ : TRK w w.heap.size A n ts)
  have hB0 := below_al (Below.refl w.heap.size w) (.cells #[] 42)
  have hY0 : Row (w.alloc (.cells #[] 42)) w.heap.size 42 4 tcC (.slice (some ⟨w.heap.size, 0, none⟩) 0 0) (cs.take 0) := World.ownsRow_made w #[] 0 (Nat.le_refl _) (Nat.zero_le _) rfl
  have HL := Lib.hid htl
  have HCL := Lib.hid hcl
  clear htl hcl
  go_enter Tryz.func27, Tryz.ntmps27
  go_wp2
  go_loopw [4, 5, 6] (fun v m i wr => ∃ k : Nat, k ≤ n ∧ i = .int .i64 k ∧ m = .int .i64 (cost (ts.take k) : Nat) ∧ cost (ts.take k) ≤ 272730423326721 ∧ Below w.heap.size w wr ∧ Row wr w.heap.size 42 4 tcC v (cs.take k)) (fun _ _ i _ => n - (intOf i).toNat)
  case atStart => exact ⟨0, Nat.zero_le _, rfl, rfl, by simp [cost], hB0, hY0⟩
  case round =>
    obtain ⟨k, hk, rfl, rfl, hco, hBr, hY⟩ := hrel
    clear hB0 hY0
    by_cases hlt : k < n
    · by_cases hc2 : cost (ts.take k) ≤ 20000
      · have hkl : k < cs.length := by rw [HCL.out, HL.out]; exact hlt
        obtain ⟨r, hrk⟩ : ∃ r, cs[k]? = some r := ⟨_, List.getElem?_eq_getElem hkl⟩
        obtain ⟨t, htk⟩ : ∃ t, ts[k]? = some t := ⟨_, List.getElem?_eq_getElem (by rw [HL.out]; exact hlt)⟩
        obtain ⟨ad, rfl, hab, e0, e1, e2, e3⟩ := tok_of (hr.below hBr) hrk
        obtain ⟨-, -, hx, hm, -⟩ := hall k r t hrk htk
        obtain ⟨ht1, ht2⟩ := hbd t (List.mem_of_getElem? htk)
        have hcn := cost_take htk
        have hxs : r.x.size = t.text.length := by rw [hx, toB_size]
        rw [← hm, ← hxs] at hcn
        rw [← hxs] at ht1
        rw [← hm] at ht2
        have hlk : (cs.take k).length ≤ 20000 := by
          have h1 := cost_len (ts.take k)
          rw [List.length_take] at h1 ⊢
          have := HCL.out
          omega
        have htk' : cs.take (k + 1) = cs.take k ++ [r] := by rw [List.take_add_one, hrk]; rfl
        have HTK := Lib.hid htk'
        have HCN := Lib.hid hcn
        have hB2 := below_al hBr (.cells #[.int .i64 r.k, .string r.n, .string r.x, .slice r.A r.m r.c] 42)
        have hY2 := hY.alloc (.cells #[.int .i64 r.k, .string r.n, .string r.x, .slice r.A r.m r.c] 42)
        have hnc := RowG.new_cells wr 42 (tcC r)
        have hgo : ∀ v5 w5, Row w5 w.heap.size 42 4 tcC v5 (cs.take k ++ [r]) → Below w.heap.size w w5 → w5.cell? ⟨(ad.add (k * 4)).block, (ad.add (k * 4)).off + 2, none⟩ = some (.string r.x) ∧ w5.cell? ⟨(ad.add (k * 4)).block, (ad.add (k * 4)).off + 3, none⟩ = some (.slice r.A r.m r.c) := by
          intro v5 w5 _ hb5
          obtain ⟨ad', hz, -, -, -, f2, f3⟩ := tok_of (hr.below hb5) hrk
          injection hz with hz
          subst hz
          exact ⟨f2, f3⟩
        have HGO := Lib.hid hgo
        obtain ⟨A0, c0, hv0⟩ := hY.form
        obtain ⟨M0, hM0⟩ : ∃ M0, M0 = (cs.take k).length := ⟨_, rfl⟩
        rw [← hM0] at hv0
        clear htk' hrk hM0 hcn hx hm hxs hgo htk
        obtain rfl := hv0
        generalize cs.take k = ck at *
        obtain ⟨X, hX⟩ : ∃ X, X = cost (ts.take k) := ⟨_, rfl⟩
        rw [← hX] at hc2 hco ⊢
        have HX := Lib.hid hX
        clear hX
        go_wp2_with (first
          | (refine RowG.wpList_more _ (by rfl) _ _ 27 (by rfl) 42 tcC 4 64 _ info_rt Tryz.underlying27 rfl (by decide) tcC_len tcC_one w.heap.size _ ck r (by rfl) wr.heap.size _ (by rfl) hY2 hnc (by simp only [maxLen]; omega) (by omega) hB2.size ?_
             intro v5 w5 hrow5 hg5 _
             have hB5 := RowG.below_row hB2 hY2 hg5
             obtain ⟨e2', e3'⟩ := HGO.out v5 w5 hrow5 hB5)
          | (go_quiet (fail)))
        go_roundw
        case rel => exact ⟨k + 1, by omega, by go_num, by rw [HCN.out, ← HX.out]; push_cast; rfl, by rw [HCN.out, ← HX.out]; omega, below_drewN hB5 _, by rw [HTK.out]; exact hrow5⟩
        case measure => simp [intOf]; omega
      · obtain ⟨A0, c0, rfl⟩ := hY.form
        go_wp2
        go_ret2
        exact ⟨_, _, _, _, rfl, hBr, .inl (by omega)⟩
    · obtain rfl : k = n := by omega
      have hfull : cs.take k = cs := List.take_of_length_le (by rw [HCL.out, HL.out]; exact Nat.le_refl _)
      have hfull2 : ts.take k = ts := List.take_of_length_le (by rw [HL.out]; exact Nat.le_refl _)
      rw [hfull] at hY
      rw [hfull2] at hco ⊢
      obtain ⟨A0, c0, rfl⟩ := hY.form
      go_wp2
      go_ret2
      refine ⟨_, _, _, _, rfl, hBr, .inr ⟨rfl, by rw [HCL.out, HL.out], ?_⟩⟩
      have hz := hY.reads.1
      rwa [HCL.out, HL.out] at hz
theorem own_any (A : Option Addr) (n c : Nat) (ts : List Tk) (hn : n ≤ 17592186043904) (hbd : ∀ t ∈ ts, t.text.length ≤ 140737488351232 ∧ t.attrs.length ≤ 4398046511104) (w : World) (hT : TRK w w.heap.size A n ts) :
    Calls Tryz.prog 27 #[.slice A n c] w fun e w' => ∃ (A' : Option Addr) (n' c' N : Nat), e = .returned (.tuple #[.slice A' n' c', .int .i64 (N : Int)]) ∧ Below w.heap.size w w' ∧ (20000 < N ∨ (N = cost ts ∧ n' = n ∧ TRK w' w'.heap.size A' n ts)) := by
  obtain ⟨cs, hr, hcl, hall⟩ := hT
  refine (own_cs A n c ts cs hn hbd w hr hcl hall).mono ?_
  rintro e w' ⟨A', n', c', N, he, hB, hN⟩
  exact ⟨A', n', c', N, he, hB, hN.imp_right fun ⟨h1, h2, h3⟩ => ⟨h1, h2, cs, h3, hcl, fun i c t hc ht => (hall i c t hc ht).below hB hB.size⟩⟩
end Tre
end Go.Proofs.YteopighhhcikcaaGreatDoor
namespace Go.Proofs.YteopighhhcikcaaGreatDoor
open Go.ChangeShapes Go.WideShapes Go.ChangeAt Go.RowKit Go.Shelf
namespace Tre
open Tok
open RowG (Row)
theorem told_snoc {ts : List Tk} {k : Nat} {t : Tk} (h : ts[k]? = some t) : toldTx (ts.take (k + 1)) = toldTx (ts.take k) ++ (if t.kind = 3 then t.text else []) := by
  unfold toldTx
  rw [List.take_add_one, h]
  simp
theorem opens_snoc {ts : List Tk} {k : Nat} {t : Tk} (h : ts[k]? = some t) : opens (ts.take (k + 1)) = opens (ts.take k) + (if t.kind = 1 ∧ t.name ≠ rootT then 1 else 0) := by
  unfold opens
  rw [List.take_add_one, h]
  simp [List.countP_append, List.countP_cons]
theorem allTx_snoc {ns : List Nd} {k : Nat} {d : Nd} (h : ns[k]? = some d) : allTx (ns.take (k + 1)) = allTx (ns.take k) ++ d.text := by
  rw [List.take_add_one, h]; exact allTx_push _ _
theorem elems_snoc {ns : List Nd} {k : Nat} {d : Nd} (h : ns[k]? = some d) : elems (ns.take (k + 1)) = elems (ns.take k) + (if d.tag ≠ [] then 1 else 0) := by
  rw [List.take_add_one, h]; exact elems_push _ _
theorem told_size (ts : List Tk) : (toldTx ts).length ≤ cost ts := by
  induction ts with
  | nil => exact Nat.le_refl _
  | cons t ts ih =>
    have : toldTx (t :: ts) = (if t.kind = 3 then t.text else []) ++ toldTx ts := rfl
    rw [this, List.length_append]
    unfold cost at *
    simp only [List.map_cons, List.sum_cons, cost1]
    split <;> simp <;> omega
theorem cost_mono (ts : List Tk) (k : Nat) : cost (ts.take k) ≤ cost ts := by
  have : cost ts = cost (ts.take k) + cost (ts.drop k) := by
    unfold cost
    rw [← List.sum_append, ← List.map_append, List.take_append_drop]
  omega
theorem sizeTx_cost (ts : List Tk) : sizeTx ts ≤ cost ts := by
  induction ts with
  | nil => exact Nat.le_refl _
  | cons t ts ih =>
    unfold sizeTx cost at *
    simp only [List.map_cons, List.sum_cons, cost1]
    omega
theorem allTx_mono (ns : List Nd) (k : Nat) : (allTx (ns.take k)).length ≤ (allTx ns).length := by
  have : allTx ns = allTx (ns.take k) ++ allTx (ns.drop k) := by
    unfold allTx
    rw [← List.flatten_append, ← List.map_append, List.take_append_drop]
  rw [this, List.length_append]
  omega
theorem opens_le (ts : List Tk) : opens ts ≤ ts.length := List.countP_le_length
theorem elems_le (ns : List Nd) : elems ns ≤ ns.length := List.countP_le_length
theorem small_of {ts : List Tk} (h : cost ts ≤ 20000) (hb : ∀ x ∈ ts, (x.name.length ≤ 140737488351232 ∧ x.text.length ≤ 140737488351232) ∧ x.attrs.length ≤ 4398046511104 ∧ ∀ q ∈ x.attrs, q.1.length ≤ 140737488351232 ∧ q.2.length ≤ 140737488351232) : ∀ t ∈ ts, Small t := by
  intro t ht
  obtain ⟨⟨h1, -⟩, -, h4⟩ := hb t ht
  have hc := cost_in ht
  refine ⟨by omega, by simp only [maxLen]; omega, fun a ha => ?_⟩
  have := (h4 a ha).1
  simp only [maxLen]
  omega
theorem cat_run (a b : List UInt8) (h : a.length + b.length ≤ 1000000) (w : World) : (binOp .add 9 (.string (toB a)) (.string (toB b))).run Tryz.prog w = .ok (.string (toB (a ++ b))) w := by
  have ha : ((toB a).size : Int) ≤ 8388608 := by rw [toB_size]; omega
  have hb : ((toB b).size : Int) ≤ 8388608 := by rw [toB_size]; omega
  have := run_string_add (P := Tryz.prog) w (toB a) (toB b) ha hb
  rw [toB_cat] at this
  go_simp
end Tre
namespace treeTexts
open Tok Tre
open RowG (Row)
set_option maxRecDepth 100000 in
set_option maxHeartbeats 16000000 in
theorem walk (A : Option Addr) (n c : Nat) (ts : List Tk) (W : World) (hn : n ≤ 17592186043904) (hT : TRK W W.heap.size A n ts) (hbd : ∀ x ∈ ts, (x.name.length ≤ 140737488351232 ∧ x.text.length ≤ 140737488351232) ∧ x.attrs.length ≤ 4398046511104 ∧ ∀ q ∈ x.attrs, q.1.length ≤ 140737488351232 ∧ q.2.length ≤ 140737488351232) :
    Calls Tryz.prog 8 #[.slice A n c] W fun e w' => e = .returned (.bool true) ∧ Below W.heap.size W w' := by
  have ca := awake5_any W
  have co := fun w' h => own_any A n c ts hn (fun t ht => ⟨(hbd t ht).1.2, (hbd t ht).2.1⟩) w' h
  have hlen := hT.len
  have HBD := Lib.hid hbd
  have HL := Lib.hid hlen
  clear hbd hlen
  go_enter Tryz.func8, Tryz.ntmps8
  go_upto_region 4 with (first
    | (go_at_call 26; (with_reducible refine ca.mono ?_); rintro e w1 ⟨rfl, hB1⟩
       have hT1 := hT.below hB1 hB1.size
       have co1 := co w1 hT1)
    | (go_at_call 27; (with_reducible refine co1.mono ?_); rintro e w2 ⟨A2, n2, c2, N, rfl, hb2, hN⟩))
  have hB2 := below_next hB1 hb2
  have hT2 := hT1.below hb2 hb2.size
  clear co1 co ca hT1 hB1 hb2
  by_cases hbig : 20000 < N
  · have hbig' : (20000 : Int) < (N : Int) := by omega
    clear hN
    go_wp2
    go_ret
    exact ⟨rfl, hB2⟩
  obtain ⟨rfl, -, -⟩ : N = cost ts ∧ n2 = n ∧ TRK w2 w2.heap.size A2 n ts := hN.resolve_left hbig
  have hN' : decide ((20000 : Int) < ((cost ts : Nat) : Int)) = false := decide_eq_false (by omega)
  by_cases hmany : 300 < n
  · have hmany' : (300 : Int) < (n : Int) := by omega
    clear hN
    go_wp2
    go_ret
    exact ⟨rfl, hB2⟩
  have hm' : decide ((300 : Int) < (n : Int)) = false := decide_eq_false (by omega)
  have hco : cost ts ≤ 20000 := by omega
  have hn3 : n ≤ 300 := by omega
  have cb := build_any A n c ts (by omega) (small_of hco HBD.out) (by have := sizeTx_cost ts; omega) w2 hT2
  clear hN hbig hmany
  rcases build_may ts with ⟨x, hx, hx0⟩ | ⟨ns, hx, hne, hmay⟩
  · rw [hx] at cb
    have hxne : decide ((x : Int) = 0) = false := decide_eq_false (by omega)
    go_wp2_with (first
      | (go_at_call 28; (with_reducible refine cb.mono ?_); rintro e w3 ⟨⟨A3, c3, rfl, -⟩, hb3⟩))
    go_ret
    exact ⟨rfl, below_next hB2 hb3⟩
  · obtain ⟨htx, hel⟩ := build_texts hx hne
    obtain ⟨_, _, h60, _⟩ := mayP_of hmay
    rw [hx] at cb
    have HTX := Lib.hid htx
    have HEL := Lib.hid hel
    have HCO := Lib.hid hco
    have H60 := Lib.hid h60
    clear hx htx hel hmay hne hco h60
    go_upto_region 12 with (first
      | (go_at_call 28; (with_reducible refine cb.mono ?_); rintro e w3 ⟨⟨A3, c3, rfl, hN3⟩, hb3⟩))
    have hB3 := below_next hB2 hb3
    clear cb hb3 hB2 hT2 hN' hm'
    obtain ⟨n3, hn3'⟩ : ∃ n3, n3 = ns.length := ⟨_, rfl⟩
    rw [← hn3'] at hN3 ⊢
    have HN3 := Lib.hid hn3'
    clear hn3'
    go_loopw [7, 9, 40] (fun sv ev iv wr => ∃ (k : Nat), k ≤ n ∧ iv = .int .i64 k ∧ sv = .string (toB (toldTx (ts.take k))) ∧ ev = .int .i64 ((1 + opens (ts.take k) : Nat) : Int) ∧ opens (ts.take k) ≤ 300 ∧ Below W.heap.size W wr ∧ NR wr wr.heap.size A3 n3 ns) (fun _ _ iv _ => n - (intOf iv).toNat)
    case atStart => exact ⟨0, Nat.zero_le _, rfl, rfl, rfl, Nat.zero_le _, hB3, hN3⟩
    case round =>
      obtain ⟨k, hk, rfl, rfl, rfl, hop, hBr, hNr⟩ := hrel
      clear hB3 hN3
      by_cases hlt : k < n
      · obtain ⟨t, ht⟩ : ∃ t, ts[k]? = some t := ⟨_, List.getElem?_eq_getElem (by rw [HL.out]; exact hlt)⟩
        have hTr := hT.below hBr hBr.size
        obtain ⟨cs, hrd, hcl, hall⟩ := hTr
        obtain ⟨d, hd⟩ : ∃ d, cs[k]? = some d := ⟨_, List.getElem?_eq_getElem (by rw [hcl, HL.out]; exact hlt)⟩
        obtain ⟨ad, rfl, -, e0, e1, e2, e3⟩ := tok_of hrd hd
        obtain ⟨q1, q2, q3, -, -⟩ := hall k d t hd ht
        have HTS := Lib.hid (told_snoc ht)
        have HOS := Lib.hid (opens_snoc ht)
        have HC1 := Lib.hid (told_size (ts.take (k + 1)))
        have HC2 := Lib.hid (cost_mono ts (k + 1))
        have hopl : opens (ts.take (k + 1)) ≤ 300 := by have := opens_le (ts.take (k + 1)); rw [List.length_take] at this; omega
        have HOL := Lib.hid hopl
        obtain ⟨dk, dn, dx, dA, dm, dc⟩ := d
        simp only at e0 e1 e2 e3 q1 q2 q3
        subst q2 q3
        have Q1 := Lib.hid q1
        have hBx := below_al hBr (.cells #[.int .i64 dk, .string (toB t.name), .string (toB t.text), .slice dA dm dc] 38)
        have hNx := hNr.next (below_al (Below.refl wr.heap.size wr) (.cells #[.int .i64 dk, .string (toB t.name), .string (toB t.text), .slice dA dm dc] 38))
        have hroot : ((toB t.name).toList == [114, 111, 111, 116]) = decide (t.name = rootT) := by rw [← toB_eq, toB_toList rootT]; rfl
        clear hcl hall hd hopl hrd q1 hNr
        by_cases hk3 : dk = 3
        · have hk3t : t.kind = 3 := by rw [← Q1.out]; exact hk3
          subst hk3
          have hcat : (toB (toldTx (ts.take k))).size + (toB t.text).size ≤ 20000 := by
            have h1 := HTS.out; rw [if_pos hk3t] at h1
            have h2 := HC1.out; rw [h1, List.length_append] at h2
            have := HC2.out; have := HCO.out
            rw [toB_size, toB_size]; omega
          have hno : ¬(9223372036854775807 < (toB (toldTx (ts.take k))).size + (toB t.text).size) := by omega
          have HT1 : Hid (toldTx (ts.take (k + 1)) = toldTx (ts.take k) ++ t.text) := by show _ = _; rw [HTS.out, if_pos hk3t]
          have HO1 : Hid (opens (ts.take (k + 1)) = opens (ts.take k)) := by show _ = _; rw [HOS.out, if_neg (by rw [hk3t]; rintro ⟨h, -⟩; omega), Nat.add_zero]
          clear hroot hk3t hcat
          go_wp2
          go_roundw
          case rel => exact ⟨k + 1, by omega, by go_num, by rw [HT1.out, toB_cat], by rw [HO1.out], HOL.out, hBx, hNx⟩
          case measure => simp [intOf]; omega
        · have hk3' : (dk == 3) = false := by simp [hk3]
          have hk3t : ¬(t.kind = 3) := by rw [← Q1.out]; exact hk3
          have HT1 : Hid (toldTx (ts.take (k + 1)) = toldTx (ts.take k)) := by show _ = _; rw [HTS.out, if_neg hk3t, List.append_nil]
          by_cases hk1 : dk = 1
          · have hk1t : t.kind = 1 := by rw [← Q1.out]; exact hk1
            subst hk1
            clear hk3 hk3'
            by_cases hr : t.name = rootT
            · have HO1 : Hid (opens (ts.take (k + 1)) = opens (ts.take k)) := by show _ = _; rw [HOS.out, if_neg (by rintro ⟨-, h⟩; exact h hr), Nat.add_zero]
              rw [decide_eq_true hr] at hroot
              clear hr hk1t hk3t
              go_wp2
              go_roundw
              case rel => exact ⟨k + 1, by omega, by go_num, by rw [HT1.out], by rw [HO1.out], HOL.out, hBx, hNx⟩
              case measure => simp [intOf]; omega
            · have HO1 : Hid (opens (ts.take (k + 1)) = opens (ts.take k) + 1) := by show _ = _; rw [HOS.out, if_pos ⟨hk1t, hr⟩]
              rw [decide_eq_false hr] at hroot
              clear hr hk1t hk3t
              go_wp2
              go_roundw
              case rel => exact ⟨k + 1, by omega, by go_num, by rw [HT1.out], by rw [HO1.out]; push_cast; rw [Int.add_assoc], HOL.out, hBx, hNx⟩
              case measure => simp [intOf]; omega
          · have hk1' : (dk == 1) = false := by simp [hk1]
            have hk1t : ¬(t.kind = 1) := by rw [← Q1.out]; exact hk1
            have HO1 : Hid (opens (ts.take (k + 1)) = opens (ts.take k)) := by show _ = _; rw [HOS.out, if_neg (by rintro ⟨h, -⟩; exact hk1t h), Nat.add_zero]
            clear hroot hk1t hk3t
            go_wp2
            go_roundw
            case rel => exact ⟨k + 1, by omega, by go_num, by rw [HT1.out], by rw [HO1.out], HOL.out, hBx, hNx⟩
            case measure => simp [intOf]; omega
      · obtain rfl : k = n := by omega
        have hfull : ts.take k = ts := List.take_of_length_le (by rw [HL.out]; exact Nat.le_refl _)
        rw [hfull] at hop ⊢
        clear hfull hT
        obtain ⟨P, hP⟩ : ∃ P, P = opens ts := ⟨_, rfl⟩
        rw [← hP] at hop ⊢
        have HP := Lib.hid hP
        clear hP
        obtain ⟨T0, hT0⟩ : ∃ T0, T0 = toB (toldTx ts) := ⟨_, rfl⟩
        rw [← hT0]
        have HT0 := Lib.hid hT0
        have hTsz : T0.size ≤ 20000 := by rw [hT0, toB_size]; have := told_size ts; have := HCO.out; omega
        have hn60 : n3 ≤ 60 := by rw [HN3.out]; exact H60.out
        clear hT0
        go_wp2
        go_loopw [8, 9, 64] (fun sv ev iv wr => ∃ (k : Nat), k ≤ n3 ∧ iv = .int .i64 k ∧ sv = .string (toB (allTx (ns.take k))) ∧ ev = .int .i64 (1 + (P : Int) - (elems (ns.take k) : Nat)) ∧ elems (ns.take k) ≤ 60 ∧ Below W.heap.size W wr ∧ NR wr wr.heap.size A3 n3 ns) (fun _ _ iv _ => n3 - (intOf iv).toNat)
        case atStart => exact ⟨0, Nat.zero_le _, rfl, rfl, by simp [elems], by simp [elems], hBr, hNr⟩
        case round =>
          obtain ⟨j, hj, rfl, rfl, rfl, hel, hBs, hNs⟩ := hrel
          clear hBr hNr
          by_cases hlt2 : j < n3
          · obtain ⟨nd, hnd⟩ : ∃ nd, ns[j]? = some nd := ⟨_, List.getElem?_eq_getElem (by rw [← HN3.out]; exact hlt2)⟩
            obtain ⟨ad, cA, cc, cK, cd, rfl, hadb, e0, e1, e2, e3, e4, -, -⟩ := hNs.at_ hnd
            have HTS := Lib.hid (allTx_snoc hnd)
            have HES := Lib.hid (elems_snoc hnd)
            have hell : elems (ns.take (j + 1)) ≤ 60 := by have := elems_le (ns.take (j + 1)); rw [List.length_take] at this; omega
            have HELL := Lib.hid hell
            have HM := Lib.hid (allTx_mono ns (j + 1))
            have hBx := below_al hBs (.cells #[.int .i64 nd.parent, .string (toB nd.tag), .string (toB nd.text), .slice cA nd.attrs.length cc, .slice cK nd.kids.length cd] 54)
            have hNx := hNs.next (below_al (Below.refl wr.heap.size wr) (.cells #[.int .i64 nd.parent, .string (toB nd.tag), .string (toB nd.text), .slice cA nd.attrs.length cc, .slice cK nd.kids.length cd] 54))
            have hemp : ((toB nd.tag).toList == []) = decide (nd.tag = []) := by rw [← toB_eq, toB_toList []]
            have hno : ¬(9223372036854775807 < (toB (allTx (ns.take j))).size + (toB nd.text).size) := by
              have h2 := HM.out
              rw [HTS.out, List.length_append, HTX.out] at h2
              have := told_size ts; have := HCO.out
              rw [toB_size, toB_size]; omega
            clear hell hnd hNs
            by_cases ht : nd.tag = []
            · rw [decide_eq_true ht] at hemp
              have HE1 : Hid (elems (ns.take (j + 1)) = elems (ns.take j)) := by show _ = _; rw [HES.out, if_neg (fun h => h ht), Nat.add_zero]
              clear ht
              go_wp2
              go_roundw
              case rel => exact ⟨j + 1, by omega, by go_num, by rw [HTS.out, toB_cat], by rw [HE1.out], HELL.out, hBx, hNx⟩
              case measure => simp [intOf]; omega
            · rw [decide_eq_false ht] at hemp
              have HE1 : Hid (elems (ns.take (j + 1)) = elems (ns.take j) + 1) := by show _ = _; rw [HES.out, if_pos ht]
              clear ht
              go_wp2
              go_roundw
              case rel => exact ⟨j + 1, by omega, by go_num, by rw [HTS.out, toB_cat], by rw [HE1.out]; push_cast; congr 1; omega, HELL.out, hBx, hNx⟩
              case measure => simp [intOf]; omega
          · obtain rfl : j = n3 := by omega
            have hfull : ns.take j = ns := List.take_of_length_le (by rw [← HN3.out]; exact Nat.le_refl _)
            rw [hfull, HTX.out, ← HT0.out, HEL.out, ← HP.out]
            have hTT : (T0.toList == T0.toList) = true := beq_self_eq_true _
            have hz : (1 : Int) + (P : Int) - ((1 + P : Nat) : Int) = 0 := by omega
            rw [hz]
            clear hfull hz
            go_wp2
            go_ret
            exact ⟨rfl, hBs⟩
end treeTexts
end Go.Proofs.YteopighhhcikcaaGreatDoor
