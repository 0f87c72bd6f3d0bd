/- tree.Build answers what the tokens build: its walk. Conditions: the tokens lie in memory, and are not too many or too large. -/
import Derived.Test.YteopighhhcikcaaGreatDoorTreeL
import Derived.Test.YteopighhhcikcaaGreatDoorTokK
/- (*builder).take. Conditions: as the theorem's premises say. -/
namespace Go.Proofs.YteopighhhcikcaaGreatDoor
open Go.ChangeShapes Go.WideShapes Go.ChangeAt Go.RowKit Go.Shelf
namespace Tre
open Tok
open RowG (Row)
theorem AddR.form {base g : Nat} {s : St} {r : Except Nat St} {e : Ending} {w : World} (h : AddR base g s r e w) : ∃ x : Nat, e = .returned (.int .i64 (x : Int)) ∧ ((r = .error x ∧ BS w base g s) ∨ (x = 0 ∧ ∃ s', r = .ok s' ∧ BS w base g s')) := by
  rcases h with ⟨x, h1, h2, h3⟩ | ⟨s', h1, h2, h3⟩
  · exact ⟨x, h2, .inl ⟨h1, h3⟩⟩
  · exact ⟨0, h2, .inr ⟨rfl, s', h1, h3⟩⟩
theorem AddR.mk_ {base g : Nat} {s : St} {r r' : Except Nat St} {x : Nat} {w : World} (hr : r' = r) (h : (r = .error x ∧ BS w base g s) ∨ (x = 0 ∧ ∃ s', r = .ok s' ∧ BS w base g s')) : AddR base g s r' (.returned (.int .i64 (x : Int))) w := by
  subst hr
  rcases h with ⟨h1, h2⟩ | ⟨rfl, s', h1, h2⟩
  · exact .inl ⟨x, h1, rfl, h2⟩
  · exact .inr ⟨s', h1, rfl, h2⟩
/-- A token that is not too large for a call. -/
def Small (t : Tk) : Prop := t.attrs.length ≤ 900000 ∧ t.name.length ≤ maxLen ∧ ∀ a ∈ t.attrs, a.1.length ≤ maxLen
set_option maxRecDepth 100000 in
set_option maxHeartbeats 16000000 in
theorem take_any (w : World) (base g : Nat) (s : St) (hs : Ok s) (h : BS w base g s) (hbase : base ≤ w.heap.size) (c : TC) (t : Tk) (ht : TkR w w.heap.size c t) (hsm : Small t) (htx : (allTx s.ns).length + t.text.length ≤ 10000000000000) :
    Calls Tryz.prog 64 #[.pointer (some ⟨g, 0, none⟩), tcV c] w fun e w' => AddR base g s (take s t) e w' ∧ Below base w w' := by
  have ht0 := ht
  obtain ⟨h1, h2, h3, h4, h5⟩ := ht
  have cm := fun w' (hb : Below w.heap.size w w') => mayToken_any c t w' (ht0.below hb hb.size) hsm.1 hsm.2.1 hsm.2.2
  have co := fun w' (hb : Below w.heap.size w w') => open_any w' base g s hs (h.next hb) (Nat.le_trans hbase hb.size) c t (ht0.below hb hb.size) hsm.1
  have cx := fun w' (hb : Below w.heap.size w w') => text_any w' base g s hs (h.next hb) (Nat.le_trans hbase hb.size) t.text htx
  have cc := fun w' (hb : Below w.heap.size w w') => close_any w' base g s hs (h.next hb) (Nat.le_trans hbase hb.size) t.name
  rw [← h3] at cx
  rw [← h2] at cc
  obtain ⟨ck, cnm, cxx, cA, cmm, cc0⟩ := c
  simp only at h1 h2 h3 h4 h5 cx cc
  have K1 := Blk.new w 38 #[.int .i64 ck, .string cnm, .string cxx, .slice cA cmm cc0]
  have hB1 := below_al (Below.refl w.heap.size w) (.cells #[.int .i64 ck, .string cnm, .string cxx, .slice cA cmm cc0] 38)
  have cm1 := cm _ hB1
  unfold tcV at cm1 co ⊢
  simp only at cm1 co ⊢
  have HE : Hid (take s t = if mayTk t then (if ck = 1 then openS s t else if ck = 3 then textS s t.text else .ok (closeS s t.name)) else .error 2) := by show _ = _; unfold take; rw [h1]
  have hN1 := h.next hB1
  have HH := Lib.hid h
  clear h1 h2 h3 h4 h5 ht0 hsm htx cm h
  cases hm : mayTk t with
  | false =>
    rw [hm] at cm1
    have HR : Hid (take s t = .error 2) := by show _ = _; rw [HE.out, hm]; rfl
    clear hm
    go_enter Tryz.func64, Tryz.ntmps64
    go_wp2_with (first | (go_at_call 97; (with_reducible refine cm1.mono ?_); rintro e w2 ⟨rfl, hb2⟩))
    go_ret
    have hB2 := below_next hB1 hb2
    exact ⟨.inl ⟨2, HR.out, rfl, HH.out.next hB2⟩, hB2.mono hbase⟩
  | true =>
    rw [hm] at cm1
    by_cases e1 : ck = 1
    · have HR : Hid (take s t = openS s t) := by show _ = _; rw [HE.out, hm, if_pos rfl, if_pos e1]
      have d1 : (ck == 1) = true := by rw [beq_iff_eq]; exact e1
      clear hm e1
      go_enter Tryz.func64, Tryz.ntmps64
      go_wp2_with (first
        | (go_at_call 97; (with_reducible refine cm1.mono ?_); rintro e w2 ⟨rfl, hb2⟩
           have K2 := K1.next hb2
           obtain ⟨x0, x1, x2, x3⟩ := blk4 K2
           have hB2 := below_next hB1 hb2
           have co2 := co w2 hB2)
        | (go_at_call 98; (with_reducible refine co2.mono ?_); rintro e w3 ⟨hA, hb3⟩
           obtain ⟨x, rfl, hA2⟩ := hA.form))
      go_ret
      exact ⟨AddR.mk_ HR.out hA2, (hB2.mono hbase).trans hb3⟩
    · have d1 : (ck == 1) = false := beq_eq_false_iff_ne.2 e1
      by_cases e3 : ck = 3
      · have HR : Hid (take s t = textS s t.text) := by show _ = _; rw [HE.out, hm, if_pos rfl, if_neg e1, if_pos e3]
        have d3 : (ck == 3) = true := by rw [beq_iff_eq]; exact e3
        clear hm e1 e3
        go_enter Tryz.func64, Tryz.ntmps64
        go_wp2_with (first
          | (go_at_call 97; (with_reducible refine cm1.mono ?_); rintro e w2 ⟨rfl, hb2⟩
             have K2 := K1.next hb2
             obtain ⟨x0, x1, x2, x3⟩ := blk4 K2
             have hB2 := below_next hB1 hb2
             have cx2 := cx w2 hB2)
          | (go_at_call 99; (with_reducible refine cx2.mono ?_); rintro e w3 ⟨hA, hb3⟩
             obtain ⟨x, rfl, hA2⟩ := hA.form))
        go_ret
        exact ⟨AddR.mk_ HR.out hA2, (hB2.mono hbase).trans hb3⟩
      · have HR : Hid (take s t = .ok (closeS s t.name)) := by show _ = _; rw [HE.out, hm, if_pos rfl, if_neg e1, if_neg e3]
        have d3 : (ck == 3) = false := beq_eq_false_iff_ne.2 e3
        clear hm e1 e3
        go_enter Tryz.func64, Tryz.ntmps64
        go_wp2_with (first
          | (go_at_call 97; (with_reducible refine cm1.mono ?_); rintro e w2 ⟨rfl, hb2⟩
             have K2 := K1.next hb2
             obtain ⟨x0, x1, x2, x3⟩ := blk4 K2
             have hB2 := below_next hB1 hb2
             have cc2 := cc w2 hB2)
          | (go_at_call 100; (with_reducible refine cc2.mono ?_); rintro e w3 ⟨rfl, hS3, hb3⟩))
        go_ret
        exact ⟨.inr ⟨_, HR.out, rfl, hS3⟩, (hB2.mono hbase).trans hb3⟩
end Tre
end Go.Proofs.YteopighhhcikcaaGreatDoor
/- tree.Build answers what the tokens build. Conditions: the tokens lie in memory, and are not too many or too large. -/
namespace Go.Proofs.YteopighhhcikcaaGreatDoor
open Go.ChangeShapes Go.WideShapes Go.ChangeAt Go.RowKit Go.Shelf
namespace Tre
open Tok
open RowG (Row)
def sizeTx (ts : List Tk) : Nat := (ts.map (fun t => t.text.length)).sum
theorem told_le (ts : List Tk) : (toldTx ts).length ≤ sizeTx ts := by
  unfold toldTx sizeTx
  induction ts with
  | nil => exact Nat.le_refl _
  | cons t r ih =>
    simp only [List.map_cons, List.flatten_cons, List.length_append, List.sum_cons]
    by_cases h : t.kind = 3
    · rw [if_pos h]; omega
    · rw [if_neg h, List.length_nil]; omega
theorem size_snoc (ts : List Tk) (t : Tk) : sizeTx (ts ++ [t]) = sizeTx ts + t.text.length := by unfold sizeTx; simp
theorem size_take (ts : List Tk) (k : Nat) : sizeTx (ts.take k) ≤ sizeTx ts := by
  conv => rhs; rw [← List.take_append_drop k ts]
  unfold sizeTx
  rw [List.map_append, List.sum_append]
  omega
theorem run_more {ts : List Tk} {k : Nat} {t : Tk} {s : St} (h : run st0 (ts.take k) = .ok s) (ht : ts[k]? = some t) : run st0 (ts.take (k + 1)) = take s t := by
  rw [List.take_add_one, ht]
  show run st0 (ts.take k ++ [t]) = _
  rw [run_append, h]
  show (match take s t with | .error e => Except.error e | .ok s' => run s' []) = _
  cases take s t <;> rfl
theorem run_stop {ts : List Tk} {k : Nat} {x : Nat} (h : run st0 (ts.take k) = .error x) : run st0 ts = .error x := by
  rw [← List.take_append_drop k ts, run_append, h]
theorem size_at {ts : List Tk} {k : Nat} {t : Tk} {s : St} (h : run st0 (ts.take k) = .ok s) (ht : ts[k]? = some t) : (allTx s.ns).length + t.text.length ≤ sizeTx ts := by
  have h1 := (run_texts _ ok0 h).1
  rw [show allTx st0.ns = [] from rfl, List.nil_append] at h1
  rw [h1]
  have h2 := told_le (ts.take k)
  have h3 := size_take ts (k + 1)
  rw [List.take_add_one, ht] at h3
  have h4 := size_snoc (ts.take k) t
  have h5 : sizeTx (ts.take k ++ [t]) ≤ sizeTx ts := h3
  omega
/-- The cells of nodes whose first k texts have been put in. -/
def csK (ns : List Nd) (cs : List NC) (k : Nat) : List NC := cs.mapIdx fun i c => if i < k then { c with x := toB (txtOf ns i) } else c
theorem csK_len (ns : List Nd) (cs : List NC) (k : Nat) : (csK ns cs k).length = cs.length := by unfold csK; simp
theorem csK_get (ns : List Nd) (cs : List NC) (k i : Nat) : (csK ns cs k)[i]? = (cs[i]?).map fun c => if i < k then { c with x := toB (txtOf ns i) } else c := by unfold csK; rw [List.getElem?_mapIdx]
theorem csK_zero (ns : List Nd) (cs : List NC) : csK ns cs 0 = cs := by
  apply List.ext_getElem?
  intro i
  rw [csK_get]
  cases cs[i]? <;> simp
theorem csK_succ {ns : List Nd} {cs : List NC} {k : Nat} {c : NC} (h : cs[k]? = some c) : csK ns cs (k + 1) = (csK ns cs k).set k { c with x := toB (txtOf ns k) } := by
  apply List.ext_getElem?
  intro i
  rw [csK_get, List.getElem?_set, csK_get, csK_len]
  have hl := (List.getElem?_eq_some_iff.1 h).1
  by_cases e : k = i
  · subst e
    rw [if_pos rfl, if_pos hl, h]
    simp
  · rw [if_neg e]
    cases hi : cs[i]? with
    | none => rfl
    | some d =>
      simp only [Option.map_some]
      by_cases h1 : i < k
      · rw [if_pos h1, if_pos (by omega)]
      · rw [if_neg h1, if_neg (by omega)]
/-- While texts are put in. -/
structure BsX (w : World) (base g : Nat) (nv : Value) (tv : List Value) (cs : List NC) (s : St) (k : Nat) : Prop where
  blk : Blk w g 92 (blC nv tv s.place)
  nodes : Row w base 54 5 ncC nv (csK s.ns cs k)
  ats : ∀ (i : Nat) (c : NC) (nd : Nd), cs[i]? = some c → s.ns[i]? = some nd → Row w base 41 2 atC (atV c) nd.attrs
  kids : ∀ (i : Nat) (c : NC) (nd : Nd), cs[i]? = some c → s.ns[i]? = some nd → Row w base 3 1 kidC (kidV c) nd.kids
  told : ∀ (i : Nat) (v : Value), tv[i]? = some v → Row w base 5 1 (fun c => [bv c]) v (txtOf s.ns i)
theorem BsC.x {w : World} {base g : Nat} {nv : Value} {tv : List Value} {cs : List NC} {s : St} (h : BsC w base g nv tv cs s) : BsX w base g nv tv cs s 0 := ⟨h.blk, by rw [csK_zero]; exact h.nodes, h.ats, h.kids, h.told⟩
theorem BsX.more {w : World} {base g b L cp k : Nat} {tv : List Value} {cs : List NC} {s : St} {c : NC} (h : BsX w base g (.slice (some ⟨b, 0, none⟩) L cp) tv cs s k) (hc : cs[k]? = some c) : BsX (w.setCell ⟨b, k * 5 + 2, none⟩ (.string (toB (txtOf s.ns k)))) base g (.slice (some ⟨b, 0, none⟩) L cp) tv cs s (k + 1) := by
  have hg : (csK s.ns cs k)[k]? = some c := by rw [csK_get, hc]; simp
  obtain ⟨b', hb', hbb, ⟨cur, hblk⟩, hset⟩ := row_cell (i := k) (j := 2) (x := c) (y := { c with x := toB (txtOf s.ns k) }) ncC_len h.nodes hg (by decide) (u := .string (toB (txtOf s.ns k))) rfl
  obtain rfl : b = b' := by injection hb' with hb'; injection hb'
  have ks : ∀ e, 54 ≠ e → KT w (w.setCell ⟨b, k * 5 + 2, none⟩ (.string (toB (txtOf s.ns k)))) e := fun e he => KT.set hblk he _ _
  exact ⟨blk_kt h.blk (ks _ (by decide)), by rw [csK_succ hc]; exact hset, fun i d m a b => row_kt (h.ats i d m a b) (ks _ (by decide)), fun i d m a b => row_kt (h.kids i d m a b) (ks _ (by decide)), fun i v a => row_kt (h.told i v a) (ks _ (by decide))⟩
theorem BsX.drew {w : World} {base g k : Nat} {nv : Value} {tv : List Value} {cs : List NC} {s : St} (h : BsX w base g nv tv cs s k) : BsX w.drew base g nv tv cs s k := ⟨h.blk, h.nodes, h.ats, h.kids, h.told⟩
theorem BsX.nr {w : World} {base g b cp : Nat} {L : Nat} {tv : List Value} {cs : List NC} {s : St} (h : BsX w base g (.slice (some ⟨b, 0, none⟩) L cp) tv cs s s.ns.length) (hl : cs.length = s.ns.length) (he : ∀ (i : Nat) (c : NC) (nd : Nd), cs[i]? = some c → s.ns[i]? = some nd → c.p = nd.parent ∧ c.t = toB nd.tag ∧ c.x = ⟨#[]⟩) : L = s.ns.length ∧ NR w w.heap.size (some ⟨b, 0, none⟩) s.ns.length s.ns := by
  obtain ⟨hr, hn⟩ := h.nodes.reads
  rw [csK_len, hl] at hn hr
  refine ⟨hn, csK s.ns cs s.ns.length, hr, by rw [csK_len, hl], fun i c nd hc hnd => ?_⟩
  rw [csK_get] at hc
  cases hq : cs[i]? with
  | none => rw [hq] at hc; cases hc
  | some d =>
    rw [hq] at hc
    simp only [Option.map_some, Option.some.injEq] at hc
    have hi := (List.getElem?_eq_some_iff.1 hnd).1
    rw [if_pos hi] at hc
    subst hc
    obtain ⟨q1, q2, -⟩ := he i d nd hq hnd
    obtain ⟨r1, r2⟩ := (h.ats i d nd hq hnd).reads
    obtain ⟨r3, r4⟩ := (h.kids i d nd hq hnd).reads
    refine ⟨q1, q2, ?_, ⟨r2, by rw [r2]; exact r1⟩, r4, by rw [r4]; exact r3, row_cap (h.ats i d nd hq hnd)⟩
    show toB (txtOf s.ns i) = toB nd.text
    unfold txtOf
    rw [hnd]
end Tre
end Go.Proofs.YteopighhhcikcaaGreatDoor
namespace Go.Proofs.YteopighhhcikcaaGreatDoor
open Go.ChangeShapes Go.WideShapes Go.ChangeAt Go.RowKit Go.Shelf
namespace Tre
open Tok
open RowG (Row)
open Sg (wpList_build_to setRow_blk below_setRow row_setRow)
/-- What Build answers. -/
def BuR (b : List Nd × Nat) (e : Ending) (w' : World) : Prop := ∃ A c, e = .returned (.tuple #[.slice A b.1.length c, .int .i64 (b.2 : Int)]) ∧ NR w' w'.heap.size A b.1.length b.1
theorem nr_nil (w : World) (B : Nat) : NR w B none 0 [] := ⟨[], ⟨rfl, fun h => absurd h (Nat.lt_irrefl 0)⟩, rfl, fun i c nd h => by simp at h⟩
def nilRow : Value := .slice none 0 0
def nil60 : List Value := List.replicate 60 nilRow
def rootC : NC := ⟨-1, toB rootT, ⟨#[]⟩, none, 0, 0, none, 0, 0⟩
theorem zero_bl (w : World) : (zeroValue 92).run Tryz.prog w = .ok (.agg (blC (.slice none 0 0) nil60 0)) w := by kernel_rfl
theorem bl_one (A : Option Addr) (n c : Nat) : ∀ v ∈ (blC (.slice A n c) nil60 0).toList, v.oneCell' = true := by
  intro v hv
  unfold blC at hv
  simp only [List.mem_cons, List.mem_append, List.not_mem_nil, or_false] at hv
  rcases hv with rfl | h | rfl
  · rfl
  · unfold nil60 at h
    rw [List.eq_of_mem_replicate h]; rfl
  · rfl
theorem store_bl (w1 : World) (g : Nat) {old : Array Value} (h : w1.heap[g]? = some (.cells old 92 (0, 0))) (A : Option Addr) (n c : Nat) (hs : 0 + (blC (.slice A n c) nil60 0).toList.length = old.size) :
    (storeCells ⟨g, 0, none⟩ (blC (.slice A n c) nil60 0).toList).run Tryz.prog w1 = .ok () (w1.setRow g (blC (.slice A n c) nil60 0)) := by
  have hst := run_storeCells_from (P := Tryz.prog) g 92 (blC (.slice A n c) nil60 0).toList 0 _ w1 h hs (bl_one A n c)
  rw [List.take_zero, List.nil_append, Array.toArray_toList] at hst
  exact hst
theorem start_of {W : World} {base g : Nat} {nv : Value} (hb : Blk W g 92 (blC nv nil60 0)) (hg : base ≤ g) (hr : Row W base 54 5 ncC nv [rootC]) : BsC W base g nv nil60 [rootC] st0 := by
  have hcase : ∀ {i : Nat} {c : NC} {nd : Nd}, ([rootC] : List NC)[i]? = some c → st0.ns[i]? = some nd → c = rootC ∧ nd = ⟨-1, rootT, [], [], []⟩ := by
    intro i c nd hc hn
    match i, hc, hn with
    | 0, hc, hn => exact ⟨(Option.some.inj hc).symm, (Option.some.inj hn).symm⟩
  refine ⟨hb, hg, hr, rfl, rfl, ?_, ?_, ?_, ?_, ?_, ?_⟩
  · intro i c nd hc hn
    obtain ⟨rfl, rfl⟩ := hcase hc hn
    exact ⟨rfl, rfl, rfl⟩
  · intro i c nd hc hn
    obtain ⟨rfl, rfl⟩ := hcase hc hn
    exact Row.nil _ _ _ _ _
  · intro i c nd hc hn
    obtain ⟨rfl, rfl⟩ := hcase hc hn
    exact Row.nil _ _ _ _ _
  · intro i j c d hc hd hij
    match i, j, hc, hd with
    | 0, 0, _, _ => exact absurd rfl hij
  · intro i v hv
    have hv2 : v = nilRow := by
      have := List.mem_of_getElem? hv
      unfold nil60 at this
      exact List.eq_of_mem_replicate this
    subst hv2
    have : txtOf st0.ns i = [] := by
      unfold txtOf
      match i with
      | 0 => rfl
      | i + 1 => rfl
    rw [this]
    exact Row.nil _ _ _ _ _
  · intro i j u v hu hv _ q hq
    have hu1 := List.mem_of_getElem? hu
    unfold nil60 at hu1
    have hu2 : u = nilRow := List.eq_of_mem_replicate hu1
    subst hu2
    simp [nilRow, Value.ownBlock] at hq
set_option maxRecDepth 100000 in
set_option maxHeartbeats 16000000 in
theorem build_any (A : Option Addr) (n c : Nat) (ts : List Tk) (hn : n ≤ 1000000) (hsm : ∀ t ∈ ts, Small t) (hsz : sizeTx ts ≤ 10000000000000) (w : World) (hT : TRK w w.heap.size A n ts) :
    Calls Tryz.prog 28 #[.slice A n c] w fun e w' => BuR (build ts) e w' ∧ Below w.heap.size w w' := by
  have hlen := hT.len
  have hz := fun w => zero_bl w
  have HL := Lib.hid hlen
  have HSM := Lib.hid hsm
  have HSZ := Lib.hid hsz
  have HR0 : Hid (run st0 (ts.take 0) = .ok st0) := rfl
  obtain ⟨cs, hrd, hcl, hall⟩ := hT
  have HCL := Lib.hid hcl
  have HALL := Lib.hid hall
  obtain ⟨RB, hRB⟩ : ∃ RB, RB = build ts := ⟨_, rfl⟩
  have HRB := Lib.hid hRB
  rw [← hRB]
  clear hlen hsm hsz hcl hall hRB
  go_enter Tryz.func28, Tryz.ntmps28
  have hB1 := below_al (Below.refl w.heap.size w) (.cells #[.int .i64 (-1), .string ⟨#[114, 111, 111, 116]⟩, .string ⟨#[]⟩, .slice none 0 0, .slice none 0 0] 54)
  have hr1 : Row (w.alloc (.cells #[.int .i64 (-1), .string ⟨#[114, 111, 111, 116]⟩, .string ⟨#[]⟩, .slice none 0 0, .slice none 0 0] 54)) w.heap.size 54 5 ncC (.slice (some ⟨w.heap.size, 0, none⟩) 1 1) [rootC] := ⟨rfl, .inr ⟨w.heap.size, 1, _, rfl, Nat.le_refl _, heap_alloc_new w _, Nat.le_refl _, by simp [maxLen], rfl, rfl⟩⟩
  have K0 := Blk.new (w.alloc (.cells #[.int .i64 (-1), .string ⟨#[114, 111, 111, 116]⟩, .string ⟨#[]⟩, .slice none 0 0, .slice none 0 0] 54)) 92 (blC (.slice none 0 0) nil60 0)
  have hB2 := below_setRow (below_al hB1 (.cells (blC (.slice none 0 0) nil60 0) 92)) (g := w.heap.size + 1) (Nat.le_succ _) (blC (.slice (some ⟨w.heap.size, 0, none⟩) 1 1) nil60 0)
  rw [size_al] at K0
  have KG := setRow_blk (cells := blC (.slice (some ⟨w.heap.size, 0, none⟩) 1 1) nil60 0) K0
  have hrG := row_setRow (cs := blC (.slice (some ⟨w.heap.size, 0, none⟩) 1 1) nil60 0) (hr1.alloc (.cells (blC (.slice none 0 0) nil60 0) 92)) K0 (by decide)
  have hS0 := start_of KG (Nat.le_succ _) hrG
  go_wp2_with (with_reducible refine wpList_build_to rfl 92 _ rfl (blC (.slice (some ⟨w.heap.size, 0, none⟩) 1 1) nil60 0) ?_ ?_; focus (kernel_rfl))
  have hst := store_bl _ (w.heap.size + 1) K0 (some ⟨w.heap.size, 0, none⟩) 1 1 rfl
  rw [hst]
  clear hst hz K0 KG hr1 hrG
  generalize ((w.alloc (.cells #[.int .i64 (-1), .string ⟨#[114, 111, 111, 116]⟩, .string ⟨#[]⟩, .slice none 0 0, .slice none 0 0] 54)).alloc (.cells (blC (.slice none 0 0) nil60 0) 92)).setRow (w.heap.size + 1) (blC (.slice (some ⟨w.heap.size, 0, none⟩) 1 1) nil60 0) = W0 at *
  have hgz : w.heap.size + 1 < W0.heap.size := hS0.blk.lt
  obtain ⟨g, hg⟩ : ∃ g, g = w.heap.size + 1 := ⟨_, rfl⟩
  rw [← hg] at hS0 hgz ⊢
  have hgw : w.heap.size ≤ g := by omega
  clear hg
  go_wp2
  go_loopw [14] (fun iv wr => ∃ (k : Nat) (s : St), k ≤ n ∧ iv = .int .i64 k ∧ BS wr w.heap.size g s ∧ Hid (Ok s) ∧ Hid (run st0 (ts.take k) = .ok s) ∧ Below w.heap.size w wr) (fun iv _ => n - (intOf iv).toNat)
  case atStart => exact ⟨0, st0, Nat.zero_le _, rfl, ⟨_, _, _, hS0⟩, Lib.hid ok0, HR0, hB2⟩
  case round =>
    obtain ⟨k, s, hk, rfl, hS, HOK, HR, hBr⟩ := hrel
    clear hS0 HR0 hB2 hgz
    by_cases hlt : k < n
    · obtain ⟨t, ht⟩ : ∃ t, ts[k]? = some t := ⟨_, List.getElem?_eq_getElem (by rw [HL.out]; exact hlt)⟩
      obtain ⟨d, hd⟩ : ∃ d, cs[k]? = some d := ⟨_, List.getElem?_eq_getElem (by rw [HCL.out, HL.out]; exact hlt)⟩
      obtain ⟨ad, rfl, -, e0, e1, e2, e3⟩ := tok_of (hrd.below hBr) hd
      have hTk := HALL.out k d t hd ht
      have hB1' := below_al hBr (.cells #[.int .i64 d.k, .string d.n, .string d.x, .slice d.A d.m d.c] 38)
      have hS1 := hS.next (below_al (Below.refl wr.heap.size wr) (.cells #[.int .i64 d.k, .string d.n, .string d.x, .slice d.A d.m d.c] 38))
      have ctk := take_any _ w.heap.size g s HOK.out hS1 hB1'.size d t (hTk.below hB1' hB1'.size) (HSM.out t (List.mem_of_getElem? ht)) (by have := size_at HR.out ht; have := HSZ.out; omega)
      have HTK := Lib.hid (run_more HR.out ht)
      have HTE := Lib.hid (fun x (h : take s t = .error x) => take_err h)
      have HTO := Lib.hid (fun s' (h : take s t = .ok s') => take_ok HOK.out h)
      unfold tcV at ctk
      obtain ⟨dk, dn, dx, dA, dm, dc⟩ := d
      simp only at e0 e1 e2 e3 ctk
      clear hd ht hTk hS1 hS hrd
      go_upto_region 6 with (first
        | (go_at_call 64; (with_reducible refine ctk.mono ?_); rintro e w3 ⟨hA, hb3⟩
           obtain ⟨x, rfl, hA2⟩ := hA.form))
      have hB3 : Below w.heap.size w w3 := hB1'.trans hb3
      rcases hA2 with ⟨hE, hS3⟩ | ⟨rfl, s', hE, hS3⟩
      · have hx := HTE.out x hE
        have hx1 : ((x : Int) == 0) = false := by rw [beq_eq_false_iff_ne]; omega
        have hbu : RB = ([], x) := by
          have h1 := HTK.out
          rw [hE] at h1
          have h2 := run_stop h1
          rw [HRB.out]
          unfold build
          rw [h2]
        have HBU := Lib.hid hbu
        clear hx hbu hE hA
        go_wp2
        go_ret2
        exact ⟨⟨none, 0, by rw [HBU.out]; rfl, by rw [HBU.out]; exact nr_nil _ _⟩, hB3⟩
      · have HOK' := Lib.hid (HTO.out s' hE)
        have HR' : Hid (run st0 (ts.take (k + 1)) = .ok s') := by show _ = _; rw [HTK.out, hE]
        clear hE hA
        go_wp2
        go_roundw
        case rel => exact ⟨k + 1, s', by omega, by go_num, hS3, HOK', HR', hB3⟩
        case measure => simp [intOf]; omega
    · obtain rfl : k = n := by omega
      have hbu : RB = (s.ns, 0) := by
        have h1 := HR.out
        rw [List.take_of_length_le (by rw [HL.out]; exact Nat.le_refl _)] at h1
        rw [HRB.out]
        unfold build
        rw [h1]
      have HBU := Lib.hid hbu
      obtain ⟨nv, tv, csn, hC⟩ := hS
      obtain ⟨b, cp, rfl, hbb, -⟩ := hC.form HOK.out.pos
      have hfew := HOK.out.few
      have hX := hC.x
      have HCL2 := Lib.hid hC.clen
      have HTL := Lib.hid hC.tlen
      have HEA := Lib.hid hC.each
      have x0 := bl_0 hC.blk
      obtain ⟨L, hL⟩ : ∃ L, L = s.ns.length := ⟨_, rfl⟩
      have HLL := Lib.hid hL
      rw [← hL] at x0 hX hfew
      clear hbu hL hC
      go_wp2
      go_loopw [27] (fun iv wr' => ∃ i : Nat, i ≤ L ∧ iv = .int .i64 i ∧ BsX wr' w.heap.size g (.slice (some ⟨b, 0, none⟩) L cp) tv csn s i ∧ Below w.heap.size w wr') (fun iv _ => L - (intOf iv).toNat)
      case atStart => exact ⟨0, Nat.zero_le _, rfl, hX, hBr⟩
      case round =>
        obtain ⟨i, hi, rfl, hXi, hBi⟩ := hrel
        clear hX x0 hBr
        have hTW := hBi.size
        by_cases hil : i < L
        · obtain ⟨ci, hci⟩ : ∃ c, csn[i]? = some c := ⟨_, List.getElem?_eq_getElem (by rw [HCL2.out, ← HLL.out]; exact hil)⟩
          obtain ⟨v, hv⟩ : ∃ v, tv[i]? = some v := ⟨_, List.getElem?_eq_getElem (by rw [HTL.out]; omega)⟩
          have hgi : (csK s.ns csn i)[i]? = some ci := by rw [csK_get, hci]; simp
          obtain ⟨ad, hade, hadb, -, -, e2, -⟩ := nod_of hXi.nodes.reads.1 hgi
          have had : ad = ⟨b, 0, none⟩ := by injection hade with h; exact h.symm
          have HAD := Lib.hid had
          have x0i := bl_0 hXi.blk
          have zt := bl_t hXi.blk hv
          have htl := hXi.told i v hv
          have hcv : ∀ w', w' = wr ∨ w' = wr.drew → (convert 74 9 v).run Tryz.prog w' = .ok (.string (toB (txtOf s.ns i))) w' := by
            intro w' hw'
            have hb : Bys wr w.heap.size v (txtOf s.ns i) := by
              unfold Bys
              rw [← flat_bv]
              exact htl
            rcases hw' with rfl | rfl
            · exact bys_text hb
            · exact bys_text (show Bys wr.drew w.heap.size v (txtOf s.ns i) from hb)
          have hc1 := hcv wr (.inl rfl)
          have hc2 := hcv wr.drew (.inr rfl)
          obtain ⟨vA, vc, rfl⟩ := htl.form
          rw [← had] at x0i
          have hX2 : BsX (wr.drew.setCell ⟨(ad.add (i * 5)).block, (ad.add (i * 5)).off + 2, none⟩ (.string (toB (txtOf s.ns i)))) w.heap.size g (.slice (some ⟨b, 0, none⟩) L cp) tv csn s (i + 1) := by
            rw [had, ad_off2]
            exact hXi.drew.more hci
          have hf2 : wr.frozen? ⟨(ad.add (i * 5)).block, (ad.add (i * 5)).off + 2, none⟩ = false := by rw [had, ad_off2]; exact row_frozen hXi.nodes _
          have hB2' : Below w.heap.size w (wr.drew.setCell ⟨(ad.add (i * 5)).block, (ad.add (i * 5)).off + 2, none⟩ (.string (toB (txtOf s.ns i)))) := hBi.drew.setCell (by rw [had, add_zero_]; exact hbb) _
          have hii : (i : Int) < (L : Int) := by omega
          have hi0 : (0 : Int) ≤ (i : Int) := Int.natCast_nonneg _
          have hi60 : (i : Int) < 60 := by omega
          have hi60n : i < 60 := by omega
          clear had hade hcv htl hgi hci hv hXi
          generalize toB (txtOf s.ns i) = tx at *
          generalize (txtOf s.ns i).length = N at *
          go_upto_region 12 with (fail)
          go_still_tail 10, (by kernel_rfl)
          change wpList _ _ _ _ _ wr.drew
          go_wp2
          go_roundw
          case rel => exact ⟨i + 1, by omega, by go_num, hX2, hB2'⟩
          case measure => simp [intOf]; omega
        · obtain rfl : i = L := by omega
          have x0i := bl_0 hXi.blk
          rw [HLL.out] at hXi
          obtain ⟨hLn, hNR⟩ := hXi.nr HCL2.out HEA.out
          go_wp2
          go_ret2
          exact ⟨⟨_, cp, by rw [HBU.out, HLL.out]; rfl, by rw [HBU.out]; exact hNR⟩, hBi⟩
end Tre
end Go.Proofs.YteopighhhcikcaaGreatDoor
