/- tree.Copy answers a document of its own: its walk. Conditions: at most a million nodes, attributes and kids. -/
import Derived.Test.YteopighhhcikcaaGreatDoorTreeO
import Derived.Laws.MakeOwn
import Derived.Laws.CopyRow
import Derived.Deep.RegionHeld3
/- scrimref05.Same answers true for two lists that hold the same. Conditions: at most a million nodes, attributes and kids. -/
namespace Go.Proofs.YteopighhhcikcaaGreatDoor
open Go.ChangeShapes Go.WideShapes Go.ChangeAt Go.RowKit Go.Shelf
namespace Tre
open Tok
open RowG (Row)
theorem NR.atc {w : World} {B n k : Nat} {A : Option Addr} {ns : List Nd} {nd : Nd} (h : NR w B A n ns) (hk : ns[k]? = some nd) :
    ∃ (ad : Addr) (cA : Option Addr) (cc : Nat) (cK : Option Addr) (cd : Nat), A = some ad ∧ ad.block < B ∧ w.cell? (ad.add (k * 5)) = some (.int .i64 nd.parent) ∧ w.cell? ⟨(ad.add (k * 5)).block, (ad.add (k * 5)).off + 1, none⟩ = some (.string (toB nd.tag)) ∧
      w.cell? ⟨(ad.add (k * 5)).block, (ad.add (k * 5)).off + 2, none⟩ = some (.string (toB nd.text)) ∧ w.cell? ⟨(ad.add (k * 5)).block, (ad.add (k * 5)).off + 3, none⟩ = some (.slice cA nd.attrs.length cc) ∧ w.cell? ⟨(ad.add (k * 5)).block, (ad.add (k * 5)).off + 4, none⟩ = some (.slice cK nd.kids.length cd) ∧
      Reads w B 2 cA nd.attrs.length (nd.attrs.flatMap atC) ∧ Reads w B 1 cK nd.kids.length (nd.kids.flatMap kidC) ∧ nd.attrs.length ≤ cc := by
  have hl := h.len
  obtain ⟨cs, h1, h2, h3⟩ := h
  have hkl := (List.getElem?_eq_some_iff.1 hk).1
  obtain ⟨c, hc⟩ : ∃ c, cs[k]? = some c := ⟨_, List.getElem?_eq_getElem (by omega)⟩
  obtain ⟨q1, q2, q3, ⟨q4, q5⟩, q6, q7, q8⟩ := h3 k c nd hc hk
  obtain ⟨ad, e, hb, e0, e1, e2, e3, e4⟩ := nod_of h1 hc
  rw [q1] at e0
  rw [q2] at e1
  rw [q3] at e2
  rw [q4] at e3 q5 q8
  rw [q6] at e4 q7
  exact ⟨ad, c.A, c.c, c.K, c.d, e, hb, e0, e1, e2, e3, e4, q5, q7, q8⟩
theorem NR.at_ {w : World} {B n k : Nat} {A : Option Addr} {ns : List Nd} {nd : Nd} (h : NR w B A n ns) (hk : ns[k]? = some nd) :
    ∃ (ad : Addr) (cA : Option Addr) (cc : Nat) (cK : Option Addr) (cd : Nat), A = some ad ∧ ad.block < B ∧ w.cell? (ad.add (k * 5)) = some (.int .i64 nd.parent) ∧ w.cell? ⟨(ad.add (k * 5)).block, (ad.add (k * 5)).off + 1, none⟩ = some (.string (toB nd.tag)) ∧
      w.cell? ⟨(ad.add (k * 5)).block, (ad.add (k * 5)).off + 2, none⟩ = some (.string (toB nd.text)) ∧ w.cell? ⟨(ad.add (k * 5)).block, (ad.add (k * 5)).off + 3, none⟩ = some (.slice cA nd.attrs.length cc) ∧ w.cell? ⟨(ad.add (k * 5)).block, (ad.add (k * 5)).off + 4, none⟩ = some (.slice cK nd.kids.length cd) ∧
      Reads w B 2 cA nd.attrs.length (nd.attrs.flatMap atC) ∧ Reads w B 1 cK nd.kids.length (nd.kids.flatMap kidC) := by
  obtain ⟨ad, cA, cc, cK, cd, e, hb, e0, e1, e2, e3, e4, q5, q7, -⟩ := h.atc hk
  exact ⟨ad, cA, cc, cK, cd, e, hb, e0, e1, e2, e3, e4, q5, q7⟩
theorem kid_of {w : World} {B n k : Nat} {A : Option Addr} {l : List Int} {x : Int} (h : Reads w B 1 A n (l.flatMap kidC)) (hk : l[k]? = some x) : ∃ ad, A = some ad ∧ ad.block < B ∧ w.cell? (ad.add k) = some (.int .i64 x) := by
  have hl : l.length = n := by have := h.1; rw [flat_len kidC_len] at this; omega
  have hkl := (List.getElem?_eq_some_iff.1 hk).1
  obtain ⟨ad, e, hb, hc⟩ := h.2 (by omega)
  have := hc _ _ (flat_at kidC_len l k x 0 hk (by decide))
  rw [Nat.mul_one, Nat.add_zero] at this
  exact ⟨ad, e, hb, this⟩
set_option maxRecDepth 100000 in
set_option maxHeartbeats 16000000 in
theorem same_yes (A : Option Addr) (n c : Nat) (A2 : Option Addr) (c2 : Nat) (ns : List Nd) (hn : n ≤ 1000000) (hm : ∀ nd ∈ ns, nd.attrs.length ≤ 1000000 ∧ nd.kids.length ≤ 1000000) (w : World) (h1 : NR w w.heap.size A n ns) (h2 : NR w w.heap.size A2 n ns) :
    Calls Tryz.prog 32 #[.slice A n c, .slice A2 n c2] w fun e w' => e = .returned (.bool true) ∧ Below w.heap.size w w' := by
  have HL := Lib.hid h1.len
  have HM := Lib.hid hm
  clear hm
  go_enter Tryz.func32, Tryz.ntmps32
  go_wp2
  go_loopw [5] (fun iv wr => ∃ k : Nat, k ≤ n ∧ iv = .int .i64 k ∧ Below w.heap.size w wr) (fun iv _ => n - (intOf iv).toNat)
  case atStart => exact ⟨0, Nat.zero_le _, rfl, Below.refl _ _⟩
  case round =>
    obtain ⟨k, hk, rfl, hBr⟩ := hrel
    by_cases hlt : k < n
    · obtain ⟨nd, hnd⟩ : ∃ nd, ns[k]? = some nd := ⟨_, List.getElem?_eq_getElem (by rw [HL.out]; exact hlt)⟩
      have hmm := HM.out nd (List.mem_of_getElem? hnd)
      have g1 := h1.below hBr (Nat.le_refl _)
      have g2 := h2.below hBr (Nat.le_refl _)
      obtain ⟨ad, cA, cc, cK, cd, rfl, hb, e0, e1, e2, e3, e4, r1, r2⟩ := g1.at_ hnd
      obtain ⟨ad', cA', cc', cK', cd', rfl, hb', e0', e1', e2', e3', e4', r1', r2'⟩ := g2.at_ hnd
      have cat := fun q => sameAttrs_any cA nd.attrs.length cc nd.attrs cA' nd.attrs.length cc' nd.attrs hmm.1 (wr.drewN q) w.heap.size r1 r1'
      rw [decide_eq_true rfl] at cat
      have hw := hBr.size
      obtain ⟨M, hMe⟩ : ∃ M, M = nd.kids.length := ⟨_, rfl⟩
      have HMK := Lib.hid hMe
      have hMl : M ≤ 1000000 := by rw [hMe]; exact hmm.2
      rw [← hMe] at e4 e4' r2 r2'
      have hadr : (ad.add (k * 5)).block < wr.heap.size := by rw [block_of_add]; omega
      have hadr' : (ad'.add (k * 5)).block < wr.heap.size := by rw [block_of_add]; omega
      have HND := Lib.hid hnd
      generalize nd.attrs.length = mA at *
      clear hMe hmm hnd g1 g2 r1 r1'
      generalize toB nd.tag = tg at *
      generalize toB nd.text = tx at *
      generalize nd.parent = pp at *
      have csa : ∀ W, (∃ q, W = wr.drewN q) → Calls Tryz.prog 56 #[.slice cA mA cc, .slice cA' mA cc'] W fun e w' => e = .returned (.bool true) ∧ ∃ q, w' = W.drewN q := by
        rintro W ⟨q, rfl⟩
        exact cat q
      go_wp2
      go_quiet ((go_at_call 56; exact Calls.quiet_of (csa _ ⟨_, rfl⟩)))
      have f4 : (wr.drewN nq).cell? ⟨(ad.add (k * 5)).block, (ad.add (k * 5)).off + 4, none⟩ = some (.slice cK M cd) := e4
      have f4' : (wr.drewN nq).cell? ⟨(ad'.add (k * 5)).block, (ad'.add (k * 5)).off + 4, none⟩ = some (.slice cK' M cd') := e4'
      have s2 : Reads (wr.drewN nq) w.heap.size 1 cK M (nd.kids.flatMap kidC) := r2
      have s2' : Reads (wr.drewN nq) w.heap.size 1 cK' M (nd.kids.flatMap kidC) := r2'
      have hB2 : Below w.heap.size w (wr.drewN nq) := below_dr hBr nq
      have hb2 : (ad.add (k * 5)).block < (wr.drewN nq).heap.size := hadr
      have hb2' : (ad'.add (k * 5)).block < (wr.drewN nq).heap.size := hadr'
      clear e0 e1 e2 e3 e4 e0' e1' e2' e3' e4' r2 r2' cat csa hBr hadr hadr' hw
      generalize wr.drewN nq = W2 at *
      go_wp2
      go_loopw [6] (fun jv wj => ∃ j : Nat, j ≤ M ∧ jv = .int .i64 j ∧ Below W2.heap.size W2 wj) (fun jv _ => M - (intOf jv).toNat)
      case atStart => exact ⟨0, Nat.zero_le _, rfl, Below.refl _ _⟩
      case round =>
        obtain ⟨j, hj, rfl, hBj⟩ := hrel
        have hBw := hBj.mono hB2.size
        by_cases hjm : j < M
        · obtain ⟨x, hx⟩ : ∃ x, nd.kids[j]? = some x := ⟨_, List.getElem?_eq_getElem (by rw [← HMK.out]; exact hjm)⟩
          obtain ⟨ka, rfl, -, kx⟩ := kid_of (s2.below hBw) hx
          obtain ⟨ka', rfl, -, kx'⟩ := kid_of (s2'.below hBw) hx
          have n4 := (hBj.cell (p := ⟨(ad.add (k * 5)).block, (ad.add (k * 5)).off + 4, none⟩) hb2).trans f4
          have n4' := (hBj.cell (p := ⟨(ad'.add (k * 5)).block, (ad'.add (k * 5)).off + 4, none⟩) hb2').trans f4'
          have hji : (j : Int) < (M : Int) := by omega
          have hj0 : (0 : Int) ≤ (j : Int) := Int.natCast_nonneg _
          have hki : (k : Int) < (n : Int) := by omega
          have hk0 : (0 : Int) ≤ (k : Int) := Int.natCast_nonneg _
          clear hx f4 f4' s2 s2' hBw
          go_wp2
          go_quiet (fail)
          go_wp2
          go_roundw
          case rel => exact ⟨j + 1, by omega, by go_num, below_dr hBj nq⟩
          case measure => simp [intOf]; omega
        · obtain rfl : j = M := by omega
          have n4 := (hBj.cell (p := ⟨(ad.add (k * 5)).block, (ad.add (k * 5)).off + 4, none⟩) hb2).trans f4
          go_wp2
          go_roundw
          case rel => exact ⟨k + 1, by omega, by go_num, below_next hB2 hBj⟩
          case measure => simp [intOf]; omega
    · obtain rfl : k = n := by omega
      go_wp2
      go_ret
      exact ⟨rfl, hBr⟩
end Tre
end Go.Proofs.YteopighhhcikcaaGreatDoor
/- tree.Copy answers a document of its own. Conditions: at most a million nodes. -/
namespace Go.Proofs.YteopighhhcikcaaGreatDoor
open Go.ChangeShapes Go.WideShapes Go.ChangeAt Go.RowKit Go.Shelf
namespace Tre
open Tok
open RowG (Row)
theorem make_nodes (n : Nat) (hn : n ≤ 1000000) : ∃ Z : Array Value, Z.size = n * 5 ∧ ∀ w : World, (Instr.makeSlice 46 (.int .i64 (n : Int)) (.int .i64 (n : Int))).run Tryz.prog w = .ok (.slice (some ⟨w.heap.size, 0, none⟩) n n) (w.alloc (.cells Z 54)) := by
  obtain ⟨i0, hi0, hz0, hz1, hz2⟩ := info_parts info_node
  refine ⟨madeCells (Value.agg #[.int .i64 0, .string ⟨#[]⟩, .string ⟨#[]⟩, .slice none 0 0, .slice none 0 0]).cells (n * 5), by simp [madeCells], fun w => ?_⟩
  have h := run_make (P := Tryz.prog) w 46 54 i0 _ Tryz.underlying46 hi0 hz0 .i64 .i64 n n (by omega) (by omega) (by rw [hz2]; omega) (by omega)
  rw [hz1] at h
  simp only [Int.toNat_natCast] at h
  exact h
set_option maxRecDepth 100000 in
theorem copy_nodes (w : World) (X n c : Nat) (A : Option Addr) (Z : Array Value) (hZ : Z.size = n * 5) (hX : w.heap[X]? = some (.cells Z 54 (0, 0))) (cs : List Value) (B : Nat) (hr : Reads w B 5 A n cs) (h1 : ∀ v ∈ cs, v.oneCell' = true) :
    ∃ w', (∀ ty, (Builtin.copy_ #[46, 46] ty #[.slice (some ⟨X, 0, none⟩) n n, .slice A n c]).run Tryz.prog w = .ok (goInt n) w') ∧ w'.heap[X]? = some (.cells cs.toArray 54 (0, 0)) ∧ Below X w w' := by
  obtain ⟨i0, hi0, hz0, hz1, hz2⟩ := info_parts info_node
  have hu := run_underlying (P := Tryz.prog) Tryz.underlying46
  have hl5 := hr.1
  cases A with
  | none =>
    have h0 : n = 0 := by
      rcases Nat.eq_zero_or_pos n with h | h
      · exact h
      · obtain ⟨ad, e, -⟩ := hr.2 h; cases e
    subst h0
    obtain rfl : cs = [] := List.eq_nil_of_length_eq_zero (by omega)
    obtain rfl : Z = #[] := Array.eq_empty_of_size_eq_zero (by omega)
    refine ⟨w, fun ty => ?_, hX, Below.refl _ _⟩
    simp [Builtin.copy_, hu, Builtin.lenOf, Builtin.firstCells, sizeOf, typeInfo, hi0, storeCells]
  | some ad =>
    have hc : ∀ j v, cs[j]? = some v → w.cell? (ad.add j) = some v := by
      intro j v hv
      rcases Nat.eq_zero_or_pos n with h | h
      · subst h
        obtain rfl : cs = [] := List.eq_nil_of_length_eq_zero (by omega)
        simp at hv
      · obtain ⟨ad', e, -, hcc⟩ := hr.2 h
        injection e with e
        subst e
        exact hcc j v hv
    have hl := run_loadCells_list (P := Tryz.prog) w ad cs hc
    have hst := run_storeCells_from (P := Tryz.prog) X 54 cs 0 Z w hX (by omega) h1
    rw [List.take_zero, List.nil_append] at hst
    refine ⟨w.setRow X cs.toArray, fun ty => ?_, setRow_heap w X Z cs.toArray _ _ hX, Below.refl X w |>.trans ⟨rfl, rfl, rfl, by simp [World.setRow], fun k hk => setRow_other w X k _ (by omega)⟩⟩
    simp [Builtin.copy_, hu, Builtin.lenOf, Builtin.firstCells, sizeOf, typeInfo, hi0, hz1, ← hl5, hl, hst]
theorem wpList_copy_eq {P : Program} {ops : Array Oper} {rest : List Oper} {o : Oper} {a : Act} {w : World} {Q : Exit → Act → World → Prop} (hgd : o.guard = none) (s x : Operand) (t u : TypeId)
    (ho : o.op = .call { callee := .builtin .copy, args := #[s, x], argTypes := #[t, u] }) (v1 v2 vr : Value) (w' : World) (hs : a.eval s = v1) (hx : a.eval x = v2)
    (hrun : (Builtin.copy_ #[t, u] o.type #[v1, v2]).run P w = .ok vr w') (h : wpList P ops Q rest (a.put o.dst vr) w') : wpList P ops Q (o :: rest) a w :=
  wpList_plain hgd fun _ hK => by
    unfold Oper.wp execOp
    simp only [ho, resolve, invoke, builtin, Sem.run_bind, Sem.run_pure, Result.andThen_ok, List.map_toArray, List.map_cons, List.map_nil, hs, hx, hrun]
    exact hK _ _ h
/-- While a document is copied: the first k nodes have attributes and kids of their own. -/
def CpR (w : World) (base X n : Nat) (cs0 : List NC) (ns : List Nd) (k : Nat) : Prop := ∃ cs : List NC, Row w base 54 5 ncC (.slice (some ⟨X, 0, none⟩) n n) cs ∧ cs.length = cs0.length ∧
  (∀ (i : Nat) (c : NC), cs[i]? = some c → ∃ c0, cs0[i]? = some c0 ∧ c.p = c0.p ∧ c.t = c0.t ∧ c.x = c0.x ∧ (k ≤ i → c = c0)) ∧
  (∀ (i : Nat) (c : NC) (nd : Nd), cs[i]? = some c → ns[i]? = some nd → i < k → Row w base 41 2 atC (atV c) nd.attrs ∧ Row w base 3 1 kidC (kidV c) nd.kids)
theorem CpR.next {w w' : World} {base X n k : Nat} {cs0 : List NC} {ns : List Nd} (h : CpR w base X n cs0 ns k) (hb : Below w.heap.size w w') : CpR w' base X n cs0 ns k := by
  obtain ⟨cs, h1, h2, h3, h4⟩ := h
  exact ⟨cs, h1.below hb, h2, h3, fun i c nd a b d => ⟨(h4 i c nd a b d).1.below hb, (h4 i c nd a b d).2.below hb⟩⟩
theorem CpR.more {w : World} {base X n k : Nat} {cs0 : List NC} {ns : List Nd} {nd : Nd} {A K : Option Addr} {m c kn d : Nat} (h : CpR w base X n cs0 ns k) (hk : k < cs0.length) (hn : ns[k]? = some nd) (ha : Row w base 41 2 atC (.slice A m c) nd.attrs) (hkd : Row w base 3 1 kidC (.slice K kn d) nd.kids) :
    CpR ((w.setCell ⟨X, k * 5 + 3, none⟩ (.slice A m c)).setCell ⟨X, k * 5 + 4, none⟩ (.slice K kn d)) base X n cs0 ns (k + 1) := by
  obtain ⟨cs, h1, h2, h3, h4⟩ := h
  obtain ⟨e, he⟩ : ∃ e, cs[k]? = some e := ⟨_, List.getElem?_eq_getElem (by omega)⟩
  obtain ⟨X1, hX1, -, ⟨cur1, hb1⟩, hr1⟩ := row_cell (i := k) (j := 3) (x := e) (y := { e with A := A, m := m, c := c }) ncC_len h1 he (by decide) (u := .slice A m c) rfl
  obtain rfl : X = X1 := by injection hX1 with h; injection h
  have he2 : (cs.set k { e with A := A, m := m, c := c })[k]? = some { e with A := A, m := m, c := c } := by rw [List.getElem?_set_self (by omega)]
  obtain ⟨X2, hX2, -, ⟨cur2, hb2⟩, hr2⟩ := row_cell (i := k) (j := 4) (x := { e with A := A, m := m, c := c }) (y := { e with A := A, m := m, c := c, K := K, n := kn, d := d }) ncC_len hr1 he2 (by decide) (u := .slice K kn d) rfl
  obtain rfl : X = X2 := by injection hX2 with h; injection h
  rw [List.set_set] at hr2
  have kt : ∀ t, 54 ≠ t → KT w ((w.setCell ⟨X, k * 5 + 3, none⟩ (.slice A m c)).setCell ⟨X, k * 5 + 4, none⟩ (.slice K kn d)) t := fun t ht => (KT.set hb1 ht _ _).trans (KT.set hb2 ht _ _)
  refine ⟨_, hr2, by rw [List.length_set]; exact h2, ?_, ?_⟩
  · intro i f hf
    rcases getset hf with ⟨e1, rfl, -⟩ | ⟨e1, hf⟩
    · subst e1
      obtain ⟨c0, q0, q1, q2, q3, -⟩ := h3 k e he
      exact ⟨c0, q0, q1, q2, q3, fun h => by omega⟩
    · obtain ⟨c0, q0, q1, q2, q3, q4⟩ := h3 i f hf
      exact ⟨c0, q0, q1, q2, q3, fun h => q4 (by omega)⟩
  · intro i f m0 hf hm hi
    rcases getset hf with ⟨e1, rfl, -⟩ | ⟨e1, hf⟩
    · subst e1
      rw [hn] at hm
      injection hm with hm
      subst hm
      exact ⟨row_kt ha (kt _ (by decide)), row_kt hkd (kt _ (by decide))⟩
    · obtain ⟨r1, r2⟩ := h4 i f m0 hf hm (by omega)
      exact ⟨row_kt r1 (kt _ (by decide)), row_kt r2 (kt _ (by decide))⟩
theorem CpR.nr {w : World} {base X n : Nat} {cs0 : List NC} {ns : List Nd} (h : CpR w base X n cs0 ns n) (hl : cs0.length = ns.length) (hn : ns.length = n) (h0 : ∀ (i : Nat) (c : NC) (nd : Nd), cs0[i]? = some c → ns[i]? = some nd → c.p = nd.parent ∧ c.t = toB nd.tag ∧ c.x = toB nd.text) : NR w w.heap.size (some ⟨X, 0, none⟩) n ns := by
  obtain ⟨cs, h1, h2, h3, h4⟩ := h
  obtain ⟨hr, hq⟩ := h1.reads
  refine ⟨cs, by rw [hq]; exact hr, by omega, fun i c nd hc hnd => ?_⟩
  obtain ⟨c0, q0, q1, q2, q3, -⟩ := h3 i c hc
  obtain ⟨p1, p2, p3⟩ := h0 i c0 nd q0 hnd
  have hi := (List.getElem?_eq_some_iff.1 hnd).1
  obtain ⟨r1, r2⟩ := h4 i c nd hc hnd (by omega)
  obtain ⟨s1, s2⟩ := r1.reads
  obtain ⟨s3, s4⟩ := r2.reads
  exact ⟨by rw [q1, p1], by rw [q2, p2], by rw [q3, p3], ⟨s2, by rw [s2]; exact s1⟩, s4, by rw [s4]; exact s3, row_cap r1⟩
end Tre
end Go.Proofs.YteopighhhcikcaaGreatDoor
namespace Go.Proofs.YteopighhhcikcaaGreatDoor
open Go.ChangeShapes Go.WideShapes Go.ChangeAt Go.RowKit Go.Shelf
namespace Tre
open Tok
open RowG (Row)
theorem ad_off3 (b i : Nat) : (⟨((⟨b, 0, none⟩ : Addr).add (i * 5)).block, ((⟨b, 0, none⟩ : Addr).add (i * 5)).off + 3, none⟩ : Addr) = ⟨b, i * 5 + 3, none⟩ := by rw [add_zero_]
set_option maxRecDepth 100000 in
set_option maxHeartbeats 16000000 in
theorem copy_any (A : Option Addr) (n c : Nat) (ns : List Nd) (hn : n ≤ 1000000) (hm : ∀ nd ∈ ns, nd.attrs.length ≤ 900000 ∧ nd.kids.length ≤ 900000) (w : World) (h : NR w w.heap.size A n ns) :
    Calls Tryz.prog 46 #[.slice A n c] w fun e w' => ∃ A' c', e = .returned (.slice A' n c') ∧ NR w' w'.heap.size A' n ns ∧ Below w.heap.size w w' := by
  have HL := Lib.hid h.len
  have HM := Lib.hid hm
  obtain ⟨Z, hZ, hmk⟩ := make_nodes n hn
  obtain ⟨cs0, hr0, hl0, hall0⟩ := h
  have hw1 := heap_alloc_new w (.cells Z 54)
  have hb1 := below_al (Below.refl w.heap.size w) (.cells Z 54)
  obtain ⟨w2, hcp, hX2, hb2⟩ := copy_nodes (w.alloc (.cells Z 54)) w.heap.size n c A Z hZ hw1 _ w.heap.size (hr0.below hb1) (flat_one ncC_one cs0)
  have hB2 : Below w.heap.size w w2 := hb1.trans hb2
  have hls : cs0.length = n := by rw [hl0]; exact HL.out
  have hrow : Row w2 w.heap.size 54 5 ncC (.slice (some ⟨w.heap.size, 0, none⟩) n n) cs0 := ⟨by rw [flat_len ncC_len], .inr ⟨w.heap.size, n, _, by rw [hls], Nat.le_refl _, hX2, by omega, by simp only [maxLen]; omega, by rw [List.size_toArray, flat_len ncC_len, hls], by rw [← flat_len ncC_len, List.take_length]⟩⟩
  have hC0 : CpR w2 w.heap.size w.heap.size n cs0 ns 0 := ⟨cs0, hrow, rfl, fun i c hc => ⟨c, hc, rfl, rfl, rfl, fun _ => rfl⟩, fun i c nd _ _ h => absurd h (Nat.not_lt_zero _)⟩
  have HALL := Lib.hid hall0
  have HL0 := Lib.hid hl0
  have HLS := Lib.hid hls
  clear hm hr0 hl0 hall0 hw1 hX2 hrow hZ hls
  go_enter Tryz.func46, Tryz.ntmps46
  go_wp2_with (at_builtin; go_loud (refine wpList_copy_eq (by rfl) _ _ 46 46 (by rfl) (.slice (some ⟨w.heap.size, 0, none⟩) n n) (.slice A n c) (.int .i64 (n : Int)) _ (by rfl) (by rfl) (hcp _) ?_))
  clear hcp hmk hb1 hb2
  obtain ⟨X, hXe⟩ : ∃ X, X = w.heap.size := ⟨_, rfl⟩
  rw [← hXe] at hC0 ⊢
  have hXw : w.heap.size ≤ X := Nat.le_of_eq hXe.symm
  clear hXe
  go_loopw [14] (fun iv wr => ∃ k : Nat, k ≤ n ∧ iv = .int .i64 k ∧ CpR wr X X n cs0 ns k ∧ Below w.heap.size w wr) (fun iv _ => n - (intOf iv).toNat)
  case atStart => exact ⟨0, Nat.zero_le _, rfl, hC0, hB2⟩
  case round =>
    obtain ⟨k, hk, rfl, hC, hBr⟩ := hrel
    clear hC0 hB2
    by_cases hlt : k < n
    · obtain ⟨nd, hnd⟩ : ∃ nd, ns[k]? = some nd := ⟨_, List.getElem?_eq_getElem (by rw [HL.out]; exact hlt)⟩
      have hmm := HM.out nd (List.mem_of_getElem? hnd)
      have hC' := hC
      obtain ⟨cs, q1, q2, q3, q4⟩ := hC'
      obtain ⟨e, he⟩ : ∃ e, cs[k]? = some e := ⟨_, List.getElem?_eq_getElem (by rw [q2, HLS.out]; exact hlt)⟩
      obtain ⟨c0, hc0, -, -, -, hec⟩ := q3 k e he
      obtain rfl := hec (Nat.le_refl _)
      obtain ⟨-, -, -, ⟨hm1, hm2⟩, hk1, hk2, -⟩ := HALL.out k e nd hc0 hnd
      obtain ⟨ad, hade, hadb, e0, e1, e2, e3, e4⟩ := nod_of q1.reads.1 he
      have had : ad = ⟨X, 0, none⟩ := by injection hade with h; exact h.symm
      obtain ⟨ep, et, ex, eA, em, ec, eK, en, ed⟩ := e
      simp only at hm1 hm2 hk1 hk2 e0 e1 e2 e3 e4
      subst hm1 hk1
      rw [had, add_zero_] at e0 e1 e2 e3 e4
      dsimp only at e1 e2 e3 e4
      have hXr : X < wr.heap.size := by rw [had] at hadb; exact hadb
      have hki : (k : Int) < (n : Int) := by omega
      have hk0 : (0 : Int) ≤ (k : Int) := Int.natCast_nonneg _
      have KY := Blk.new wr 54 #[.int .i64 ep, .string et, .string ex, .slice eA nd.attrs.length ec, .slice eK nd.kids.length ed]
      have hC1 := hC.next (below_al (Below.refl wr.heap.size wr) (.cells #[.int .i64 ep, .string et, .string ex, .slice eA nd.attrs.length ec, .slice eK nd.kids.length ed] 54))
      have hB1 := below_al hBr (.cells #[.int .i64 ep, .string et, .string ex, .slice eA nd.attrs.length ec, .slice eK nd.kids.length ed] 54)
      have hz1 : (wr.alloc (.cells #[.int .i64 ep, .string et, .string ex, .slice eA nd.attrs.length ec, .slice eK nd.kids.length ed] 54)).heap.size = wr.heap.size + 1 := size_al _ _
      have HND := Lib.hid hnd
      have HC0 := Lib.hid hc0
      clear q1 q2 q3 q4 he hec had hade hadb hnd hc0 hC
      go_upto_region 6 with (fail)
      generalize wr.alloc (.cells #[.int .i64 ep, .string et, .string ex, .slice eA nd.attrs.length ec, .slice eK nd.kids.length ed] 54) = W1 at *
      have hC1d : CpR W1.drew X X n cs0 ns k := hC1.next (Below.refl W1.heap.size W1).drew
      have ca := cloneA_any eA nd.attrs.length ec nd.attrs (by omega) W1.drew ((hm2.below hB1).more (show w.heap.size ≤ W1.drew.heap.size from hB1.size))
      have hXw1 : X ≤ W1.heap.size := by omega
      have KYd : Blk W1.drew wr.heap.size 54 #[.int .i64 ep, .string et, .string ex, .slice eA nd.attrs.length ec, .slice eK nd.kids.length ed] := KY
      have hXY : wr.heap.size ≠ X := by omega
      first
      | (go_region_held3 (fun W' => W'.cell? ⟨wr.heap.size, 3, none⟩ = some (.slice eA nd.attrs.length ec) ∧ W'.cell? ⟨wr.heap.size, 4, none⟩ = some (.slice eK nd.kids.length ed))
          (first | (with_reducible assumption) | exact ⟨KYd.cell 3, KYd.cell 4⟩ | exact ⟨KY2.cell 3, KY2.cell 4⟩ | exact ⟨KY3.cell 3, KY3.cell 4⟩ | exact ⟨KY4.cell 3, KY4.cell 4⟩ | exact ⟨KY5.cell 3, KY5.cell 4⟩)
          (first
            | (go_at_call 81; (with_reducible refine ca.mono ?_); rintro e w3 ⟨v3, rfl, hrow3, hb3⟩
               obtain ⟨A3, c3, rfl⟩ := hrow3.form
               have KY2 := KYd.next hb3
               have hW3 : Below W1.heap.size W1 w3 := (Below.refl W1.heap.size W1).drew.trans hb3
               have ck := cloneI_any eK nd.kids.length ed nd.kids (by omega) w3 ((hk2.below (below_next hB1 hW3)).more (below_next hB1 hW3).size))
            | (go_at_call 82; (with_reducible refine ck.mono ?_); rintro e w4 ⟨v4, rfl, hrow4, hb4⟩
               obtain ⟨A4, c4, rfl⟩ := hrow4.form
               have KY3 := KY2.next hb4
               have hW4 := below_next hW3 hb4
               have hC4 := hC1.next hW4
               have hC4' := hC4
               obtain ⟨cs4, p1, p2, p3, p4⟩ := hC4'
               obtain ⟨e4', he4'⟩ : ∃ e, cs4[k]? = some e := ⟨_, List.getElem?_eq_getElem (by rw [p2, HLS.out]; exact hlt)⟩
               obtain ⟨ad4, hade4, -, -, -, -, g3, g4⟩ := nod_of p1.reads.1 he4'
               have had4 : ad4 = ⟨X, 0, none⟩ := by injection hade4 with h; exact h.symm
               rw [had4, add_zero_] at g3 g4
               dsimp only at g3 g4
               clear had4 hade4
               have fX := row_frozen p1 (k * 5 + 3)
               have fX4 := row_frozen p1 (k * 5 + 4)
               have KY4 := KY3.far (p := ⟨X, k * 5 + 3, none⟩) hXY (.slice A3 nd.attrs.length c3)
               have KY5 := KY4.far (p := ⟨X, k * 5 + 4, none⟩) hXY (.slice A4 nd.kids.length c4)
               have hCm := hC4.more (by rw [HLS.out]; exact hlt) HND.out (row_less2 (row_kt hrow3 (.below hb4 _)) hXw1) (row_less2 hrow4 (Nat.le_trans hXw1 hW3.size)))))
      | (fail)
      all_goals
        go_wp2
        go_roundw
        case rel => exact ⟨k + 1, by omega, by go_num, hCm, below_set (below_set (below_next hB1 hW4) (p := ⟨X, k * 5 + 3, none⟩) hXw _) (p := ⟨X, k * 5 + 4, none⟩) hXw _⟩
        case measure => simp [intOf]; omega
    · obtain rfl : k = n := by omega
      have hN := hC.nr HL0.out HL.out (fun i c nd a b => ⟨(HALL.out i c nd a b).1, (HALL.out i c nd a b).2.1, (HALL.out i c nd a b).2.2.1⟩)
      go_wp2
      go_ret
      exact ⟨_, _, rfl, hN, hBr⟩
end Tre
end Go.Proofs.YteopighhhcikcaaGreatDoor
