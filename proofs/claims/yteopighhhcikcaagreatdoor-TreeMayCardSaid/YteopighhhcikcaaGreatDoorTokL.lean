/- Layer 4's own and the literal rows of the reference's tokens, each told apart by where it lies. Conditions: the lists lie in memory. -/
import Derived.Test.YteopighhhcikcaaGreatDoorTokJ
namespace Go.Proofs.YteopighhhcikcaaGreatDoor
open Go.ChangeShapes Go.WideShapes Go.ChangeAt Go.RowKit
namespace Tok
open RowG (Row)
/-- A list of tokens in a row of the call's own, not below base; the lists of attributes lie below B. -/
def TR2 (w : World) (base B : Nat) (v : Value) (cs : List TC) (ts : List T) : Prop := Row w base 42 4 tcC v cs ∧ cs.length = ts.length ∧ ∀ (i : Nat) (c : TC) (t : T), cs[i]? = some c → ts[i]? = some t → TcR w B c t
theorem TR2.next {w w' : World} {base B : Nat} {v : Value} {cs : List TC} {ts : List T} (h : TR2 w base B v cs ts) (hb : Below w.heap.size w w') (hB : B ≤ w.heap.size) : TR2 w' base B v cs ts :=
  ⟨h.1.below hb, h.2.1, fun i c t hc ht => (h.2.2 i c t hc ht).below (hb.mono hB) (Nat.le_refl _)⟩
/-- A row that grows elsewhere. -/
theorem TR2.aside {w w' : World} {base B : Nat} {v : Value} {cs : List TC} {ts : List T} {row : Option Nat} (h : TR2 w base B v cs ts) (hg : w.grownBy w' row) (hr : ∀ k, row = some k → B ≤ k ∧ k < base) (hB : B ≤ w.heap.size) : TR2 w' base B v cs ts := by
  refine ⟨World.ownsRow.kept h.1 hg ?_, h.2.1, fun i c t hc ht => (h.2.2 i c t hc ht).below ((Below.refl B w).grown hg hB (fun k hk => (hr k hk).1)) (Nat.le_refl _)⟩
  cases hv : v.ownBlock with
  | none => exact .inl rfl
  | some k =>
    refine .inr (fun e => ?_)
    have h1 := (World.ownsRow.lt h.1 k hv).1
    have h2 := (hr k e.symm).2
    omega
theorem TR2.tr {w : World} {base B : Nat} {v : Value} {cs : List TC} {ts : List T} (h : TR2 w base B v cs ts) (hB : B ≤ w.heap.size) : ∃ A c, v = .slice A ts.length c ∧ TR w w.heap.size A ts.length ts := by
  obtain ⟨h1, h2, h3⟩ := h
  obtain ⟨A, c, rfl⟩ := h1.form
  exact ⟨A, c, by rw [h2], cs, by rw [← h2]; exact h1.reads.1, h2, fun i c t hc ht => (h3 i c t hc ht).below (Below.refl _ _) hB⟩
/-- One more token at the end. -/
theorem TR2.snoc {w : World} {base B : Nat} {v v' : Value} {cs : List TC} {ts : List T} {w' : World} {c : TC} {t : T} (h : TR2 w base B v cs ts) (hrow : Row w' base 42 4 tcC v' (cs ++ [c])) (hg : w.grownBy w' v.ownBlock) (hbase : B ≤ base) (hB : B ≤ w.heap.size) (hc : TcR w B c t) : TR2 w' base B v' (cs ++ [c]) (ts ++ [t]) := by
  have hb : Below B w w' := (Below.refl B w).grown hg hB (fun k hk => Nat.le_trans hbase (World.ownsRow.lt h.1 k hk).1)
  refine ⟨hrow, by rw [List.length_append, List.length_append, h.2.1]; rfl, ?_⟩
  intro i c' t' hc' ht'
  by_cases hi : i < cs.length
  · rw [List.getElem?_append_left hi] at hc'
    rw [List.getElem?_append_left (by rw [← h.2.1]; exact hi)] at ht'
    exact (h.2.2 i c' t' hc' ht').below hb (Nat.le_refl _)
  · have hi2 : i < (cs ++ [c]).length := (List.getElem?_eq_some_iff.1 hc').1
    rw [List.length_append, List.length_singleton] at hi2
    obtain rfl : i = cs.length := by omega
    rw [List.getElem?_concat_length] at hc'
    rw [h.2.1, List.getElem?_concat_length] at ht'
    cases hc'; cases ht'
    exact hc.below hb (Nat.le_refl _)
/-- A list of one token, written out. -/
theorem TR2.lit {w : World} {B : Nat} {c : TC} {t : T} (hB : B ≤ w.heap.size) (hc : TcR w B c t) : TR2 (w.alloc (.cells #[.int .i64 c.k, .string c.n, .string c.x, .slice c.A c.m c.c] 42)) w.heap.size B (.slice (some ⟨w.heap.size, 0, none⟩) 1 1) [c] [t] := by
  refine ⟨⟨rfl, .inr ⟨w.heap.size, 1, _, rfl, Nat.le_refl _, heap_alloc_new w _, Nat.le_refl _, by decide, rfl, rfl⟩⟩, rfl, ?_⟩
  intro i c' t' hc' ht'
  cases i with
  | zero => cases hc'; cases ht'; exact hc.below ((Below.refl B w).alloc hB _) (Nat.le_refl _)
  | succ i => simp at hc'
/-- One more struct at the end of a row, where the operation is under a guard that holds. -/
theorem wpList_moreG {α : Type} {P : Program} (w : World) {ops : Array Oper} {rest : List Oper} {o : Oper} {a : Act} {Q : Exit → Act → World → Prop} (hw : Region.wanted o (yielded ops a.tmps) = true) (s x : Operand) (t : TypeId)
    (ho : o.op = .call { callee := .builtin .append, args := #[s, x], argTypes := #[t, t] }) (e : TypeId) (enc : α → List Value) (k bytes : Nat) (z : Value) (hinfo : (P.info? e).map (fun i => (i.zero, i.size, i.bytes)) = some (some z, k, bytes)) (ht : P.underlying t = some (.slice e)) (hz : z.cells.size = k) (hk : 0 < k)
    (henc : ∀ x, (enc x).length = k) (hone : ∀ x, ∀ u ∈ enc x, u.oneCell' = true) (base : Nat) (v : Value) (l : List α) (y : α) (hs : a.eval s = v) (g cp : Nat) (hx : a.eval x = .slice (some ⟨g, 0, none⟩) 1 cp) (hown : Row w base e k enc v l)
    (hc : ∀ (j : Nat) (u : Value), (enc y)[j]? = some u → w.cell? ⟨g, j, none⟩ = some u) (hl : l.length + 1 ≤ maxLen) (hbytes : (l.length + 1) * bytes ≤ 140737488355328) (hbase : base ≤ w.heap.size)
    (h : ∀ v' w', Row w' base e k enc v' (l ++ [y]) → w.grownBy w' v.ownBlock → (v'.ownBlock = v.ownBlock ∨ v'.ownBlock = some w.heap.size) → wpList P ops Q rest (a.put o.dst v') w') : wpList P ops Q (o :: rest) a w := by
  obtain ⟨v', w', hrun, h2, h3, h4⟩ := RowG.run_more (P := P) w t o.type e enc k bytes z hinfo ht hz hk henc hone base v l y hown g cp hc hl hbytes hbase
  exact wpList_step fun _ hK => by
    rw [if_pos hw]
    exact RowG.wp_more w s x t ho v _ hs hx v' w' hrun (hK _ _ (h v' w' h2 h3 h4))
set_option maxRecDepth 100000 in
set_option maxHeartbeats 8000000 in
theorem ownT2_any (A : Option Addr) (n c : Nat) (ts : List T) (hn : n ≤ 1000000) (w : World) (B : Nat) (hBw : B ≤ w.heap.size) (hT : TR w B A n ts) :
    Calls Tryz.prog 19 #[.slice A n c] w fun e w' => ∃ (v : Value) (cs : List TC), e = .returned v ∧ TR2 w' w.heap.size B v cs ts ∧ Below w.heap.size w w' := by
  obtain ⟨cs, hr0, hcl, hall⟩ := hT
  have hr : Reads w w.heap.size 4 A n (cs.flatMap tcC) := hr0.more hBw
  clear hr0
  have hlen : cs.length = n := by have := hr.1; rw [flat_len tcC_len] at this; omega
  have hB0 := below_al (Below.refl w.heap.size w) (.cells #[] 42)
  have hY0 : Row (w.alloc (.cells #[] 42)) w.heap.size 42 4 tcC (.slice (some ⟨w.heap.size, 0, none⟩) 0 0) (cs.take 0) := World.ownsRow_made w #[] 0 (Nat.le_refl _) (Nat.zero_le _) rfl
  have HL := Lib.hid hlen
  have HCL := Lib.hid hcl
  clear hlen hcl
  go_enter Tryz.func19, Tryz.ntmps19
  go_wp2
  go_loopw [3, 9] (fun v i wr => ∃ k : Nat, k ≤ n ∧ i = .int .i64 k ∧ Below w.heap.size w wr ∧ Row wr w.heap.size 42 4 tcC v (cs.take k)) (fun _ i _ => n - (intOf i).toNat)
  case atStart => exact ⟨0, Nat.zero_le _, rfl, hB0, hY0⟩
  case round =>
    obtain ⟨k, hk, rfl, hBr, hY⟩ := hrel
    clear hB0 hY0
    by_cases hlt : k < n
    · have hkl : k < cs.length := by rw [HL.out]; exact hlt
      obtain ⟨r, hrk⟩ : ∃ r, cs[k]? = some r := ⟨_, List.getElem?_eq_getElem hkl⟩
      obtain ⟨ad, rfl, hab, e0, e1, e2, e3⟩ := tok_of (hr.below hBr) hrk
      have htk : cs.take (k + 1) = cs.take k ++ [r] := by rw [List.take_add_one, hrk]; rfl
      have HTK := Lib.hid htk
      have hB2 := below_al hBr (.cells #[.int .i64 r.k, .string r.n, .string r.x, .slice r.A r.m r.c] 38)
      have hY2 := (hY.alloc (.cells #[.int .i64 r.k, .string r.n, .string r.x, .slice r.A r.m r.c] 38)).alloc (.cells #[.int .i64 r.k, .string r.n, .string r.x, .slice r.A r.m r.c] 42)
      have hB3 := below_al hB2 (.cells #[.int .i64 r.k, .string r.n, .string r.x, .slice r.A r.m r.c] 42)
      have hnc := RowG.new_cells (wr.alloc (.cells #[.int .i64 r.k, .string r.n, .string r.x, .slice r.A r.m r.c] 38)) 42 (tcC r)
      rw [size_al] at hnc
      have hll : (cs.take k).length ≤ 1000000 := by rw [List.length_take]; omega
      obtain ⟨A0, c0, hv0⟩ := hY.form
      obtain ⟨M0, hM0⟩ : ∃ M0, M0 = (cs.take k).length := ⟨_, rfl⟩
      rw [← hM0] at hv0
      clear htk hrk hM0
      obtain rfl := hv0
      generalize cs.take k = ck at *
      go_wp2_with (refine RowG.wpList_more _ (by rfl) _ _ 27 (by rfl) 42 tcC 4 64 _ info_rt Tryz.underlying27 rfl (by decide) tcC_len tcC_one w.heap.size _ ck r (by rfl) (wr.heap.size + 1) _ (by rfl) hY2 hnc (by simp only [maxLen]; omega) (by omega) hB3.size ?_
                   intro v5 w5 hrow5 hg5 _)
      go_roundw
      case rel => exact ⟨k + 1, by omega, by go_num, RowG.below_row hB3 hY2 hg5, by rw [HTK.out]; exact hrow5⟩
      case measure => simp [intOf]; omega
    · obtain rfl : k = n := by omega
      have hfull : cs.take k = cs := List.take_of_length_le (by rw [HL.out]; exact Nat.le_refl _)
      rw [hfull] at hY
      obtain ⟨A0, c0, rfl⟩ := hY.form
      go_wp2
      go_ret
      exact ⟨_, cs, rfl, ⟨hY, HCL.out, fun i c t hc ht => (hall i c t hc ht).below (hBr.mono hBw) (Nat.le_refl _)⟩, hBr⟩
end Tok
end Go.Proofs.YteopighhhcikcaaGreatDoor
