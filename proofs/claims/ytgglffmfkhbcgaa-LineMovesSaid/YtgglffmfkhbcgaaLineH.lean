/- Layer 16's laws: own, the document's Same of what is the same, and awake. Conditions: as the theorems' premises say. -/
import Derived.Test.YtgglffmfkhbcgaaLineF
import Derived.Test.YtgglffmfkhbcgaaLineG
namespace Go.Proofs.Ytgglffmfkhbcgaa
open Go.ChangeShapes Go.WideShapes Go.ChangeAt Go.RowKit
theorem reads_now {w : World} {t : TypeId} {size n : Nat} {cs : Array Value} {xs : List Value} (hx : cs.toList = xs) (hn : cs.size = n * size) : Reads (w.alloc (.cells cs t)) (w.alloc (.cells cs t)).heap.size size (some ⟨w.heap.size, 0, none⟩) n xs := by
  subst hx
  exact reads_blk (Blk.new w t cs) (by rw [size_al]; exact Nat.lt_succ_self _) hn
theorem Reads.onward {w w' : World} {size n : Nat} {A : Option Addr} {xs : List Value} (h : Reads w w.heap.size size A n xs) (hb : Below w.heap.size w w') : Reads w' w'.heap.size size A n xs := (h.below hb).more hb.size
theorem Reads.alloc' {w : World} {size n : Nat} {A : Option Addr} {xs : List Value} (h : Reads w w.heap.size size A n xs) (o : Obj) : Reads (w.alloc o) (w.alloc o).heap.size size A n xs := (h.alloc (Nat.le_refl _) o).more (by rw [size_al]; omega)
theorem info_RplO : (Try.prog.info? 52).map (fun i => (i.zero, i.size, i.bytes)) = some (some (.agg #[.int .i64 0, .int .i64 0, .int .i64 0, .int .i64 0, .int .i64 0, .int .i64 0]), 6, 48) := by kernel_rfl
def RplO (w : World) (base : Nat) (v : Value) (l : List Pl) : Prop := w.ownsRow base 52 6 v l.length (flatL l)
theorem RplO.empty (w : World) (base : Nat) (hb : base ≤ w.heap.size) : RplO (w.alloc (.cells #[] 52)) base (.slice (some ⟨w.heap.size, 0, none⟩) 0 0) [] :=
  ⟨rfl, .inr ⟨w.heap.size, 0, #[], rfl, hb, heap_alloc_new w _, Nat.le_refl _, Nat.zero_le _, rfl, rfl⟩⟩
theorem wpList_RplO {ops : Array Oper} {rest : List Oper} {o : Oper} {a : Act} {Q : Exit → Act → World → Prop} (w : World) (hgd : o.guard = none) (s x : Operand)
    (ho : o.op = .call { callee := .builtin .append, args := #[s, x], argTypes := #[53, 53] })
    (base : Nat) (v : Value) (l : List Pl) (i : Pl) (hs : a.eval s = v) (hown : RplO w base v l) (g cp : Nat) (hgq : w.heap.size = g) (hx : a.eval x = .slice (some ⟨g, 0, none⟩) 1 cp) (hl : l.length < 400000000) (hbase : base ≤ w.heap.size)
    (hk : ∀ v' w', RplO w' base v' (l ++ [i]) → (w.alloc (.cells #[.int .i64 i.p, .int .i64 i.n, .int .i64 i.x, .int .i64 i.y, .int .i64 i.w, .int .i64 i.h] 52)).grownBy w' v.ownBlock → wpList Try.prog ops Q rest (a.put o.dst v') w') :
    wpList Try.prog ops Q (o :: rest) a (w.alloc (.cells #[.int .i64 i.p, .int .i64 i.n, .int .i64 i.x, .int .i64 i.y, .int .i64 i.w, .int .i64 i.h] 52)) := by
  subst hgq
  obtain ⟨i0, hi0, hz0, hz1, hz2⟩ := info_parts info_RplO
  refine wpList_append_any _ hgd s x _ ho base 52 i0 _ 6 48 Try.underlying53 hi0 hz0 hz1 hz2 rfl (by omega) v l.length (flatL l) hs (World.ownsRow.alloc hown _) (w.heap.size + 1) (some ⟨w.heap.size, 0, none⟩) 1 cp i.cs hx
    (by have := reads_blk (n := 1) (size := 6) (Blk.new w 52 #[.int .i64 i.p, .int .i64 i.n, .int .i64 i.x, .int .i64 i.y, .int .i64 i.w, .int .i64 i.h]) (Nat.lt_succ_self _) rfl; exact this) (one_PlsO i) (by simp only [maxLen]; omega) (by omega) (by rw [size_al]; omega) ?_
  intro v' w' h2 h3 _
  refine hk v' w' ?_ h3
  show w'.ownsRow base 52 6 v' (l ++ [i]).length (flatL (l ++ [i]))
  rw [snoc_PlsO, List.length_append]
  exact h2
set_option maxHeartbeats 8000000 in
set_option maxRecDepth 100000 in
theorem own16_any (A : Option Addr) (n c : Nat) (l : List Pl) (w : World) (hr : Reads w w.heap.size 6 A n (flatL l)) (hn : n ≤ 1000000) :
    Calls Try.prog 25 #[.slice A n c] w fun e w' => ∃ A' c', e = .returned (.slice A' n c') ∧ Reads w' w'.heap.size 6 A' n (flatL l) ∧ Below w.heap.size w w' := by
  have HL := Lib.hid (len_L hr)
  have hB0 := below_al (Below.refl w.heap.size w) (.cells #[] 52)
  have hY0 := RplO.empty w w.heap.size (Nat.le_refl _)
  go_enter Try.func25, Try.ntmps25
  go_wp2
  go_loopw [9, 3] (fun i s wr => ∃ (k : Nat) (v : Value), k ≤ n ∧ i = .int .i64 k ∧ v = s ∧ Below w.heap.size w wr ∧ RplO wr w.heap.size v (l.take k)) (fun i _ _ => n - (intOf i).toNat)
  case atStart => exact ⟨0, _, Nat.zero_le _, rfl, rfl, hB0, hY0⟩
  case round =>
    obtain ⟨k, v, hk, rfl, rfl, hBr, hY⟩ := hrel
    have hr1 := hr.below hBr
    have hle := hBr.size
    by_cases hlt : k < n
    · obtain ⟨p, hp⟩ : ∃ p, l[k]? = some p := ⟨l[k]'(by rw [HL.out]; exact hlt), List.getElem?_eq_getElem _⟩
      obtain ⟨ad, rfl, hb, e0, e1, e2, e3, e4, e5⟩ := pl_of hr1 hp
      have HS := Lib.hid (show l.take (k + 1) = l.take k ++ [p] by rw [List.take_add_one, hp]; rfl)
      have htl : (l.take k).length ≤ 1000000 := by rw [List.length_take]; omega
      obtain ⟨pp, pn, px, py, pw, ph⟩ := p
      simp only at e0 e1 e2 e3 e4 e5 HS
      have hBa := below_al hBr (.cells #[.int .i64 pp, .int .i64 pn, .int .i64 px, .int .i64 py, .int .i64 pw, .int .i64 ph] 30)
      have hYa : RplO (wr.alloc (.cells #[.int .i64 pp, .int .i64 pn, .int .i64 px, .int .i64 py, .int .i64 pw, .int .i64 ph] 30)) w.heap.size v (l.take k) := World.ownsRow.alloc hY _
      clear hp hr1 hb
      generalize l.take k = xs at *
      go_wp2_with (at_builtin; refine wpList_RplO _ rfl (.tmp 13) (.tmp 15) rfl w.heap.size v xs ⟨pp, pn, px, py, pw, ph⟩ rfl hYa (wr.heap.size + 1) _ (size_al wr _) rfl (by omega) hBa.size ?_; intro v' w' hY' hg
                   have hB' := below_own hBa hYa hg
                   clear hg)
      go_roundw
      case rel => exact ⟨k + 1, v', by omega, by go_num, rfl, hB', by rw [HS.out]; exact hY'⟩
      case measure => simp [intOf]; omega
    · obtain rfl : k = n := by omega
      have htk : l.take k = l := List.take_of_length_le (by rw [HL.out]; omega)
      rw [htk] at hY
      have hY2 : wr.ownsRow w.heap.size 52 6 v k (flatL l) := by have h := hY; unfold RplO at h; rwa [HL.out] at h
      obtain ⟨A1, c1, rfl⟩ := own_form' hY2
      go_wp2
      go_ret
      exact ⟨A1, c1, rfl, Reads.of_own hY2, hBr⟩
theorem neq_pl (w : World) (p : Pl) : (binOp .neq 52 (.agg #[.int .i64 p.p, .int .i64 p.n, .int .i64 p.x, .int .i64 p.y, .int .i64 p.w, .int .i64 p.h]) (.agg #[.int .i64 p.p, .int .i64 p.n, .int .i64 p.x, .int .i64 p.y, .int .i64 p.w, .int .i64 p.h])).run Try.prog w = .ok (.bool false) w := by
  go_simp
set_option maxHeartbeats 8000000 in
set_option maxRecDepth 100000 in
theorem same16_any (A A2 : Option Addr) (n c c2 B B2 : Nat) (l : List Pl) (w : World) (hr : Reads w B 6 A n (flatL l)) (hr2 : Reads w B2 6 A2 n (flatL l)) (hn : n ≤ 1000000) :
    Calls Try.prog 24 #[.slice A n c, .slice A2 n c2] w fun e w' => e = .returned (.bool true) ∧ ∃ q, w' = w.drewN q := by
  have HL := Lib.hid (len_L hr)
  go_enter Try.func24, Try.ntmps24
  go_wp2
  go_loopw [5] (fun i wr => ∃ (k q : Nat), k ≤ n ∧ i = .int .i64 k ∧ wr = w.drewN q) (fun i _ => n - (intOf i).toNat)
  case atStart => exact ⟨0, 0, Nat.zero_le _, rfl, rfl⟩
  case round =>
    obtain ⟨k, q, hk, rfl, rfl⟩ := hrel
    by_cases hlt : k < n
    · obtain ⟨p, hp⟩ : ∃ p, l[k]? = some p := ⟨l[k]'(by rw [HL.out]; exact hlt), List.getElem?_eq_getElem _⟩
      obtain ⟨ad, rfl, hb, e0, e1, e2, e3, e4, e5⟩ := pl_of hr hp
      obtain ⟨ad2, rfl, hb2, f0, f1, f2, f3, f4, f5⟩ := pl_of hr2 hp
      have k0 : (0 : Int) ≤ (k : Int) := Int.natCast_nonneg _
      have k1 : (k : Int) < (n : Int) := by omega
      have hne := fun w => neq_pl w p
      obtain ⟨pp, pn, px, py, pw, ph⟩ := p
      simp only at e0 e1 e2 e3 e4 e5 f0 f1 f2 f3 f4 f5 hne
      clear hp
      go_wp2
      go_quiet (fail)
      go_wp2
      go_roundw
      case rel => exact ⟨k + 1, _, by omega, by go_num, rfl⟩
      case measure => simp [intOf]; omega
    · go_wp2
      go_ret
      exact ⟨rfl, _, rfl⟩
def L0 : List Pc := [⟨0, 10, 4, 0, ⟨#[]⟩, false⟩, ⟨0, 10, 6, 2, ⟨#[]⟩, true⟩, ⟨0, 3, 2, 0, ⟨#[]⟩, false⟩]
def P0 : List Pl := [⟨0, 0, 5, 0, 10, 4⟩, ⟨1, 1, 2, 4, 10, 6⟩, ⟨2, 1, 12, 8, 3, 2⟩]
theorem fillP0 : fillP L0 15 2 = P0 := by rfl
theorem fillH0 : fillH L0 15 2 = 10 := by rfl
theorem fillE0 : fillE L0 15 2 = true := by rfl
theorem fillP1 : fillP L0 (-1) 0 = [] := by rfl
theorem fillH1 : fillH L0 (-1) 0 = 0 := by rfl
theorem fillE1 : fillE L0 (-1) 0 = false := by rfl
theorem wideP0 : wideP P0 = 13 := by rfl
end Go.Proofs.Ytgglffmfkhbcgaa
