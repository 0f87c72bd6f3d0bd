/- A selector that came in, opened. Conditions: none. -/
import Derived.Test.YtdfcahdipalmkaaGreatDoorSelG
import Derived.Test.YtdfcahdipalmkaaGreatDoorSelO
import Derived.Test.YtdfcahdipalmkaaGreatDoorOpenS
import Derived.Lib.SmallJoins
import Derived.Deep.Slices
import Derived.Deep.Fields
import Derived.Deep.Grids
import Derived.SliceStrings
/- law 09's own. Conditions: there are not too many parts. -/
namespace Go.Proofs.YtdfcahdipalmkaaGreatDoor
open Go.ChangeShapes Go.WideShapes Go.ChangeAt Go.RowKit Go.Shelf
namespace Sel
open Tok
open RowG (Row)
theorem info_rsim : (Tryz.prog.info? 71).map (fun i => (i.zero, i.size, i.bytes)) = some (some (.agg #[.string ⟨#[]⟩, .slice none 0 0, .slice none 0 0, .bool false, .bool false]), 5, 72) := by kernel_rfl
end Sel
end Go.Proofs.YtdfcahdipalmkaaGreatDoor
/- The document's own Large of layer 9. Conditions: texts are not too long. -/
namespace Go.Proofs.YtdfcahdipalmkaaGreatDoor
open Go.ChangeShapes Go.WideShapes Go.ChangeAt Go.RowKit Go.Shelf
namespace Sel
open Tok
open RowG (Row)
def costL (l : List (List UInt8)) : Nat := (l.map fun t => 1 + t.length).sum
def cost1 (p : Sim) : Nat := (1 + p.tag.length) + costL p.ids + costL p.classes
def costS (ps : List Sim) : Nat := (ps.map cost1).sum
theorem costL_snoc {l : List (List UInt8)} {k : Nat} {t : List UInt8} (h : l[k]? = some t) : costL (l.take (k + 1)) = costL (l.take k) + (1 + t.length) := by
  rw [List.take_add_one, h]
  simp [costL]
theorem costS_snoc {l : List Sim} {k : Nat} {p : Sim} (h : l[k]? = some p) : costS (l.take (k + 1)) = costS (l.take k) + cost1 p := by
  rw [List.take_add_one, h]
  simp [costS]
theorem costL_mem {l : List (List UInt8)} : l.length ≤ costL l ∧ ∀ t ∈ l, t.length ≤ costL l := by
  induction l with
  | nil => exact ⟨by simp, fun t h => by cases h⟩
  | cons a l ih =>
    have e : costL (a :: l) = (1 + a.length) + costL l := by simp [costL]
    rw [e]
    refine ⟨by simp only [List.length_cons]; omega, fun t h => ?_⟩
    rcases List.mem_cons.1 h with rfl | h
    · omega
    · have := ih.2 t h; omega
theorem costS_mem {l : List Sim} : l.length ≤ costS l ∧ ∀ p ∈ l, cost1 p ≤ costS l := by
  induction l with
  | nil => exact ⟨by simp, fun t h => by cases h⟩
  | cons a l ih =>
    have e : costS (a :: l) = cost1 a + costS l := by simp [costS]
    rw [e]
    refine ⟨by simp only [List.length_cons]; unfold cost1; omega, fun t h => ?_⟩
    rcases List.mem_cons.1 h with rfl | h
    · omega
    · have := ih.2 t h; omega
theorem cost_few {l : List Sim} (h : costS l ≤ 500) : l.length ≤ 500 ∧ Few l ∧ ShX l := by
  refine ⟨by have := (costS_mem (l := l)).1; omega, fun p hp => ?_, fun p hp => ?_⟩
  · have h1 := costS_mem.2 p hp
    unfold cost1 at h1
    have := (costL_mem (l := p.ids)).1
    have := (costL_mem (l := p.classes)).1
    omega
  · have h1 := costS_mem.2 p hp
    unfold cost1 at h1
    refine ⟨by omega, fun t ht => ?_, fun t ht => ?_⟩
    · have := costL_mem.2 t ht; omega
    · have := costL_mem.2 t ht; omega
/-- Texts are not beyond what memory holds. -/
def BdS (ps : List Sim) : Prop := ∀ p ∈ ps, p.tag.length ≤ 140737488351232 ∧ p.ids.length ≤ 140737488351232 ∧ p.classes.length ≤ 140737488351232 ∧ (∀ t ∈ p.ids, t.length ≤ 140737488351232) ∧ ∀ t ∈ p.classes, t.length ≤ 140737488351232
set_option maxRecDepth 100000 in
set_option maxHeartbeats 32000000 in
theorem large_any (A K : Option Addr) (n c m d : Nat) (ps : List Sim) (hn : n ≤ 140737488351232) (hbd : BdS ps) (w : World) (h : SLR w w.heap.size A n ps) :
    Calls Tryz.prog 23 #[.agg #[.slice A n c, .slice K m d]] w fun e w' => (e = .returned (.bool true) ∨ e = .returned (.bool false) ∧ costS ps ≤ 500 ∧ m ≤ 100) ∧ Below w.heap.size w w' := by
  have hl := h.len
  have HL := Lib.hid hl
  have HBD := Lib.hid hbd
  have hB := below_al (Below.refl w.heap.size w) (.cells #[.slice A n c, .slice K m d] 62)
  have K0 := Blk.new w 62 #[.slice A n c, .slice K m d]
  have h1 := h.below hB (Nat.le_refl _)
  obtain ⟨z0, z1⟩ := blk2 K0
  clear hl hbd h K0
  go_enter Tryz.func23, Tryz.ntmps23
  go_wp2
  generalize w.alloc (.cells #[.slice A n c, .slice K m d] 62) = W at *
  go_loopw [3, 4] (fun nv iv wr => ∃ k N : Nat, k ≤ n ∧ iv = .int .i64 k ∧ nv = .int .i64 N ∧ N ≤ 140737488355328 ∧ Hid (N ≤ 500 → N = costS (ps.take k)) ∧ W = wr) (fun _ iv _ => n - (intOf iv).toNat)
  case atStart => exact ⟨0, 0, Nat.zero_le _, rfl, rfl, by omega, fun _ => rfl, rfl⟩
  case round =>
    obtain ⟨k, N, hk, rfl, rfl, hN, HC, rfl⟩ := hrel
    by_cases hlt : k < n
    · have hki : (k : Int) < (n : Int) := by omega
      have k0 : (0 : Int) ≤ (k : Int) := Int.natCast_nonneg _
      by_cases h5 : N ≤ 500
      · have h5i : (N : Int) ≤ 500 := by omega
        obtain ⟨p, hp⟩ : ∃ p, ps[k]? = some p := ⟨_, List.getElem?_eq_getElem (by rw [HL.out]; exact hlt)⟩
        obtain ⟨b1, b2, b3, b4, b5⟩ := HBD.out p (List.mem_of_getElem? hp)
        obtain ⟨ad, iA, ic, cA, cc, rfl, hb, e0, e1, e2, e3, e4, r1, r2⟩ := h1.at_ hp
        have HS := Lib.hid (costS_snoc hp)
        have zt : (toB p.tag).size = p.tag.length := toB_size _
        have HB4 := Lib.hid b4
        have HB5 := Lib.hid b5
        have hN1 : N = costS (ps.take k) := HC.out h5
        obtain ⟨B1, hB1⟩ : ∃ B1, B1 = costS (ps.take k) + (1 + p.tag.length) := ⟨_, rfl⟩
        have HS2 : Hid (costS (ps.take (k + 1)) = B1 + costL p.ids + costL p.classes) := by
          show _ = _
          rw [HS.out, hB1]
          unfold cost1
          omega
        have hBN : (N : Int) + 1 + (p.tag.length : Int) = (B1 : Int) := by omega
        have hB1b : B1 ≤ 140737488355328 := by omega
        clear hp HC HS hN1 hB1 b4 b5 h5
        obtain ⟨tag, ids, classes, link, visited⟩ := p
        simp only at *
        generalize htg : tag.length = tl at *
        generalize toB tag = T at *
        clear htg
        generalize hni : ids.length = ni at *
        generalize hnc : classes.length = nc at *
        have HNI := Lib.hid hni
        have HNC := Lib.hid hnc
        clear hni hnc
        go_wp2
        go_loopw [3, 5] (fun nv jv wy => ∃ j M : Nat, j ≤ ni ∧ jv = .int .i64 j ∧ nv = .int .i64 M ∧ M ≤ 140737488355328 ∧ Hid (M ≤ 500 → M = B1 + costL (ids.take j)) ∧ W = wy) (fun _ jv _ => ni - (intOf jv).toNat)
        case atStart => exact ⟨0, B1, Nat.zero_le _, rfl, by first | rfl | (rw [← hBN]; rfl) | (simp; omega), hB1b, fun _ => by simp [costL], by first | rfl | trivial⟩
        case round =>
          obtain ⟨j, M, hj, rfl, rfl, hM, HDj, rfl⟩ := hrel
          by_cases hjl : j < ni
          · by_cases hj5 : M ≤ 500
            · skip
              obtain ⟨t, ht⟩ : ∃ t, ids[j]? = some t := ⟨_, List.getElem?_eq_getElem (by rw [HNI.out]; exact hjl)⟩
              obtain ⟨ad2, rfl, -, e5⟩ := tx_of r1 ht
              have ztt : (toB t).size = t.length := toB_size _
              have htl := HB4.out t (List.mem_of_getElem? ht)
              have HNX : Hid (costL (ids.take (j + 1)) = costL (ids.take j) + (1 + t.length)) := costL_snoc ht
              obtain ⟨X, hX⟩ : ∃ X, X = M + 1 + t.length := ⟨_, rfl⟩
              have HX := Lib.hid hX
              have hXi : (M : Int) + 1 + (t.length : Int) = (X : Int) := by omega
              have hXb : X ≤ 140737488355328 := by omega
              have h0j : (0 : Int) ≤ (j : Int) := Int.natCast_nonneg _
              have h1j : (j : Int) < (ni : Int) := by omega
              have h5ij : (M : Int) ≤ 500 := by omega
              have HX1 : Hid (X ≤ 500 → X = B1 + costL (ids.take (j + 1))) := by
                intro hx
                have q1 := HX.out
                have q2 := HNX.out
                have q3 := HDj.out hj5
                omega
              clear ht hX
              generalize toB t = TT at *
              generalize t.length = tl2 at *
              go_wp2
              go_roundw
              case rel => exact ⟨j + 1, X, by omega, by go_num, by first | rfl | (congr 1), hXb, HX1, by first | rfl | trivial⟩
              case measure => simp [intOf]; omega
            · have h1j : (j : Int) < (ni : Int) := by omega
              have h5j : ¬((M : Int) ≤ 500) := by omega
              have HE : Hid (M ≤ 500 → M = B1 + costL ids) := fun hx => absurd hx hj5
              go_wp2
              go_loopw [3, 6] (fun nv jv wy => ∃ l Z : Nat, l ≤ nc ∧ jv = .int .i64 l ∧ nv = .int .i64 Z ∧ Z ≤ 140737488355328 ∧ Hid (Z ≤ 500 → Z = B1 + costL ids + costL (classes.take l)) ∧ W = wy) (fun _ jv _ => nc - (intOf jv).toNat)
              case atStart => exact ⟨0, M, Nat.zero_le _, rfl, rfl, hM, fun hx => by have := HE.out hx; simp [costL] at this ⊢; omega, by first | rfl | trivial⟩
              case round =>
                obtain ⟨l, Z, hl, rfl, rfl, hZ, HDl, rfl⟩ := hrel
                by_cases hll : l < nc
                · by_cases hl5 : Z ≤ 500
                  · skip
                    obtain ⟨t, ht⟩ : ∃ t, classes[l]? = some t := ⟨_, List.getElem?_eq_getElem (by rw [HNC.out]; exact hll)⟩
                    obtain ⟨ad2, rfl, -, e5⟩ := tx_of r2 ht
                    have ztt : (toB t).size = t.length := toB_size _
                    have htl := HB5.out t (List.mem_of_getElem? ht)
                    have HNX : Hid (costL (classes.take (l + 1)) = costL (classes.take l) + (1 + t.length)) := costL_snoc ht
                    obtain ⟨X, hX⟩ : ∃ X, X = Z + 1 + t.length := ⟨_, rfl⟩
                    have HX := Lib.hid hX
                    have hXi : (Z : Int) + 1 + (t.length : Int) = (X : Int) := by omega
                    have hXb : X ≤ 140737488355328 := by omega
                    have h0l : (0 : Int) ≤ (l : Int) := Int.natCast_nonneg _
                    have h1l : (l : Int) < (nc : Int) := by omega
                    have h5il : (Z : Int) ≤ 500 := by omega
                    have HX1 : Hid (X ≤ 500 → X = B1 + costL ids + costL (classes.take (l + 1))) := by
                      intro hx
                      have q1 := HX.out
                      have q2 := HNX.out
                      have q3 := HDl.out hl5
                      omega
                    clear ht hX
                    generalize toB t = TT at *
                    generalize t.length = tl2 at *
                    go_wp2
                    go_roundw
                    case rel => exact ⟨l + 1, X, by omega, by go_num, by first | rfl | (congr 1), hXb, HX1, by first | rfl | trivial⟩
                    case measure => simp [intOf]; omega
                  · have h1l : (l : Int) < (nc : Int) := by omega
                    have h5l : ¬((Z : Int) ≤ 500) := by omega
                    have HZ : Hid (Z ≤ 500 → Z = costS (ps.take (k + 1))) := by
                      intro hx
                      have q1 := HDl.out hx
                      rw [HS2.out]
                      first
                        | (rw [List.take_of_length_le (by rw [HNC.out]; exact Nat.le_refl _)] at q1; exact q1)
                        | (exfalso; omega)
                    go_wp2
                    go_roundw
                    case rel => exact ⟨k + 1, Z, by omega, by go_num, rfl, hZ, HZ, by first | rfl | trivial⟩
                    case measure => simp [intOf]; omega
                · obtain rfl : l = nc := by omega
                  have HZ : Hid (Z ≤ 500 → Z = costS (ps.take (k + 1))) := by
                    intro hx
                    have q1 := HDl.out hx
                    rw [HS2.out]
                    first
                      | (rw [List.take_of_length_le (by rw [HNC.out]; exact Nat.le_refl _)] at q1; exact q1)
                      | (exfalso; omega)
                  go_wp2
                  go_roundw
                  case rel => exact ⟨k + 1, Z, by omega, by go_num, rfl, hZ, HZ, by first | rfl | trivial⟩
                  case measure => simp [intOf]; omega
          · obtain rfl : j = ni := by omega
            have HE : Hid (M ≤ 500 → M = B1 + costL ids) := by
              intro hx
              have q1 := HDj.out hx
              rw [List.take_of_length_le (by rw [HNI.out]; exact Nat.le_refl _)] at q1
              exact q1
            go_wp2
            go_loopw [3, 6] (fun nv jv wy => ∃ l Z : Nat, l ≤ nc ∧ jv = .int .i64 l ∧ nv = .int .i64 Z ∧ Z ≤ 140737488355328 ∧ Hid (Z ≤ 500 → Z = B1 + costL ids + costL (classes.take l)) ∧ W = wy) (fun _ jv _ => nc - (intOf jv).toNat)
            case atStart => exact ⟨0, M, Nat.zero_le _, rfl, rfl, hM, fun hx => by have := HE.out hx; simp [costL] at this ⊢; omega, by first | rfl | trivial⟩
            case round =>
              obtain ⟨l, Z, hl, rfl, rfl, hZ, HDl, rfl⟩ := hrel
              by_cases hll : l < nc
              · by_cases hl5 : Z ≤ 500
                · skip
                  obtain ⟨t, ht⟩ : ∃ t, classes[l]? = some t := ⟨_, List.getElem?_eq_getElem (by rw [HNC.out]; exact hll)⟩
                  obtain ⟨ad2, rfl, -, e5⟩ := tx_of r2 ht
                  have ztt : (toB t).size = t.length := toB_size _
                  have htl := HB5.out t (List.mem_of_getElem? ht)
                  have HNX : Hid (costL (classes.take (l + 1)) = costL (classes.take l) + (1 + t.length)) := costL_snoc ht
                  obtain ⟨X, hX⟩ : ∃ X, X = Z + 1 + t.length := ⟨_, rfl⟩
                  have HX := Lib.hid hX
                  have hXi : (Z : Int) + 1 + (t.length : Int) = (X : Int) := by omega
                  have hXb : X ≤ 140737488355328 := by omega
                  have h0l : (0 : Int) ≤ (l : Int) := Int.natCast_nonneg _
                  have h1l : (l : Int) < (nc : Int) := by omega
                  have h5il : (Z : Int) ≤ 500 := by omega
                  have HX1 : Hid (X ≤ 500 → X = B1 + costL ids + costL (classes.take (l + 1))) := by
                    intro hx
                    have q1 := HX.out
                    have q2 := HNX.out
                    have q3 := HDl.out hl5
                    omega
                  clear ht hX
                  generalize toB t = TT at *
                  generalize t.length = tl2 at *
                  go_wp2
                  go_roundw
                  case rel => exact ⟨l + 1, X, by omega, by go_num, by first | rfl | (congr 1), hXb, HX1, by first | rfl | trivial⟩
                  case measure => simp [intOf]; omega
                · have h1l : (l : Int) < (nc : Int) := by omega
                  have h5l : ¬((Z : Int) ≤ 500) := by omega
                  have HZ : Hid (Z ≤ 500 → Z = costS (ps.take (k + 1))) := by
                    intro hx
                    have q1 := HDl.out hx
                    rw [HS2.out]
                    first
                      | (rw [List.take_of_length_le (by rw [HNC.out]; exact Nat.le_refl _)] at q1; exact q1)
                      | (exfalso; omega)
                  go_wp2
                  go_roundw
                  case rel => exact ⟨k + 1, Z, by omega, by go_num, rfl, hZ, HZ, by first | rfl | trivial⟩
                  case measure => simp [intOf]; omega
              · obtain rfl : l = nc := by omega
                have HZ : Hid (Z ≤ 500 → Z = costS (ps.take (k + 1))) := by
                  intro hx
                  have q1 := HDl.out hx
                  rw [HS2.out]
                  first
                    | (rw [List.take_of_length_le (by rw [HNC.out]; exact Nat.le_refl _)] at q1; exact q1)
                    | (exfalso; omega)
                go_wp2
                go_roundw
                case rel => exact ⟨k + 1, Z, by omega, by go_num, rfl, hZ, HZ, by first | rfl | trivial⟩
                case measure => simp [intOf]; omega
      · have h5i : ¬((N : Int) ≤ 500) := by omega
        have h5g : (500 : Int) < (N : Int) := by omega
        go_wp2
        go_ret
        exact ⟨.inl rfl, hB⟩
    · obtain rfl : k = n := by omega
      have hfull : ps.take k = ps := List.take_of_length_le (by rw [HL.out]; exact Nat.le_refl _)
      rw [hfull] at HC
      by_cases h5 : N ≤ 500
      · have h5g : ¬((500 : Int) < (N : Int)) := by omega
        have hco : Hid (costS ps ≤ 500) := by show _ ≤ _; rw [← HC.out h5]; exact h5
        by_cases hm1 : 100 < m
        · have hmi : (100 : Int) < (m : Int) := by omega
          go_wp2
          go_ret
          exact ⟨.inl rfl, hB⟩
        · have hmi : ¬((100 : Int) < (m : Int)) := by omega
          go_wp2
          go_ret
          exact ⟨.inr ⟨rfl, hco.out, by omega⟩, hB⟩
      · have h5g : (500 : Int) < (N : Int) := by omega
        go_wp2
        go_ret
        exact ⟨.inl rfl, hB⟩
end Sel
end Go.Proofs.YtdfcahdipalmkaaGreatDoor
namespace Go.Proofs.YtdfcahdipalmkaaGreatDoor
open Go.RowKit Go.WideShapes Go.ChangeShapes Go.ChangeAt Go.Joins Go.Deep
namespace OpenSel
open Sel
section
variable {H : Type} {enc : TypeId × Value → H} {P : Program} {w : World} {base : Nat} {spare : Nat → Bool} {held : Bool}
theorem open_slice_fields2 {t e : TypeId} {fs : Array Field} {fuel : Nat} {cs : List Value} {x : DataW H × List MemPlace} (ht : P.underlying t = some (.slice e)) (he : P.underlying e = some (.struct fs))
    (hone : oneCellFields P fs = true) (hC : P.cellsOf e = fs.size) (h : DataW.trod enc P w base spare held fuel t cs = some x) :
    (cs = [.slice none 0 0] ∧ x = (.nil, [])) ∨
    ∃ (a : Addr) (len cap m : Nat) (D : Nat → DataW H) (Pl : Nat → List MemPlace), cs = [.slice (some a) len cap] ∧ base ≤ a.block ∧ len ≤ cap ∧ cap ≤ maxLen ∧ m = (if spare a.block then cap else len) ∧
      x = (.slice ((List.range len).map D) ((List.range (m - len)).map fun j => D (len + j)), MemPlace.row a (m * fs.size) ++ (List.range m).flatMap Pl) ∧
      ∀ i, i < m → ∃ (ys : List (DataW H × List MemPlace)) (n : Nat), D i = .agg (ys.map (·.1)) ∧ Pl i = ys.flatMap (·.2) ∧ ys.length = fs.size ∧
        ∀ (j : Nat) (f : Field), fs[j]? = some f → ∃ (v : Value) (y : DataW H × List MemPlace), w.cell? (a.add (i * fs.size + j)) = some v ∧ ys[j]? = some y ∧ DataW.trod enc P w base spare held n f.type [v] = some y := by
  rcases open_slice ht h with h0 | ⟨a, len, cap, m, n, D, Pl, hcs, hb, hl, hm, hmm, hx, hi⟩
  · exact .inl h0
  · refine .inr ⟨a, len, cap, m, D, Pl, hcs, hb, hl, hm, hmm, by rw [hC] at hx; exact hx, fun i him => ?_⟩
    obtain ⟨cs', hc, ht'⟩ := hi i him
    rw [hC] at hc
    obtain ⟨ys, n', hn', hy, hlen, hyl, hf⟩ := DataW.trod_struct he ht'
    obtain ⟨_, hcl, hat⟩ := World.cells?_some hc
    simp only [Prod.mk.injEq] at hy
    refine ⟨ys, n', hy.1, hy.2, hyl, fun j f hj => ?_⟩
    obtain ⟨ho, hk⟩ := hone_of hone j f hj
    have hjl : j < fs.size := (Array.getElem?_eq_some_iff.1 hj).1
    have hcell := hat j hjl
    have hv : cs'[j]? = some (cs'[j]'(by omega)) := List.getElem?_eq_getElem (by omega)
    have h1 := hf j f hj
    rw [ho, hk] at h1
    have hone' : (cs'.drop j).take 1 = [cs'[j]'(by omega)] := by
      rw [List.drop_eq_getElem_cons (by omega)]
      rfl
    rw [hone'] at h1
    have hys : ys[j]? = some (ys[j]'(by omega)) := List.getElem?_eq_getElem (by omega)
    refine ⟨_, _, ?_, hys, h1.trans hys⟩
    rw [← Go.Deep.add_add, hcell, hv]
end
section
variable {H : Type} {enc : TypeId × Value → H} {P : Program} {W : World}
theorem toB_back (s : ByteArray) : toB s.data.toList = s := bytes_inj rfl
theorem mem_all {P : Program} {e : TypeId} {d : DataW H} {n : Nat} (hn : n ∈ d.weights P e) : ∀ l : List (DataW H), d ∈ l → n ∈ DataW.weightsAll P e l
  | [], h => by cases h
  | d0 :: l, h => by
    unfold DataW.weightsAll
    rcases List.mem_cons.1 h with h | h
    · subst h; exact List.mem_append.2 (.inl hn)
    · exact List.mem_append.2 (.inr (mem_all hn l h))
theorem okWide_st {r : Reach} {b0 : Nat} {t : TypeId} {fs : Array Field} {v : Value} (ht : P.underlying t = some (.struct fs)) (h : Value.okWide P W r b0 t v) : ∃ cs, v = .agg cs ∧ cs.size = P.cellsOf t := by
  simp only [Value.okWide, ht] at h
  obtain ⟨cs, h1, h2, _⟩ := h
  exact ⟨cs, h1, h2⟩
theorem flat_div5 {α : Type} {f : α → List Value} (h : ∀ x, (f x).length = 5) : ∀ (l : List α) (k : Nat) (u : Value), (l.flatMap f)[k]? = some u → ∃ x, l[k / 5]? = some x ∧ (f x)[k % 5]? = some u
  | [], k, u, hk => by simp at hk
  | a :: l, k, u, hk => by
    rw [List.flatMap_cons] at hk
    by_cases hlt : k < 5
    · rw [List.getElem?_append_left (by rw [h]; exact hlt)] at hk
      exact ⟨a, by rw [show k / 5 = 0 by omega]; rfl, by rw [show k % 5 = k by omega]; exact hk⟩
    · rw [List.getElem?_append_right (by rw [h]; omega), h] at hk
      obtain ⟨x, h1, h2⟩ := flat_div5 h l (k - 5) u hk
      exact ⟨x, by rw [show k / 5 = (k - 5) / 5 + 1 by omega, List.getElem?_cons_succ]; exact h1, by rw [show k % 5 = (k - 5) % 5 by omega]; exact h2⟩
theorem in_texts {base fuel : Nat} {t e : TypeId} {c : Value} {x : DataW H × List MemPlace} (ht : P.underlying t = some (.slice e)) (he : P.underlying e = some .string) (hC : P.cellsOf e = 1) (hby : P.bytesOf e = 16)
    (hd : DataW.trod enc P W base (fun _ => true) true fuel t [c] = some x) :
    ∃ (A : Option Addr) (n cp : Nat) (l : List (List UInt8)), c = .slice A n cp ∧ l.length = n ∧ Reads W W.heap.size 1 A n (l.flatMap txC) ∧ ((∀ z ∈ x.1.weights P t, z ≤ 140737488351232) → n ≤ 17592186043904 ∧ ∀ q ∈ l, q.length ≤ 140737488351232) := by
  rcases open_strings ht he hC hd with ⟨hcs, _⟩ | ⟨a, n, cap, ss, hcs, _, hl, hm, hz, hx, hcell, hw⟩
  · injection hcs with hcs _
    exact ⟨_, _, _, [], hcs, rfl, Reads.none_, fun _ => ⟨by omega, fun q h => by cases h⟩⟩
  · injection hcs with hcs _
    simp only [if_true] at hz
    have hlen : ((ss.take n).map (·.data.toList)).length = n := by simp; omega
    refine ⟨_, _, _, (ss.take n).map (·.data.toList), hcs, hlen, ?_, fun hzz => ?_⟩
    · refine ⟨by rw [flat_len txC_len, hlen], fun hn => ⟨a, rfl, ?_, ?_⟩⟩
      · have := lt_of_cell (hcell 0 (by omega))
        rwa [block_of_add] at this
      · intro j u hu
        rw [← strs_flat] at hu
        have hj : j < n := by
          have := (List.getElem?_eq_some_iff.1 hu).1
          unfold Go.Proofs.YtdfcahdipalmkaaGreatDoor.strs at this
          rw [List.length_map, hlen] at this
          exact this
        rw [hcell j (by omega)]
        rw [← hu]
        unfold Go.Proofs.YtdfcahdipalmkaaGreatDoor.strs
        rw [List.getElem?_map, List.getElem?_map, List.getElem?_take_of_lt hj, List.getElem?_eq_getElem (by omega), List.getD_eq_getElem?_getD, List.getElem?_eq_getElem (by omega)]
        simp [toB_back]
    · simp only [hx] at hzz
      have h1 := hzz (((Go.ChangeShapes.strs (H := H) (ss.take n)).length + (Go.ChangeShapes.strs (H := H) (ss.drop n)).length) * P.bytesOf e) (by
        unfold DataW.weights
        rw [ht]
        exact List.mem_cons_self)
      simp only [hby, Go.ChangeShapes.strs, List.length_map, List.length_take, List.length_drop] at h1
      refine ⟨by omega, fun q hq => ?_⟩
      obtain ⟨s, hs, rfl⟩ := List.mem_map.1 hq
      refine hzz _ ?_
      unfold DataW.weights
      rw [ht]
      refine List.mem_cons_of_mem _ (List.mem_append.2 (.inl (mem_all (d := .lit (.string s.data.toList)) (by simp [DataW.weights]) _ ?_)))
      unfold Go.ChangeShapes.strs
      exact List.mem_map.2 ⟨s, hs, rfl⟩
theorem in_bools {base fuel : Nat} {t e : TypeId} {c : Value} {x : DataW H × List MemPlace} (ht : P.underlying t = some (.slice e)) (he : P.underlying e = some .bool) (hC : P.cellsOf e = 1)
    (hd : DataW.trod enc P W base (fun _ => true) true fuel t [c] = some x) :
    ∃ (A : Option Addr) (n cp : Nat) (l : List Bool), c = .slice A n cp ∧ l.length = n ∧ Reads W W.heap.size 1 A n (l.flatMap boC) ∧ n ≤ maxLen := by
  rcases open_bools ht he hC hd with ⟨hcs, _⟩ | ⟨a, n, cap, B, hcs, _, hl, hm, hx, hcell⟩
  · injection hcs with hcs _
    exact ⟨_, _, _, [], hcs, rfl, Reads.none_, by omega⟩
  · injection hcs with hcs _
    have hlen : ((List.range n).map B).length = n := by simp
    refine ⟨_, _, _, (List.range n).map B, hcs, hlen, ⟨by rw [flat_len boC_len, hlen], fun hn => ⟨a, rfl, ?_, ?_⟩⟩, by omega⟩
    · have := lt_of_cell (hcell 0 (by omega))
      rwa [block_of_add] at this
    · intro j u hu
      have e : ∀ l : List Bool, l.flatMap boC = l.map Value.bool := by
        intro l
        induction l with
        | nil => rfl
        | cons b l ih => rw [List.flatMap_cons, ih]; rfl
      rw [e] at hu
      have hj : j < n := by
        have := (List.getElem?_eq_some_iff.1 hu).1
        rw [List.length_map, hlen] at this
        exact this
      rw [hcell j (by omega), ← hu, List.getElem?_map, List.getElem?_map, List.getElem?_range hj]
      rfl
theorem in_sims {base fuel : Nat} {t e ei ec : TypeId} {f0 f1 f2 f3 f4 : Field} {c : Value} {x : DataW H × List MemPlace} (ht : P.underlying t = some (.slice e)) (hs : P.underlying e = some (.struct #[f0, f1, f2, f3, f4])) (hone : oneCellFields P #[f0, f1, f2, f3, f4] = true) (hC : P.cellsOf e = 5) (hby : P.bytesOf e = 72)
    (h0 : P.underlying f0.type = some .string) (h1 : P.underlying f1.type = some (.slice ei)) (h2 : P.underlying f2.type = some (.slice ec)) (h3 : P.underlying f3.type = some .bool) (h4 : P.underlying f4.type = some .bool)
    (hei : P.underlying ei = some .string) (hCi : P.cellsOf ei = 1) (hbi : P.bytesOf ei = 16) (hec : P.underlying ec = some .string) (hCc : P.cellsOf ec = 1) (hbc : P.bytesOf ec = 16)
    (hd : DataW.trod enc P W base (fun _ => true) true fuel t [c] = some x) :
    ∃ (A : Option Addr) (n cp : Nat) (l : List Sim), c = .slice A n cp ∧ SLR W W.heap.size A n l ∧ ((∀ z ∈ x.1.weights P t, z ≤ 140737488351232) → n * 72 ≤ 140737488351232 ∧ BdS l) := by
  rcases open_slice_fields2 ht hs hone hC hd with ⟨hcs, _⟩ | ⟨a, n, cap, m, D, Pl, hcs, _, hl, hm, hmm, hx, hi⟩
  · injection hcs with hcs _
    exact ⟨_, _, _, [], hcs, ⟨[], Reads.none_, rfl, fun i c t h => by simp at h⟩, fun _ => ⟨by omega, fun q hq => by cases hq⟩⟩
  · injection hcs with hcs _
    simp only [if_true] at hmm
    subst hmm
    have key : ∀ i, i < n → ∃ q : SC × Sim, (W.cell? (a.add (i * 5)) = some (.string q.1.t) ∧ W.cell? (a.add (i * 5 + 1)) = some (.slice q.1.A q.1.m q.1.a) ∧ W.cell? (a.add (i * 5 + 2)) = some (.slice q.1.K q.1.n q.1.d) ∧ W.cell? (a.add (i * 5 + 3)) = some (.bool q.1.l) ∧ W.cell? (a.add (i * 5 + 4)) = some (.bool q.1.v)) ∧ ScR W W.heap.size q.1 q.2 ∧ ((∀ z ∈ x.1.weights P t, z ≤ 140737488351232) → q.2.tag.length ≤ 140737488351232 ∧ q.2.ids.length ≤ 140737488351232 ∧ q.2.classes.length ≤ 140737488351232 ∧ (∀ t ∈ q.2.ids, t.length ≤ 140737488351232) ∧ ∀ t ∈ q.2.classes, t.length ≤ 140737488351232) := by
      intro i hin
      obtain ⟨ys, k, hD, _, _, hfs⟩ := hi i (by omega)
      obtain ⟨u0, y0, c0, z0, g0'⟩ := hfs 0 f0 rfl
      obtain ⟨u1, y1, c1, z1, g1'⟩ := hfs 1 f1 rfl
      obtain ⟨u2, y2, c2, z2, g2'⟩ := hfs 2 f2 rfl
      obtain ⟨u3, y3, c3, z3, g3'⟩ := hfs 3 f3 rfl
      obtain ⟨u4, y4, c4, z4, g4'⟩ := hfs 4 f4 rfl
      obtain ⟨x0, e0, hy0, _⟩ := DataW.trod_string h0 g0'
      obtain ⟨A1, n1, cp1, l1, rfl, hl1, hR1, hb1⟩ := in_texts h1 hei hCi hbi g1'
      obtain ⟨A2, n2, cp2, l2, rfl, hl2, hR2, hb2⟩ := in_texts h2 hec hCc hbc g2'
      obtain ⟨x3, e3, _⟩ := DataW.trod_bool h3 g3'
      obtain ⟨x4, e4, _⟩ := DataW.trod_bool h4 g4'
      injection e0 with e0; injection e3 with e3; injection e4 with e4
      rw [e0] at c0; rw [e3] at c3; rw [e4] at c4
      subst hy0
      have hmem : DataW.agg (ys.map (·.1)) ∈ (List.range n).map D := List.mem_map.2 ⟨i, List.mem_range.2 hin, hD⟩
      have go : ∀ {j z : Nat} {f : Field} {y : DataW H}, ((#[f0, f1, f2, f3, f4] : Array Field).toList.map (·.type))[j]? = some f.type → (ys.map (·.1))[j]? = some y → z ∈ y.weights P f.type → z ∈ x.1.weights P t := by
        intro j z f y hf hy hz
        have q1 : z ∈ DataW.weightsEach P ((#[f0, f1, f2, f3, f4] : Array Field).toList.map (·.type)) (ys.map (·.1)) := DataW.weights_mem_each hf hy _ hz
        have q2 : z ∈ (DataW.agg (ys.map (·.1))).weights P e := by unfold DataW.weights; rw [hs]; exact q1
        have q3 := mem_all q2 _ hmem
        subst hx
        show z ∈ (DataW.slice _ _).weights P t
        unfold DataW.weights
        rw [ht]
        exact List.mem_cons_of_mem _ (List.mem_append.2 (.inl q3))
      refine ⟨(⟨x0, A1, n1, cp1, A2, n2, cp2, x3, x4⟩, ⟨x0.data.toList, l1, l2, x3, x4⟩), ⟨c0, c1, c2, c3, c4⟩, ⟨(toB_back _).symm, ⟨hl1.symm, hR1⟩, ⟨hl2.symm, hR2⟩, rfl, rfl⟩, fun hz => ?_⟩
      have hb1' := hb1 (fun z q => hz z (go (j := 1) (f := f1) rfl (by rw [List.getElem?_map, z1]; rfl) q))
      have hb2' := hb2 (fun z q => hz z (go (j := 2) (f := f2) rfl (by rw [List.getElem?_map, z2]; rfl) q))
      have hb0' : x0.data.toList.length ≤ 140737488351232 := hz _ (go (j := 0) (f := f0) (y := .lit (.string x0.data.toList)) rfl (by rw [List.getElem?_map, z0]; rfl) (by simp [DataW.weights]))
      exact ⟨hb0', by show l1.length ≤ _; rw [hl1]; omega, by show l2.length ≤ _; rw [hl2]; omega, hb1'.2, hb2'.2⟩
    let F : Nat → SC × Sim := fun i => if h : i < n then (key i h).choose else (⟨⟨#[]⟩, none, 0, 0, none, 0, 0, false, false⟩, ⟨[], [], [], false, false⟩)
    have hF : ∀ i, i < n → (W.cell? (a.add (i * 5)) = some (.string (F i).1.t) ∧ W.cell? (a.add (i * 5 + 1)) = some (.slice (F i).1.A (F i).1.m (F i).1.a) ∧ W.cell? (a.add (i * 5 + 2)) = some (.slice (F i).1.K (F i).1.n (F i).1.d) ∧ W.cell? (a.add (i * 5 + 3)) = some (.bool (F i).1.l) ∧ W.cell? (a.add (i * 5 + 4)) = some (.bool (F i).1.v)) ∧ ScR W W.heap.size (F i).1 (F i).2 ∧ ((∀ z ∈ x.1.weights P t, z ≤ 140737488351232) → (F i).2.tag.length ≤ 140737488351232 ∧ (F i).2.ids.length ≤ 140737488351232 ∧ (F i).2.classes.length ≤ 140737488351232 ∧ (∀ t ∈ (F i).2.ids, t.length ≤ 140737488351232) ∧ ∀ t ∈ (F i).2.classes, t.length ≤ 140737488351232) := by
      intro i him
      have : F i = (key i him).choose := by show (if h : i < n then (key i h).choose else _) = _; rw [dif_pos him]
      rw [this]
      exact (key i him).choose_spec
    have hget : ∀ {β : Type} (f : SC × Sim → β) (i : Nat), i < n → ((List.range n).map (fun i => f (F i)))[i]? = some (f (F i)) := by
      intro β f i hin
      rw [List.getElem?_map, List.getElem?_range hin]
      rfl
    have hlt : ∀ {β : Type} (f : SC × Sim → β) (i : Nat) (x : β), ((List.range n).map (fun i => f (F i)))[i]? = some x → i < n := by
      intro β f i x h
      have := (List.getElem?_eq_some_iff.1 h).1
      simpa using this
    have hRD : Reads W W.heap.size 5 (some a) n (((List.range n).map (fun i => (F i).1)).flatMap scC) := by
      refine ⟨by rw [flat_len scC_len]; simp, fun hn => ⟨a, rfl, ?_, ?_⟩⟩
      · have := lt_of_cell (hF 0 (by omega)).1.1
        rwa [block_of_add] at this
      · intro k u hu
        obtain ⟨q, hq, hu2⟩ := flat_div5 scC_len _ k u hu
        have hkn : k / 5 < n := hlt (·.1) _ _ hq
        rw [hget (·.1) _ hkn] at hq
        injection hq with hq
        subst hq
        obtain ⟨k0, k1, k2, k3, k4⟩ := (hF (k / 5) hkn).1
        have hm4 : k % 5 < 5 := Nat.mod_lt _ (by omega)
        have hk : k = k / 5 * 5 + k % 5 := by omega
        generalize k / 5 = i at *
        generalize k % 5 = s at *
        subst hk
        match s, hm4, hu2 with
        | 0, _, hu2 => rw [Nat.add_zero, k0]; simpa [scC] using hu2
        | 1, _, hu2 => rw [k1]; simpa [scC] using hu2
        | 2, _, hu2 => rw [k2]; simpa [scC] using hu2
        | 3, _, hu2 => rw [k3]; simpa [scC] using hu2
        | 4, _, hu2 => rw [k4]; simpa [scC] using hu2
    refine ⟨_, _, _, (List.range n).map (fun i => (F i).2), hcs, ⟨(List.range n).map (fun i => (F i).1), hRD, by simp, ?_⟩, fun hz => ⟨?_, fun y hy => ?_⟩⟩
    · intro i c t hc ht
      have hin := hlt (·.1) _ _ hc
      rw [hget (·.1) _ hin] at hc
      rw [hget (·.2) _ hin] at ht
      injection hc with hc
      injection ht with ht
      subst hc
      subst ht
      exact (hF i hin).2.1
    · have h1 := hz _ (by
        rw [hx]
        show _ ∈ (DataW.slice _ _).weights P t
        unfold DataW.weights
        rw [ht]
        exact List.mem_cons_self)
      rw [hby] at h1
      simp only [List.length_map, List.length_range] at h1
      omega
    · obtain ⟨i, hi1, rfl⟩ := List.mem_map.1 hy
      exact (hF i (List.mem_range.1 hi1)).2.2 hz
theorem open_sel {r : Reach} {b0 base : Nat} {t e eb ei ec : TypeId} {f0 f1 f2 f3 f4 k0 k1 : Field} {v : Value} {d : DataW H} {p : List MemPlace}
    (hT : P.underlying t = some (.struct #[k0, k1])) (hCT : P.cellsOf t = 2) (ho0 : k0.offset = 0) (ho1 : k1.offset = 1) (hc0 : P.cellsOf k0.type = 1) (hc1 : P.cellsOf k1.type = 1)
    (ht : P.underlying k0.type = some (.slice e)) (hs : P.underlying e = some (.struct #[f0, f1, f2, f3, f4])) (hone : oneCellFields P #[f0, f1, f2, f3, f4] = true) (hC : P.cellsOf e = 5) (hby : P.bytesOf e = 72)
    (h0 : P.underlying f0.type = some .string) (h1 : P.underlying f1.type = some (.slice ei)) (h2 : P.underlying f2.type = some (.slice ec)) (h3 : P.underlying f3.type = some .bool) (h4 : P.underlying f4.type = some .bool)
    (hei : P.underlying ei = some .string) (hCi : P.cellsOf ei = 1) (hbi : P.bytesOf ei = 16) (hec : P.underlying ec = some .string) (hCc : P.cellsOf ec = 1) (hbc : P.bytesOf ec = 16)
    (hb : P.underlying k1.type = some (.slice eb)) (heb : P.underlying eb = some .bool) (hCb : P.cellsOf eb = 1)
    (hv : Value.okWide P W r b0 t v) (h : DataW.Trod enc P W base (fun _ => true) true t v d p)
    {ts : List TypeId} {ds : List (DataW H)} {j : Nat} (hsz : (DataW.weightsEach P ts ds).all (· ≤ reachBytes) = true) (htj : ts[j]? = some t) (hdj : ds[j]? = some d) :
    ∃ (A : Option Addr) (n c : Nat) (K : Option Addr) (m d : Nat) (x : Slr), v = .agg #[.slice A n c, .slice K m d] ∧ SLR W W.heap.size A n x.parts ∧ BLR W W.heap.size K m x.close ∧ n * 72 ≤ 140737488351232 ∧ m ≤ maxLen ∧ BdS x.parts := by
  obtain ⟨cs, rfl, hsz2⟩ := okWide_st hT hv
  rw [hCT] at hsz2
  obtain ⟨c0, c1, rfl⟩ : ∃ c0 c1, cs = #[c0, c1] := by
    obtain ⟨l⟩ := cs
    match l, hsz2 with
    | [c0, c1], _ => exact ⟨c0, c1, rfl⟩
  obtain ⟨fuel, hf⟩ := h
  obtain ⟨ys, n', hn', hyd, _, hyl, hfs⟩ := DataW.trod_struct hT hf
  have e0 := hfs 0 k0 rfl
  have e1 := hfs 1 k1 rfl
  have hl0 : (0 : Nat) < ys.length := by rw [hyl]; exact Nat.succ_pos 1
  have hl1 : (1 : Nat) < ys.length := by rw [hyl]; exact Nat.lt_succ_self 1
  rw [ho0, hc0, List.getElem?_eq_getElem hl0] at e0
  rw [ho1, hc1, List.getElem?_eq_getElem hl1] at e1
  have e0' : DataW.trod enc P W base (fun _ => true) true n' k0.type [c0] = some ys[0] := e0
  have e1' : DataW.trod enc P W base (fun _ => true) true n' k1.type [c1] = some ys[1] := e1
  obtain ⟨A, n, cp, l, rfl, hR, hbd⟩ := in_sims ht hs hone hC hby h0 h1 h2 h3 h4 hei hCi hbi hec hCc hbc e0'
  obtain ⟨K, m, cb, l2, rfl, hl2, hR2, hm2⟩ := in_bools hb heb hCb e1'
  simp only [Prod.mk.injEq] at hyd
  obtain ⟨rfl, _⟩ := hyd
  have hbd' := hbd (fun z hz => by
    have q1 : z ∈ DataW.weightsEach P ((#[k0, k1] : Array Field).toList.map (·.type)) (ys.map (·.1)) := DataW.weights_mem_each (j := 0) rfl (by rw [List.getElem?_map, List.getElem?_eq_getElem hl0]; rfl) _ hz
    have q2 : z ∈ (DataW.agg (ys.map (·.1))).weights P t := by unfold DataW.weights; rw [hT]; exact q1
    have h5 := List.all_eq_true.1 hsz _ (DataW.weights_mem_each htj hdj _ q2)
    have h6 := of_decide_eq_true h5
    simpa only [reachBytes] using h6)
  exact ⟨A, n, cp, K, m, cb, ⟨l, l2⟩, rfl, hR, hR2, hbd'.1, hm2, hbd'.2⟩
end
end OpenSel
end Go.Proofs.YtdfcahdipalmkaaGreatDoor
