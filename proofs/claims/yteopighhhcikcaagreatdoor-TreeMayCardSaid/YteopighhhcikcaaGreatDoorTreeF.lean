/- A builder's memory: its rows lie apart. Conditions: as the theorems' premises say. -/
import Derived.Test.YteopighhhcikcaaGreatDoorTreeMath4
import Derived.Test.YteopighhhcikcaaGreatDoorTokJ
import Derived.Test.YteopighhhcikcaaGreatDoorBytes
import Derived.Test.YteopighhhcikcaaGreatDoorSetI
import Derived.Test.YteopighhhcikcaaGreatDoorTokI
import Derived.Test.YteopighhhcikcaaGreatDoorAppend
import Derived.OneCell
/- Nodes and tokens that lie in memory. Conditions: none. -/
namespace Go.Proofs.YteopighhhcikcaaGreatDoor
open Go.ChangeShapes Go.WideShapes Go.ChangeAt Go.RowKit
namespace Tre
open Tok
open RowG (Row)
theorem row_cap {α : Type} {w : World} {base k : Nat} {e : TypeId} {enc : α → List Value} {A : Option Addr} {n c : Nat} {l : List α} (h : Row w base e k enc (.slice A n c) l) : n ≤ c := by
  have hn := (RowG.Row.reads h).2
  rcases h.2 with ⟨h1, -⟩ | ⟨g, cap, cur, h1, -, -, hnc, -⟩
  · injection h1 with _ h2 _; omega
  · injection h1 with _ h2 h3; omega
/-- A node's cells. -/
structure NC where
  p : Int
  t : ByteArray
  x : ByteArray
  A : Option Addr
  m : Nat
  c : Nat
  K : Option Addr
  n : Nat
  d : Nat
def ncC (c : NC) : List Value := [.int .i64 c.p, .string c.t, .string c.x, .slice c.A c.m c.c, .slice c.K c.n c.d]
theorem ncC_len (c : NC) : (ncC c).length = 5 := rfl
theorem ncC_one (c : NC) : ∀ u ∈ ncC c, u.oneCell' = true := by
  intro u hu
  simp only [ncC, List.mem_cons, List.not_mem_nil, or_false] at hu
  rcases hu with rfl | rfl | rfl | rfl | rfl <;> rfl
def ncV (c : NC) : Value := .agg #[.int .i64 c.p, .string c.t, .string c.x, .slice c.A c.m c.c, .slice c.K c.n c.d]
def kidC (k : Int) : List Value := [.int .i64 k]
theorem kidC_len (k : Int) : (kidC k).length = 1 := rfl
/-- What a node's cells hold. -/
def NcR (w : World) (B : Nat) (c : NC) (nd : Nd) : Prop := c.p = nd.parent ∧ c.t = toB nd.tag ∧ c.x = toB nd.text ∧ (c.m = nd.attrs.length ∧ Reads w B 2 c.A c.m (nd.attrs.flatMap atC)) ∧ (c.n = nd.kids.length ∧ Reads w B 1 c.K c.n (nd.kids.flatMap kidC) ∧ c.m ≤ c.c)
/-- A document, read. -/
def NR (w : World) (B : Nat) (A : Option Addr) (n : Nat) (ns : List Nd) : Prop := ∃ cs : List NC, Reads w B 5 A n (cs.flatMap ncC) ∧ cs.length = ns.length ∧ ∀ (i : Nat) (c : NC) (nd : Nd), cs[i]? = some c → ns[i]? = some nd → NcR w B c nd
/-- A document's parents and tags, read. -/
def PR (w : World) (B : Nat) (A : Option Addr) (n : Nat) (ns : List Nd) : Prop := ∃ cs : List NC, Reads w B 5 A n (cs.flatMap ncC) ∧ cs.length = ns.length ∧ ∀ (i : Nat) (c : NC) (nd : Nd), cs[i]? = some c → ns[i]? = some nd → c.p = nd.parent ∧ c.t = toB nd.tag
theorem NR.pr {w : World} {B n : Nat} {A : Option Addr} {ns : List Nd} (h : NR w B A n ns) : PR w B A n ns := by
  obtain ⟨cs, h1, h2, h3⟩ := h
  exact ⟨cs, h1, h2, fun i c nd hc hn => ⟨(h3 i c nd hc hn).1, (h3 i c nd hc hn).2.1⟩⟩
theorem NcR.below {w w' : World} {B B' : Nat} {c : NC} {nd : Nd} (h : NcR w B c nd) (hb : Below B w w') (hB : B ≤ B') : NcR w' B' c nd := by
  obtain ⟨h1, h2, h3, ⟨h4, h5⟩, h6, h7, h8⟩ := h
  exact ⟨h1, h2, h3, ⟨h4, (h5.below hb).more hB⟩, h6, (h7.below hb).more hB, h8⟩
theorem NR.below {w w' : World} {B B' : Nat} {A : Option Addr} {n : Nat} {ns : List Nd} (h : NR w B A n ns) (hb : Below B w w') (hB : B ≤ B') : NR w' B' A n ns := by
  obtain ⟨cs, h1, h2, h3⟩ := h
  exact ⟨cs, (h1.below hb).more hB, h2, fun i c nd hc hn => (h3 i c nd hc hn).below hb hB⟩
theorem PR.below {w w' : World} {B B' : Nat} {A : Option Addr} {n : Nat} {ns : List Nd} (h : PR w B A n ns) (hb : Below B w w') (hB : B ≤ B') : PR w' B' A n ns := by
  obtain ⟨cs, h1, h2, h3⟩ := h
  exact ⟨cs, (h1.below hb).more hB, h2, h3⟩
theorem PR.keep {w w' : World} {B n : Nat} {A : Option Addr} {ns : List Nd} (h : PR w B A n ns) (hk : ∀ p : Addr, p.block < B → w'.cell? p = w.cell? p) : PR w' B A n ns := by
  obtain ⟨cs, h1, h2, h3⟩ := h
  exact ⟨cs, h1.keep hk, h2, h3⟩
theorem NR.next {w w' : World} {A : Option Addr} {n : Nat} {ns : List Nd} (h : NR w w.heap.size A n ns) (hb : Below w.heap.size w w') : NR w' w'.heap.size A n ns := h.below hb hb.size
theorem PR.len {w : World} {B : Nat} {A : Option Addr} {n : Nat} {ns : List Nd} (h : PR w B A n ns) : ns.length = n := by
  obtain ⟨cs, h1, h2, -⟩ := h
  have := h1.1
  rw [flat_len ncC_len] at this
  omega
theorem NR.len {w : World} {B : Nat} {A : Option Addr} {n : Nat} {ns : List Nd} (h : NR w B A n ns) : ns.length = n := h.pr.len
/-- The cells of the node number k of a list that lies in memory, as the walk spells them. -/
theorem nod_of {w : World} {B n k : Nat} {A : Option Addr} {l : List NC} {r : NC} (h : Reads w B 5 A n (l.flatMap ncC)) (hk : l[k]? = some r) :
    ∃ ad, A = some ad ∧ ad.block < B ∧ w.cell? (ad.add (k * 5)) = some (.int .i64 r.p) ∧ w.cell? ⟨(ad.add (k * 5)).block, (ad.add (k * 5)).off + 1, none⟩ = some (.string r.t) ∧
      w.cell? ⟨(ad.add (k * 5)).block, (ad.add (k * 5)).off + 2, none⟩ = some (.string r.x) ∧ w.cell? ⟨(ad.add (k * 5)).block, (ad.add (k * 5)).off + 3, none⟩ = some (.slice r.A r.m r.c) ∧ w.cell? ⟨(ad.add (k * 5)).block, (ad.add (k * 5)).off + 4, none⟩ = some (.slice r.K r.n r.d) := by
  have hl : l.length = n := by have := h.1; rw [flat_len ncC_len] at this; omega
  have hkl := (List.getElem?_eq_some_iff.1 hk).1
  obtain ⟨ad, e, hb, hc⟩ := h.2 (by omega)
  have f0 := flat_at ncC_len l k r 0 hk (by decide)
  have f1 := flat_at ncC_len l k r 1 hk (by decide)
  have f2 := flat_at ncC_len l k r 2 hk (by decide)
  have f3 := flat_at ncC_len l k r 3 hk (by decide)
  have f4 := flat_at ncC_len l k r 4 hk (by decide)
  refine ⟨ad, e, hb, hc _ _ f0, ?_, ?_, ?_, ?_⟩
  · have := hc _ _ f1; rwa [← add_of_add, add_one] at this
  · have := hc _ _ f2; rwa [← add_of_add, add_one] at this
  · have := hc _ _ f3; rwa [← add_of_add, add_one] at this
  · have := hc _ _ f4; rwa [← add_of_add, add_one] at this
theorem PR.at_ {w : World} {B n k : Nat} {A : Option Addr} {ns : List Nd} (h : PR w B A n ns) (hk : k < n) :
    ∃ ad, A = some ad ∧ ad.block < B ∧ w.cell? (ad.add (k * 5)) = some (.int .i64 (par ns k)) ∧ w.cell? ⟨(ad.add (k * 5)).block, (ad.add (k * 5)).off + 1, none⟩ = some (.string (toB (tagOf ns k))) := by
  have hl := h.len
  obtain ⟨cs, h1, h2, h3⟩ := h
  obtain ⟨nd, hn⟩ := get_lt (ns := ns) (i := k) (by omega)
  obtain ⟨c, hc⟩ : ∃ c, cs[k]? = some c := ⟨_, List.getElem?_eq_getElem (by omega)⟩
  obtain ⟨q1, q2⟩ := h3 k c nd hc hn
  obtain ⟨ad, e, hb, e0, e1, -⟩ := nod_of h1 hc
  rw [par_of hn, tagOf_of hn, ← q1, ← q2]
  exact ⟨ad, e, hb, e0, e1⟩
/-! ### tokens -/
def TkR (w : World) (B : Nat) (c : TC) (t : Tk) : Prop := c.k = t.kind ∧ c.n = toB t.name ∧ c.x = toB t.text ∧ c.m = t.attrs.length ∧ Reads w B 2 c.A c.m (t.attrs.flatMap atC)
/-- A list of tokens, read. -/
def TRK (w : World) (B : Nat) (A : Option Addr) (n : Nat) (ts : List Tk) : Prop := ∃ cs : List TC, Reads w B 4 A n (cs.flatMap tcC) ∧ cs.length = ts.length ∧ ∀ (i : Nat) (c : TC) (t : Tk), cs[i]? = some c → ts[i]? = some t → TkR w B c t
theorem TkR.below {w w' : World} {B B' : Nat} {c : TC} {t : Tk} (h : TkR w B c t) (hb : Below B w w') (hB : B ≤ B') : TkR w' B' c t := by
  obtain ⟨h1, h2, h3, h4, h5⟩ := h
  exact ⟨h1, h2, h3, h4, (h5.below hb).more hB⟩
theorem TRK.below {w w' : World} {B B' : Nat} {A : Option Addr} {n : Nat} {ts : List Tk} (h : TRK w B A n ts) (hb : Below B w w') (hB : B ≤ B') : TRK w' B' A n ts := by
  obtain ⟨cs, h1, h2, h3⟩ := h
  exact ⟨cs, (h1.below hb).more hB, h2, fun i c t hc ht => (h3 i c t hc ht).below hb hB⟩
theorem TRK.len {w : World} {B : Nat} {A : Option Addr} {n : Nat} {ts : List Tk} (h : TRK w B A n ts) : ts.length = n := by
  obtain ⟨cs, h1, h2, -⟩ := h
  have := h1.1
  rw [flat_len tcC_len] at this
  omega
/-- A token that was read, as one that came in. -/
def tkOf (t : T) : Tk := ⟨(t.kind : Int), t.name, t.text, t.attrs⟩
theorem TRK.of {w : World} {B : Nat} {A : Option Addr} {n : Nat} {ts : List T} (h : TR w B A n ts) : TRK w B A n (ts.map tkOf) := by
  obtain ⟨cs, h1, h2, h3⟩ := h
  refine ⟨cs, h1, by rw [h2, List.length_map], fun i c t hc ht => ?_⟩
  rw [List.getElem?_map] at ht
  cases hq : ts[i]? with
  | none => rw [hq] at ht; cases ht
  | some u =>
    rw [hq] at ht
    injection ht with ht
    subst ht
    obtain ⟨q1, q2, q3, q4, q5⟩ := h3 i c u hc hq
    exact ⟨q1, q2, q3, q4, q5⟩
end Tre
end Go.Proofs.YteopighhhcikcaaGreatDoor
/- tree's mayAttrs, mayToken. Conditions: at most a million attributes. -/
namespace Go.Proofs.YteopighhhcikcaaGreatDoor
open Go.ChangeShapes Go.WideShapes Go.ChangeAt Go.RowKit
namespace Tre
open Tok SetI
theorem mayAts_snoc (l : List At) (a : At) : mayAts (l ++ [a]) = (mayAts l && (nameB a.1 && decide (a.1 ∉ l.map (·.1)))) := by
  unfold mayAts
  rw [List.map_append, List.all_append]
  have h : decide ((l.map (·.1) ++ [a].map (·.1)).Nodup) = (decide ((l.map (·.1)).Nodup) && decide (a.1 ∉ l.map (·.1))) := by
    rw [Bool.eq_iff_iff]
    simp only [decide_eq_true_eq, Bool.and_eq_true, List.nodup_append, List.map_cons, List.map_nil]
    constructor
    · rintro ⟨h1, -, h3⟩
      exact ⟨h1, fun h => h3 _ h _ (by simp) rfl⟩
    · rintro ⟨h1, h2⟩
      refine ⟨h1, by simp, ?_⟩
      intro x hx y hy e
      rw [List.mem_singleton] at hy
      subst hy
      subst e
      exact h2 hx
  rw [h]
  simp only [List.all_cons, List.all_nil, Bool.and_true]
  cases decide ((l.map (·.1)).Nodup) <;> cases l.all (fun a => nameB a.1) <;> cases nameB a.1 <;> cases decide (a.1 ∉ l.map (·.1)) <;> rfl
theorem mayAts_take {l : List At} (h : mayAts l = true) (k : Nat) : mayAts (l.take k) = true := by
  unfold mayAts at h ⊢
  simp only [Bool.and_eq_true, decide_eq_true_eq, List.all_eq_true] at h ⊢
  exact ⟨by rw [List.map_take]; exact h.1.sublist (List.take_sublist _ _), fun a ha => h.2 a (List.mem_of_mem_take ha)⟩
theorem mayAts_no {l : List At} {k : Nat} (h : mayAts (l.take k) = false) : mayAts l = false := by
  cases e : mayAts l with
  | false => rfl
  | true => rw [mayAts_take e k] at h; cases h
theorem count_snoc (ks : List (List UInt8)) (k : List UInt8) : ((ks ++ [k]).count k : Nat) = ks.count k + 1 := by rw [List.count_append, List.count_singleton_self]
set_option maxRecDepth 100000 in
set_option maxHeartbeats 8000000 in
theorem mayAttrs_any (A : Option Addr) (n c : Nat) (ats : List At) (hn : n ≤ 900000) (w : World) (hr : Reads w w.heap.size 2 A n (ats.flatMap atC)) (hz : ∀ a ∈ ats, a.1.length ≤ maxLen) :
    Calls Tryz.prog 102 #[.slice A n c] w fun e w' => e = .returned (.bool (mayAts ats)) ∧ Below w.heap.size w w' := by
  have hatl : ats.length = n := by have := hr.1; rw [flat_len atC_len] at this; omega
  have HAL := Lib.hid hatl
  have HZ := Lib.hid hz
  have hmm := @run_makeMap Tryz.prog
  have hSn := Cnt.made w
  have hBm := below_al (Below.refl w.heap.size w) (.map #[] 0)
  obtain ⟨R, hR⟩ : ∃ R, R = mayAts ats := ⟨_, rfl⟩
  have HR := Lib.hid hR
  rw [← hR]
  clear hatl hz hR
  go_enter Tryz.func102, Tryz.ntmps102
  go_wp2
  clear hmm
  obtain ⟨b, hbe⟩ : ∃ b, b = w.heap.size := ⟨_, rfl⟩
  rw [← hbe] at hSn ⊢
  have hbz : w.heap.size ≤ b := Nat.le_of_eq hbe.symm
  clear hbe
  generalize w.alloc (.map #[] 0) = W0 at *
  go_loopw [9] (fun iv wr => ∃ k : Nat, k ≤ n ∧ iv = .int .i64 k ∧ Below w.heap.size w wr ∧ Cnt wr b ((ats.take k).map (·.1)) ∧ Hid (mayAts (ats.take k) = true)) (fun iv _ => n - (intOf iv).toNat)
  case atStart => exact ⟨0, Nat.zero_le _, rfl, hBm, hSn, Lib.hid (by rw [List.take_zero]; rfl)⟩
  case round =>
    obtain ⟨k, hk, rfl, hBr, hS, HM⟩ := hrel
    clear hSn hBm
    by_cases hlt : k < n
    · obtain ⟨a, ha⟩ : ∃ a, ats[k]? = some a := ⟨_, List.getElem?_eq_getElem (by rw [HAL.out]; exact hlt)⟩
      obtain ⟨ad, rfl, -, f0, f1⟩ := attr_of (hr.below hBr) ha
      have hal := HZ.out a (List.mem_of_getElem? ha)
      have cn := fun w => name_any a.1 hal w
      have K1 := Blk.new wr 41 #[.string (toB a.1), .string (toB a.2)]
      have hS1 := hS.next (below_al (Below.refl wr.heap.size wr) (.cells #[.string (toB a.1), .string (toB a.2)] 41))
      have hB1 := below_al hBr (.cells #[.string (toB a.1), .string (toB a.2)] 41)
      have htk : ats.take (k + 1) = ats.take k ++ [a] := by rw [List.take_add_one, ha]; rfl
      have hsn := mayAts_snoc (ats.take k) a
      rw [← htk, HM.out, Bool.true_and] at hsn
      have hmp : (ats.take (k + 1)).map (·.1) = (ats.take k).map (·.1) ++ [a.1] := by rw [htk, List.map_append]; rfl
      have HNO : Hid (mayAts (ats.take (k + 1)) = false → R = false) := fun h => by rw [HR.out]; exact mayAts_no h
      have hkl : ((ats.take k).map (·.1)).length ≤ 900000 := by rw [List.length_map, List.length_take]; omega
      have HMP := Lib.hid hmp
      clear htk ha hmp
      generalize (ats.take k).map (·.1) = ks at *
      have hc1 := hS1.look a.1 hal
      have hcs := count_snoc ks a.1
      have hcl : ks.count a.1 ≤ 900000 := Nat.le_trans List.count_le_length hkl
      have hcp : 0 < ks.count a.1 ↔ a.1 ∈ ks := List.count_pos_iff
      have hnat : (0 : Int) ≤ (ks.count a.1 : Int) := Int.natCast_nonneg _
      obtain ⟨C, hC⟩ : ∃ C, C = ks.count a.1 := ⟨_, rfl⟩
      obtain ⟨C1, hC1⟩ : ∃ C1, C1 = C + 1 := ⟨_, rfl⟩
      rw [← hC] at hc1 hcs hcl hcp hnat
      rw [← hC1] at hcs
      have hci : (C : Int) + 1 = (C1 : Int) := by omega
      have HCS := Lib.hid hcs
      have hc1l : C1 ≤ 900001 := by omega
      have hbr := hS.lt
      cases hnm : nameB a.1 with
      | false =>
        rw [hnm] at cn hsn
        have HF := Lib.hid (HNO.out (by rw [hsn]; rfl))
        clear hnm hsn HNO hcp hC hC1 hcs
        go_wp2_with (first
          | (go_at_call 20; (with_reducible refine (cn _).mono ?_); rintro e w5 ⟨rfl, hb5⟩
             have hB5 := below_next hBu hb5)
          | (refine wpList_put (by rfl) _ _ _ (by rfl) b ks a.1 (by rfl) hS1 hal (by omega) (by rfl) (C1 : Int) (by rw [HCS.out]) (by rfl) ?_
             intro w4 hS4 hg4
             have hBu := hB1.grown hg4 hB1.size (fun k hk => by cases hk; exact hbz)
             have K4 := K1.grown hg4 (fun e => by injection e with e; omega)
             have x0 := K4.cell 0))
        go_ret
        exact ⟨by rw [HF.out]; rfl, hB5⟩
      | true =>
        rw [hnm, Bool.true_and] at hsn
        rw [hnm] at cn
        clear hnm
        by_cases hmem : a.1 ∈ ks
        · rw [decide_eq_false (fun h => h hmem)] at hsn
          have HF := Lib.hid (HNO.out hsn)
          have hgt : (1 : Int) < (C1 : Int) := by have := hcp.2 hmem; omega
          clear hsn HNO hcp hC hC1 hcs hmem
          go_wp2_with (first
            | (go_at_call 20; (with_reducible refine (cn _).mono ?_); rintro e w5 ⟨rfl, hb5⟩
               have hB5 := below_next hBu hb5
               have x5 := (K4.next hb5).cell 0
               have hS5 := hS4.next hb5
               have hc5 := hS5.look a.1 hal
               rw [HCS.out] at hc5)
            | (refine wpList_put (by rfl) _ _ _ (by rfl) b ks a.1 (by rfl) hS1 hal (by omega) (by rfl) (C1 : Int) (by rw [HCS.out]) (by rfl) ?_
               intro w4 hS4 hg4
               have hBu := hB1.grown hg4 hB1.size (fun k hk => by cases hk; exact hbz)
               have K4 := K1.grown hg4 (fun e => by injection e with e; omega)
               have x0 := K4.cell 0))
          go_ret
          exact ⟨by rw [HF.out]; rfl, hB5⟩
        · rw [decide_eq_true hmem] at hsn
          have HT := Lib.hid hsn
          have hgt : ¬ (1 : Int) < (C1 : Int) := by have : ¬ 0 < C := fun h => hmem (hcp.1 h); omega
          clear hsn HNO hcp hC hC1 hcs hmem
          go_wp2_with (first
            | (go_at_call 20; (with_reducible refine (cn _).mono ?_); rintro e w5 ⟨rfl, hb5⟩
               have hB5 := below_next hBu hb5
               have x5 := (K4.next hb5).cell 0
               have hS5 := hS4.next hb5
               have hc5 := hS5.look a.1 hal
               rw [HCS.out] at hc5)
            | (refine wpList_put (by rfl) _ _ _ (by rfl) b ks a.1 (by rfl) hS1 hal (by omega) (by rfl) (C1 : Int) (by rw [HCS.out]) (by rfl) ?_
               intro w4 hS4 hg4
               have hBu := hB1.grown hg4 hB1.size (fun k hk => by cases hk; exact hbz)
               have K4 := K1.grown hg4 (fun e => by injection e with e; omega)
               have x0 := K4.cell 0))
          go_roundw
          case rel => exact ⟨k + 1, by omega, by go_num, hB5, by rw [HMP.out]; exact hS5, HT⟩
          case measure => simp [intOf]; omega
    · obtain rfl : k = n := by omega
      have HT : Hid (R = true) := by show _ = _; rw [HR.out, ← HM.out, List.take_of_length_le (by rw [HAL.out]; exact Nat.le_refl _)]
      go_wp2
      go_ret
      exact ⟨by rw [HT.out]; rfl, hBr⟩
set_option maxRecDepth 100000 in
set_option maxHeartbeats 8000000 in
theorem mayToken_any (c : TC) (t : Tk) (w : World) (h : TkR w w.heap.size c t) (hm : t.attrs.length ≤ 900000) (hn : t.name.length ≤ maxLen) (hz : ∀ a ∈ t.attrs, a.1.length ≤ maxLen) :
    Calls Tryz.prog 97 #[tcV c] w fun e w' => e = .returned (.bool (mayTk t)) ∧ Below w.heap.size w w' := by
  obtain ⟨h1, h2, h3, h4, h5⟩ := h
  have cn := fun w => name_any t.name hn w
  have K1 := Blk.new w 38 #[.int .i64 c.k, .string c.n, .string c.x, .slice c.A c.m c.c]
  have hB1 := below_al (Below.refl w.heap.size w) (.cells #[.int .i64 c.k, .string c.n, .string c.x, .slice c.A c.m c.c] 38)
  have ca := fun w' (hb : Below w.heap.size w w') => mayAttrs_any c.A c.m c.c t.attrs (by omega) w' ((h5.below hb).more hb.size) hz
  rw [← h2] at cn
  unfold mayTk
  rw [← h1]
  unfold tcV
  clear h1 h2 h3 h4 h5 hm hz
  obtain ⟨ck, cnm, cx, cA, cm, cc⟩ := c
  simp only at *
  by_cases e1 : ck = 1
  · subst e1
    rw [if_pos rfl]
    cases hnm : nameB t.name with
    | false =>
      rw [hnm] at cn
      go_enter Tryz.func97, Tryz.ntmps97
      go_wp2_with (go_at_call 20; (with_reducible refine (cn _).mono ?_); rintro e w2 ⟨rfl, hb2⟩
                   have hB2 := below_next hB1 hb2)
      go_ret
      exact ⟨rfl, hB2⟩
    | true =>
      rw [hnm] at cn
      generalize mayAts t.attrs = R at *
      go_enter Tryz.func97, Tryz.ntmps97
      go_wp2_with (first
        | (go_at_call 20; (with_reducible refine (cn _).mono ?_); rintro e w2 ⟨rfl, hb2⟩
           have hB2 := below_next hB1 hb2
           have K2 := K1.next hb2
           obtain ⟨x0, x1, x2, x3⟩ := blk4 K2
           have ca2 := ca w2 hB2)
        | (go_at_call 102; (with_reducible refine ca2.mono ?_); rintro e w3 ⟨rfl, hb3⟩
           have hB3 := below_next hB2 hb3))
      go_ret
      exact ⟨rfl, hB3⟩
  · rw [if_neg e1]
    by_cases e2 : ck = 2
    · subst e2
      rw [if_pos rfl]
      generalize nameB t.name = R at *
      go_enter Tryz.func97, Tryz.ntmps97
      go_wp2_with (go_at_call 20; (with_reducible refine (cn _).mono ?_); rintro e w2 ⟨rfl, hb2⟩
                   have hB2 := below_next hB1 hb2)
      go_ret
      exact ⟨rfl, hB2⟩
    · rw [if_neg e2]
      have d1 : (ck == 1) = false := beq_eq_false_iff_ne.2 e1
      have d2 : (ck == 2) = false := beq_eq_false_iff_ne.2 e2
      have d3 : (ck == 3) = decide (ck = 3) := rfl
      go_enter Tryz.func97, Tryz.ntmps97
      go_wp2
      go_ret
      exact ⟨rfl, hB1⟩
end Tre
end Go.Proofs.YteopighhhcikcaaGreatDoor
/- slices.Clone, of attributes and of numbers. Conditions: at most 900000. -/
namespace Go.Proofs.YteopighhhcikcaaGreatDoor
open Go.ChangeShapes Go.WideShapes Go.ChangeAt Go.RowKit
namespace Tre
open Tok
open RowG (Row)
theorem flat_one {α : Type} {enc : α → List Value} (h : ∀ a, ∀ u ∈ enc a, u.oneCell' = true) (l : List α) : ∀ u ∈ l.flatMap enc, u.oneCell' = true := by
  intro u hu
  obtain ⟨a, -, ha⟩ := List.mem_flatMap.1 hu
  exact h a u ha
theorem kidC_one (k : Int) : ∀ u ∈ kidC k, u.oneCell' = true := by
  intro u hu
  simp only [kidC, List.mem_singleton] at hu
  subst hu
  rfl
theorem info_int : (Tryz.prog.info? 3).map (fun i => (i.zero, i.size, i.bytes)) = some (some (.int .i64 0), 1, 8) := by kernel_rfl
set_option maxRecDepth 100000 in
set_option maxHeartbeats 4000000 in
theorem cloneA_any (A : Option Addr) (n c : Nat) (l : List At) (hn : n ≤ 900000) (w : World) (hr : Reads w w.heap.size 2 A n (l.flatMap atC)) :
    Calls Tryz.prog 81 #[.slice A n c] w fun e w' => ∃ v, e = .returned v ∧ Row w' w.heap.size 41 2 atC v l ∧ Below w.heap.size w w' := by
  have heq := fun w a n c => Lib.run_eql_slice_nil (P := Tryz.prog) w 36 41 a n c 0 0 Tryz.underlying36
  have hl : l.length = n := by have := hr.1; rw [flat_len atC_len] at this; omega
  cases A with
  | none =>
    have h0 : n = 0 := by
      rcases Nat.eq_zero_or_pos n with h | h
      · exact h
      · obtain ⟨ad, e, -⟩ := hr.2 h; cases e
    subst h0
    obtain rfl : l = [] := List.eq_nil_of_length_eq_zero hl
    go_enter Tryz.func81, Tryz.ntmps81
    go_wp2
    go_ret
    exact ⟨_, rfl, Row.nil _ _ _ _ _, Below.refl _ _⟩
  | some ad =>
    obtain ⟨i0, hi0, hz0, hz1, hz2⟩ := info_parts info_at
    have h1 := flat_one atC_one l
    go_enter Tryz.func81, Tryz.ntmps81
    go_wp2_with (at_builtin; go_loud (refine wpList_append_any _ (by rfl) _ _ 36 (by rfl) w.heap.size 41 i0 _ 2 32 Tryz.underlying36 hi0 hz0 hz1 hz2 rfl (by decide) _ 0 [] (by rfl) (World.ownsRow_made w #[] 0 (Nat.le_refl _) (Nat.zero_le _) rfl) w.heap.size (some ad) n c _ (by rfl) (hr.alloc (Nat.le_refl _) _) h1 (by simp only [maxLen]; omega) (by omega) (by simp) ?_)
                 intro v' w' hrow hg _)
    go_ret
    refine ⟨_, rfl, ?_, (below_al (Below.refl w.heap.size w) (.cells #[] 41)).grown hg (by simp) (fun j hj => by simp [Value.ownBlock] at hj; omega)⟩
    unfold RowG.Row
    rw [hl]
    simpa using hrow
set_option maxRecDepth 100000 in
set_option maxHeartbeats 4000000 in
theorem cloneI_any (A : Option Addr) (n c : Nat) (l : List Int) (hn : n ≤ 900000) (w : World) (hr : Reads w w.heap.size 1 A n (l.flatMap kidC)) :
    Calls Tryz.prog 82 #[.slice A n c] w fun e w' => ∃ v, e = .returned v ∧ Row w' w.heap.size 3 1 kidC v l ∧ Below w.heap.size w w' := by
  have heq := fun w a n c => Lib.run_eql_slice_nil (P := Tryz.prog) w 52 3 a n c 0 0 Tryz.underlying52
  have hl : l.length = n := by have := hr.1; rw [flat_len kidC_len] at this; omega
  cases A with
  | none =>
    have h0 : n = 0 := by
      rcases Nat.eq_zero_or_pos n with h | h
      · exact h
      · obtain ⟨ad, e, -⟩ := hr.2 h; cases e
    subst h0
    obtain rfl : l = [] := List.eq_nil_of_length_eq_zero hl
    go_enter Tryz.func82, Tryz.ntmps82
    go_wp2
    go_ret
    exact ⟨_, rfl, Row.nil _ _ _ _ _, Below.refl _ _⟩
  | some ad =>
    obtain ⟨i0, hi0, hz0, hz1, hz2⟩ := info_parts info_int
    have h1 := flat_one kidC_one l
    go_enter Tryz.func82, Tryz.ntmps82
    go_wp2_with (at_builtin; go_loud (refine wpList_append_any _ (by rfl) _ _ 52 (by rfl) w.heap.size 3 i0 _ 1 8 Tryz.underlying52 hi0 hz0 hz1 hz2 rfl (by decide) _ 0 [] (by rfl) (World.ownsRow_made w #[] 0 (Nat.le_refl _) (Nat.zero_le _) rfl) w.heap.size (some ad) n c _ (by rfl) (hr.alloc (Nat.le_refl _) _) h1 (by simp only [maxLen]; omega) (by omega) (by simp) ?_)
                 intro v' w' hrow hg _)
    go_ret
    refine ⟨_, rfl, ?_, (below_al (Below.refl w.heap.size w) (.cells #[] 3)).grown hg (by simp) (fun j hj => by simp [Value.ownBlock] at hj; omega)⟩
    unfold RowG.Row
    rw [hl]
    simpa using hrow
end Tre
end Go.Proofs.YteopighhhcikcaaGreatDoor
namespace Go.Proofs.YteopighhhcikcaaGreatDoor
open Go.ChangeShapes Go.WideShapes Go.ChangeAt Go.RowKit
namespace Tre
open Tok
open RowG (Row)
/-- Blocks of a type lie as they lay. -/
def KT (w w' : World) (e : TypeId) : Prop := ∀ (j : Nat) (cur : Array Value) (fr : Nat × Nat), w.heap[j]? = some (.cells cur e fr) → w'.heap[j]? = w.heap[j]?
theorem KT.refl (w : World) (e : TypeId) : KT w w e := fun _ _ _ _ => rfl
theorem KT.trans {a b c : World} {e : TypeId} (h : KT a b e) (k : KT b c e) : KT a c e := fun j cur fr hj => by
  have h1 := h j cur fr hj
  rw [k j cur fr (h1.trans hj), h1]
theorem KT.below {w w' : World} (h : Below w.heap.size w w') (e : TypeId) : KT w w' e := fun j _ _ hj => h.block j (Array.getElem?_eq_some_iff.1 hj).1
theorem KT.drewN (w : World) (n : Nat) (e : TypeId) : KT w (w.drewN n) e := fun _ _ _ _ => rfl
theorem KT.set {w : World} {g : Nat} {t e : TypeId} {cs : Array Value} (h : Blk w g t cs) (hne : t ≠ e) (i : Nat) (u : Value) : KT w (w.setCell ⟨g, i, none⟩ u) e := fun j cur fr hj => by
  refine Below.heap_setCell w ⟨g, i, none⟩ u j ?_
  rintro rfl
  unfold Blk at h
  rw [h] at hj
  injection hj with hj
  injection hj with _ hj
  exact hne hj
theorem KT.grown {α : Type} {w w' : World} {base k : Nat} {t e : TypeId} {enc : α → List Value} {v : Value} {l : List α} (h : Row w base t k enc v l) (hg : w.grownBy w' v.ownBlock) (hne : t ≠ e) : KT w w' e := fun j cur fr hj => by
  refine hg.block j (Array.getElem?_eq_some_iff.1 hj).1 ?_
  intro he
  rcases h.2 with ⟨rfl, _⟩ | ⟨b, cap, cur2, rfl, _, h5, _⟩
  · simp [Value.ownBlock] at he
  · have : j = b := by simpa [Value.ownBlock] using he
    subst this
    rw [h5] at hj
    injection hj with hj
    injection hj with _ hj
    exact hne hj
theorem row_kt {α : Type} {w w' : World} {base k : Nat} {e : TypeId} {enc : α → List Value} {v : Value} {l : List α} (h : Row w base e k enc v l) (hk : KT w w' e) : Row w' base e k enc v l := by
  refine ⟨h.1, ?_⟩
  rcases h.2 with h2 | ⟨g, cap, cur, h1, h2, h3, h4⟩
  · exact Or.inl h2
  · exact Or.inr ⟨g, cap, cur, h1, h2, (hk g cur _ h3).trans h3, h4⟩
theorem blk_kt {w w' : World} {g : Nat} {e : TypeId} {cs : Array Value} (h : Blk w g e cs) (hk : KT w w' e) : Blk w' g e cs := (hk g cs _ h).trans h
/-- Another row of the type, elsewhere. -/
def Dj (u v : Value) : Prop := ∀ b, u.ownBlock = some b → v.ownBlock ≠ some b
theorem Dj.symm {u v : Value} (h : Dj u v) : Dj v u := fun b hv hu => h b hu hv
theorem row_other {α : Type} {w w' : World} {base k : Nat} {e : TypeId} {enc : α → List Value} {u : Value} {l : List α} {r : Option Nat} (h : Row w base e k enc u l) (hg : w.grownBy w' r) (hd : ∀ b, u.ownBlock = some b → r ≠ some b) : Row w' base e k enc u l := by
  refine ⟨h.1, ?_⟩
  rcases h.2 with h2 | ⟨g, cap, cur, rfl, h2, h3, h4⟩
  · exact Or.inl h2
  · exact Or.inr ⟨g, cap, cur, rfl, h2, (hg.block g (Array.getElem?_eq_some_iff.1 h3).1 (fun e => hd g rfl e.symm)).trans h3, h4⟩
/-- What has grown lies apart from what lay apart. -/
theorem Dj.grown {α : Type} {w : World} {base k : Nat} {e : TypeId} {enc : α → List Value} {u v v' : Value} {l : List α} (h : Dj u v) (hu : Row w base e k enc u l) (ho : v'.ownBlock = v.ownBlock ∨ v'.ownBlock = some w.heap.size) : Dj u v' := fun b hb => by
  rcases ho with e | e
  · rw [e]; exact h b hb
  · rw [e]
    intro e2
    injection e2 with e2
    have := (World.ownsRow.lt hu b hb).2
    omega
theorem row_max {α : Type} {w : World} {base k n c : Nat} {e : TypeId} {enc : α → List Value} {A : Option Addr} {l : List α} (h : Row w base e k enc (.slice A n c) l) : l.length ≤ maxLen := by
  rcases h.2 with ⟨-, h0⟩ | ⟨b, cap, cur, -, -, -, h4, h5, -⟩
  · omega
  · omega
/-- One cell of one struct of a row, written. -/
theorem row_cell {α : Type} {w : World} {base k n c : Nat} {e : TypeId} {enc : α → List Value} {A : Option Addr} {l : List α} (hlen : ∀ x, (enc x).length = k) (h : Row w base e k enc (.slice A n c) l) {i j : Nat} {x y : α} (hx : l[i]? = some x) (hj : j < k) {u : Value} (hy : enc y = (enc x).set j u) :
    ∃ b, A = some ⟨b, 0, none⟩ ∧ base ≤ b ∧ (∃ cur, Blk w b e cur) ∧ Row (w.setCell ⟨b, i * k + j, none⟩ u) base e k enc (.slice A n c) (l.set i y) := by
  have hil := (List.getElem?_eq_some_iff.1 hx).1
  rcases h.2 with ⟨h1, h0⟩ | ⟨b, cap, cur, h1, h2, h3, h4, h5, h6, h7⟩
  · omega
  · injection h1 with h1 hn hc
    subst h1
    refine ⟨b, rfl, h2, ⟨cur, h3⟩, ?_⟩
    have hlt : i * k + j < l.length * k := by
      have : (i + 1) * k ≤ l.length * k := Nat.mul_le_mul_right k hil
      rw [Nat.add_mul, Nat.one_mul] at this
      omega
    have hfl : (l.set i y).flatMap enc = (l.flatMap enc).set (i * k + j) u := by
      apply List.ext_getElem?
      intro q
      have hk : 0 < k := by omega
      obtain ⟨a, b', hq, hb'⟩ : ∃ a b', q = a * k + b' ∧ b' < k := ⟨q / k, q % k, by rw [Nat.mul_comm]; exact (Nat.div_add_mod q k).symm, Nat.mod_lt _ hk⟩
      subst hq
      rw [List.getElem?_set]
      by_cases ha : a < l.length
      · have g1 := flat_at hlen (l.set i y) a ((l.set i y)[a]'(by simpa using ha)) b' (List.getElem?_eq_getElem _) hb'
        have g2 := flat_at hlen l a (l[a]) b' (List.getElem?_eq_getElem _) hb'
        rw [g1, g2]
        by_cases hia : i = a
        · subst hia
          have ex : l[i] = x := by rw [List.getElem?_eq_getElem ha] at hx; exact Option.some.inj hx
          rw [List.getElem_set_self, ex, hy, List.getElem?_set]
          by_cases hjb : j = b'
          · subst hjb
            rw [if_pos rfl, if_pos rfl, hlen, if_pos hb', flat_len hlen, if_pos (by omega)]
          · rw [if_neg hjb, if_neg (by omega)]
        · rw [List.getElem_set_ne hia]
          have hne : ¬ i * k + j = a * k + b' := by
            intro e
            have h1 : (i * k + j) / k = i := by rw [Nat.mul_comm, Nat.mul_add_div hk, Nat.div_eq_of_lt hj, Nat.add_zero]
            have h2 : (a * k + b') / k = a := by rw [Nat.mul_comm, Nat.mul_add_div hk, Nat.div_eq_of_lt hb', Nat.add_zero]
            rw [e, h2] at h1
            exact hia h1.symm
          rw [if_neg hne]
      · have hge : l.length * k ≤ a * k + b' := by
          have := Nat.mul_le_mul_right k (Nat.le_of_not_lt ha)
          omega
        rw [List.getElem?_eq_none (by rw [flat_len hlen, List.length_set]; exact hge), if_neg (by omega), List.getElem?_eq_none (by rw [flat_len hlen]; exact hge)]
    refine ⟨by rw [flat_len hlen], .inr ⟨b, cap, cur.setIfInBounds (i * k + j) u, ?_, h2, ?_, ?_, h5, ?_, ?_⟩⟩
    · rw [List.length_set, hn, hc]
    · exact Blk.set_ h3 _ u
    · rw [List.length_set]; exact h4
    · rw [Array.size_setIfInBounds]; exact h6
    · rw [hfl, ← h7, List.length_set, Array.toList_setIfInBounds, List.take_set]
end Tre
end Go.Proofs.YteopighhhcikcaaGreatDoor
