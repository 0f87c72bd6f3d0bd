/- TreeMay's walk: what is built may be. Conditions: as the theorem's premises say. -/
import Derived.Test.YteopighhhcikcaaGreatDoorRtF
import Derived.Test.YteopighhhcikcaaGreatDoorTreeMath4
import Derived.Deep.RegionHeld3
import Derived.Test.YteopighhhcikcaaGreatDoorTreeF
import Derived.Test.YteopighhhcikcaaGreatDoorTreeMath5
import Derived.Test.YteopighhhcikcaaGreatDoorTreeR
import Derived.BigQuiet
import Derived.Test.YteopighhhcikcaaGreatDoorTokMath4
import Derived.Test.YteopighhhcikcaaGreatDoorTreeTexts
/- scrimref05: attrs and one. Conditions: as the theorems' premises say. -/
namespace Go.Proofs.YteopighhhcikcaaGreatDoor
open Go.ChangeShapes Go.WideShapes Go.ChangeAt Go.RowKit Go.Shelf
namespace Tre
open Tok
theorem rAts_snoc (l : List At) (a : At) : mayAts (l ++ [a]) = (mayAts l && !(l.any (fun b => b.1 == a.1)) && nameB a.1) := by
  unfold mayAts
  rw [List.map_append, List.all_append]
  have e : decide ((l.map (·.1) ++ [a].map (·.1)).Nodup) = (decide ((l.map (·.1)).Nodup) && !(l.any (fun b => b.1 == a.1))) := by
    rw [Bool.eq_iff_iff]
    simp only [decide_eq_true_eq, Bool.and_eq_true, Bool.not_eq_true', List.any_eq_false, beq_iff_eq]
    rw [List.nodup_append]
    constructor
    · rintro ⟨h1, -, h3⟩
      exact ⟨h1, fun b hb e => h3 b.1 (List.mem_map.2 ⟨b, hb, rfl⟩) a.1 (by simp) e⟩
    · rintro ⟨h1, h2⟩
      refine ⟨h1, by simp, fun x hx y hy => ?_⟩
      obtain ⟨b, hb, rfl⟩ := List.mem_map.1 hx
      obtain rfl : y = a.1 := by simpa using hy
      exact h2 b hb
  rw [e]
  simp only [List.all_cons, List.all_nil, Bool.and_true]
  cases decide ((l.map (·.1)).Nodup) <;> cases (l.any (fun b => b.1 == a.1)) <;> cases (l.all fun a => nameB a.1) <;> cases nameB a.1 <;> rfl
theorem rAts_take {l : List At} (h : mayAts l = true) (k : Nat) : mayAts (l.take k) = true := by
  unfold mayAts at *
  rw [Bool.and_eq_true, decide_eq_true_eq, List.all_eq_true] at *
  refine ⟨?_, fun a ha => h.2 a (List.mem_of_mem_take ha)⟩
  rw [List.map_take]
  exact h.1.sublist (List.take_sublist _ _)
theorem rAts_pre {w : World} {B n a : Nat} {A : Option Addr} {cs : List At} (h : Reads w B 2 A n (cs.flatMap atC)) (ha : a ≤ n) : Reads w B 2 A a ((cs.take a).flatMap atC) := by
  have hl : cs.length = n := by have := h.1; rw [flat_len atC_len] at this; omega
  have e : cs.flatMap atC = (cs.take a).flatMap atC ++ (cs.drop a).flatMap atC := by rw [← List.flatMap_append, List.take_append_drop]
  refine ⟨by rw [flat_len atC_len, List.length_take]; congr 1; omega, fun h0 => ?_⟩
  obtain ⟨ad, h1, h2, h3⟩ := h.2 (by omega)
  refine ⟨ad, h1, h2, fun j u hu => h3 j u ?_⟩
  rw [e, List.getElem?_append_left (List.getElem?_eq_some_iff.1 hu).1]
  exact hu
set_option maxRecDepth 100000 in
theorem rAts_slice (A : Option Addr) (n c a : Nat) (ha : a ≤ c) (w : World) : (Instr.slice 36 (.slice A n c) none (some (.int .i64 (a : Int))) none).run Tryz.prog w = .ok (.slice A a c) w := by
  have h := run_slice_h (P := Tryz.prog) (w := w) (t := 36) (a := A) (len := n) (cap := c) Tryz.underlying36 .i64 a (by omega) (by omega)
  rw [h]
  have hs : (sizeOf (Tryz.prog.elem 36)).run Tryz.prog w = .ok 2 w := by kernel_rfl
  rw [hs]
  have e : A.map (fun x => x.add (0 * 2)) = A := by cases A <;> simp [Addr.add]
  by_cases hc : c = 0
  · simp [Result.andThen, sliced, hc]
  · simp only [Result.andThen, sliced, Int.toNat_natCast, Nat.sub_zero, if_neg hc]
    rw [e]
set_option maxRecDepth 100000 in
set_option maxHeartbeats 8000000 in
theorem rAttrs_any (A : Option Addr) (n c : Nat) (ats : List At) (hn : n ≤ 900000) (hnc : n ≤ c) (hsm : ∀ a ∈ ats, a.1.length ≤ 140737488351232) (w : World) (h1 : Reads w w.heap.size 2 A n (ats.flatMap atC)) :
    Calls Tryz.prog 101 #[.slice A n c] w fun e w' => e = .returned (.bool (mayAts ats)) ∧ Below w.heap.size w w' := by
  have hl1 : ats.length = n := by have := h1.1; rw [flat_len atC_len] at this; omega
  obtain ⟨R, hR⟩ : ∃ R, R = mayAts ats := ⟨_, rfl⟩
  rw [← hR]
  have HR := Lib.hid hR
  have HL := Lib.hid hl1
  have HSM := Lib.hid hsm
  clear hR hl1 hsm
  go_enter Tryz.func101, Tryz.ntmps101
  go_wp2
  go_loopw [3, 4, 5] (fun iv _ _ wr => ∃ k : Nat, k ≤ n ∧ iv = .int .i64 k ∧ Hid (mayAts (ats.take k) = true) ∧ Below w.heap.size w wr) (fun iv _ _ _ => n - (intOf iv).toNat)
  case atStart => exact ⟨0, Nat.zero_le _, rfl, rfl, Below.refl _ _⟩
  case round =>
    obtain ⟨k, hk, rfl, HK, hBr⟩ := hrel
    by_cases hlt : k < n
    · obtain ⟨a, ha⟩ : ∃ a, ats[k]? = some a := ⟨_, List.getElem?_eq_getElem (by rw [HL.out]; exact hlt)⟩
      have hr1 := h1.below hBr
      obtain ⟨ad, rfl, hadb, f0, f1⟩ := attr_of hr1 ha
      have hsl := rAts_slice (some ad) n c k (by omega)
      have cat := fun W' (hS : W'.cell? (ad.add (k * 2)) = some (.string (toB a.1)) ∧ Below w.heap.size w W') => Rt.attr_any (some ad) k c (ats.take k) a.1 (by omega) W' w.heap.size (rAts_pre (h1.below hS.2) hk)
      have cnm := fun w => Rt.name_any a.1 (HSM.out a (List.mem_of_getElem? ha)) w
      have HS : Hid (mayAts (ats.take (k + 1)) = (mayAts (ats.take k) && !((ats.take k).any (fun b => b.1 == a.1)) && nameB a.1)) := by
        show _ = _
        rw [List.take_add_one, ha]
        exact rAts_snoc _ _
      have HF : Hid (mayAts (ats.take (k + 1)) = false → R = false) := by
        intro h
        rw [HR.out]
        cases hm : mayAts ats with
        | false => rfl
        | true => rw [rAts_take hm] at h; cases h
      clear ha
      generalize (ats.take k).any (fun b => b.1 == a.1) = is at *
      have hS0 : wr.drew.cell? (ad.add (k * 2)) = some (.string (toB a.1)) ∧ Below w.heap.size w wr.drew := ⟨f0, hBr.drew⟩
      have hki : (k : Int) < (n : Int) := by omega
      clear f1 hr1
      go_wp2
      first
      | (go_region_held3 (fun W' => W'.cell? (ad.add (k * 2)) = some (.string (toB a.1)) ∧ Below w.heap.size w W')
          (first | assumption | exact hS0)
          (first | (go_at_call 78; (with_reducible refine (cat _ (by first | assumption | exact hS0)).mono ?_); rintro e w3 ⟨⟨v, rfl⟩, rfl⟩)))
      | (trace "FAILED"; fail)
      rename_i hS3
      obtain ⟨f3, hB3⟩ := hS3
      have cn3 := cnm wr.drew
      clear cat hS0 f0 hsl cnm hBr
      generalize wr.drew = W3 at *
      cases is with
      | true =>
        obtain rfl : R = false := HF.out (by rw [HS.out]; simp)
        go_wp2
        go_ret
        exact ⟨rfl, hB3⟩
      | false =>
        cases hnm : nameB a.1 with
        | false =>
          obtain rfl : R = false := HF.out (by rw [HS.out, hnm]; simp)
          rw [hnm] at cn3
          clear hnm
          go_wp2_with (first
            | (go_at_call 21; (with_reducible refine cn3.mono ?_); rintro e w4 ⟨rfl, hb4⟩))
          go_ret
          exact ⟨rfl, below_next hB3 hb4⟩
        | true =>
          have HK1 : Hid (mayAts (ats.take (k + 1)) = true) := by show _ = _; rw [HS.out, HK.out, hnm]; rfl
          rw [hnm] at cn3
          clear hnm
          go_wp2_with (first
            | (go_at_call 21; (with_reducible refine cn3.mono ?_); rintro e w4 ⟨rfl, hb4⟩))
          go_roundw
          case rel => exact ⟨k + 1, by omega, by go_num, HK1, below_next hB3 hb4⟩
          case measure => simp [intOf]; omega
    · obtain rfl : k = n := by omega
      obtain rfl : R = true := by
        rw [HR.out, ← List.take_of_length_le (show ats.length ≤ k by rw [HL.out]; exact Nat.le_refl _)]
        exact HK.out
      clear HK
      go_wp2
      go_ret
      exact ⟨rfl, hBr⟩
theorem rToB_eq (a b : List UInt8) : ((toB a).toList == (toB b).toList) = decide (a = b) := by
  rw [toB_toList, toB_toList]
  by_cases h : a = b <;> simp [h]
theorem rLit_eq (l : List UInt8) (m : List UInt8) : ((toB l).toList == m) = decide (l = m) := by rw [toB_toList]; by_cases h : l = m <;> simp [h]
set_option maxRecDepth 100000 in
set_option maxHeartbeats 8000000 in
theorem rOne_any (A K : Option Addr) (c d : Nat) (nd : Nd) (hn : nd.attrs.length ≤ 900000) (hk : nd.kids.length ≤ 900000) (hnc : nd.attrs.length ≤ c) (hsm : ∀ a ∈ nd.attrs, a.1.length ≤ 140737488351232) (ht : nd.tag.length ≤ 140737488351232) (w : World) (h1 : Reads w w.heap.size 2 A nd.attrs.length (nd.attrs.flatMap atC)) :
    Calls Tryz.prog 65 #[.agg #[.int .i64 nd.parent, .string (toB nd.tag), .string (toB nd.text), .slice A nd.attrs.length c, .slice K nd.kids.length d]] w fun e w' => e = .returned (.bool (mayNd nd)) ∧ Below w.heap.size w w' := by
  obtain ⟨p, tag, text, ats, kids⟩ := nd
  simp only at hn hk hnc hsm ht h1 ⊢
  have ca := fun w' (hb : Below w.heap.size w w') => rAttrs_any A ats.length c ats hn hnc hsm w' ((h1.below hb).more hb.size)
  have cn := fun w => Rt.name_any tag ht w
  have e1 := rLit_eq tag []
  have e2 := rLit_eq tag [114, 111, 111, 116]
  have e3 := rLit_eq tag [105, 109, 103]
  have e4 := rLit_eq text []
  have d1 : ((ats.length : Int) == 0) = decide (ats = []) := by cases ats <;> simp <;> omega
  have d2 : ((kids.length : Int) == 0) = decide (kids = []) := by cases kids <;> simp <;> omega
  have K0 : Blk (w.alloc (.cells #[.int .i64 p, .string (toB tag), .string (toB text), .slice A ats.length c, .slice K kids.length d] 54)) w.heap.size 54 #[.int .i64 p, .string (toB tag), .string (toB text), .slice A ats.length c, .slice K kids.length d] := Blk.new _ _ _
  have hB0 := below_al (Below.refl w.heap.size w) (.cells #[.int .i64 p, .string (toB tag), .string (toB text), .slice A ats.length c, .slice K kids.length d] 54)
  obtain ⟨R, hR⟩ : ∃ R, R = mayNd ⟨p, tag, text, ats, kids⟩ := ⟨_, rfl⟩
  rw [← hR]
  unfold mayNd at hR
  simp only at hR
  have HR := Lib.hid hR
  have HN := Lib.hid hn
  have HK := Lib.hid hk
  clear hR h1 hsm ht
  go_enter Tryz.func65, Tryz.ntmps65
  by_cases t0 : tag = []
  · rw [decide_eq_true t0] at e1
    have HR2 : Hid (R = (decide (text ≠ []) && decide (ats = []) && decide (kids = []))) := by show _ = _; rw [HR.out, if_pos t0]
    clear HR e2 e3 ca cn t0
    go_wp2
    all_goals
      go_ret
      refine ⟨?_, below_al (Below.refl _ _) _⟩
      rw [HR2.out]
      simp [*]
  · rw [decide_eq_false t0] at e1
    have HR2 : Hid (R = (if tag = imgT ∧ kids ≠ [] then false else nameB tag && decide (tag ≠ rootT) && decide (text = []) && mayAts ats)) := by show _ = _; rw [HR.out, if_neg t0]
    clear HR t0
    have ca1 := fun w' hb => ca w' hb
    generalize nameB tag = nb at *
    generalize mayAts ats = ma at *
    clear hB0
    go_wp2_with (first
      | (go_at_call 21; (with_reducible refine (cn _).mono ?_); rintro e w4 ⟨rfl, hb4⟩
         have hB4 := below_next (below_al (Below.refl w.heap.size w) (.cells #[.int .i64 p, .string (toB tag), .string (toB text), .slice A ats.length c, .slice K kids.length d] 54)) hb4
         have K4 := K0.next hb4
         have y1 : w4.cell? ⟨w.heap.size, 1, none⟩ = some (.string (toB tag)) := K4.cell 1
         have y2 : w4.cell? ⟨w.heap.size, 2, none⟩ = some (.string (toB text)) := K4.cell 2
         have y3 : w4.cell? ⟨w.heap.size, 3, none⟩ = some (.slice A ats.length c) := K4.cell 3
         have y4 : w4.cell? ⟨w.heap.size, 4, none⟩ = some (.slice K kids.length d) := K4.cell 4
         have ca4 := ca1 w4 hB4)
      | (go_at_call 101; (with_reducible refine ca4.mono ?_); rintro e w5 ⟨rfl, hb5⟩
         have hB5 := below_next hB4 hb5
         have K5 := K4.next hb5
         have z1 : w5.cell? ⟨w.heap.size, 1, none⟩ = some (.string (toB tag)) := K5.cell 1
         have z4 : w5.cell? ⟨w.heap.size, 4, none⟩ = some (.slice K kids.length d) := K5.cell 4))
    all_goals
      go_ret
      refine ⟨?_, by first | exact hB5 | exact hB4⟩
      rw [HR2.out]
      clear e1 e2 e3 e4 d1 d2 cn ca ca1 K0
      simp only [rootT, imgT]
      by_cases hkk : kids = [] <;> simp [*]
end Tre
end Go.Proofs.YteopighhhcikcaaGreatDoor
/- scrimref05: depth. Conditions: as the theorem's premises say. -/
namespace Go.Proofs.YteopighhhcikcaaGreatDoor
open Go.ChangeShapes Go.WideShapes Go.ChangeAt Go.RowKit Go.Shelf
namespace Tre
open Tok
theorem up_end {ns : List Nd} {j : Nat} (hj : j < ns.length) (hp : par ns j < 0) : (up ns j).length = 1 := by
  rw [up_yes ns j hj, upF_no _ _ _ (by omega)]
  rfl
theorem up_on {ns : List Nd} {j a : Nat} (hj : j < ns.length) (hp : par ns j = (a : Int)) (ha : a < j) : (up ns j).length = 1 + (up ns a).length := by
  rw [up_yes ns j hj, hp, upF_up ns j a ha (by omega), List.length_cons]
  omega
set_option maxRecDepth 100000 in
set_option maxHeartbeats 8000000 in
theorem rDepth_any (A : Option Addr) (n c : Nat) (ns : List Nd) (at_ : Nat) (hn : n ≤ 1000000) (hat : at_ < n) (hp : ∀ k, k ≤ at_ → par ns k < (k : Int)) (w : World) (h : PR w w.heap.size A n ns) :
    Calls Tryz.prog 66 #[.slice A n c, .int .i64 at_] w fun e w' => e = .returned (.int .i64 (((up ns at_).length - 1 : Nat) : Int)) ∧ w = w' := by
  have HL := Lib.hid h.len
  have HP := Lib.hid hp
  have hul := up_len ns at_
  rw [h.len] at hul
  obtain ⟨U, hU⟩ : ∃ U, U = (up ns at_).length := ⟨_, rfl⟩
  rw [← hU] at hul ⊢
  have HU := Lib.hid hU
  clear hp hU
  go_enter Tryz.func66, Tryz.ntmps66
  go_wp2
  go_loop [1, 5] (fun iv mv => ∃ j k : Nat, j ≤ at_ ∧ iv = .int .i64 j ∧ mv = .int .i64 k ∧ k ≤ 1000000 ∧ Hid (U = k + (up ns j).length)) (fun iv _ => (intOf iv).toNat)
  case atStart => exact ⟨at_, 0, Nat.le_refl _, rfl, rfl, by omega, by show _ = _; rw [HU.out]; omega⟩
  case round =>
    obtain ⟨j, k, hj, rfl, rfl, hk, HR⟩ := hrel
    have hjn : j < n := by omega
    obtain ⟨ad, rfl, -, e0, -⟩ := h.at_ hjn
    have hlt := HP.out j hj
    have hji : (j : Int) < (n : Int) := by omega
    by_cases h0 : 0 ≤ par ns j
    · obtain ⟨a, ha⟩ : ∃ a : Nat, par ns j = (a : Int) := ⟨(par ns j).toNat, by omega⟩
      have hau := up_on (by rw [HL.out]; exact hjn) ha (by omega)
      have hul2 := up_len ns a
      rw [HL.out] at hul2
      have HR2 : Hid (U = k + 1 + (up ns a).length) := by show _ = _; rw [HR.out, hau]; omega
      have haj : a < j := by omega
      rw [ha] at e0
      clear hau ha hul2 h0 hlt
      go_wp2
      go_round
      case rel => exact ⟨a, k + 1, by omega, rfl, by go_num, by have := HR2.out; omega, HR2⟩
      case measure => simp [intOf]; omega
    · have h1 := up_end (by rw [HL.out]; exact hjn) (by omega : par ns j < 0)
      obtain rfl : U = k + 1 := by rw [HR.out, h1]
      have hneg : decide (0 ≤ par ns j) = false := decide_eq_false h0
      have hneg2 : par ns j < 0 := by omega
      clear h1 HR HU hlt h0
      go_wp2
      go_ret
      exact ⟨rfl, rfl⟩
end Tre
end Go.Proofs.YteopighhhcikcaaGreatDoor
/- The mathematics of the reference's May. Conditions: none. -/
namespace Go.Proofs.YteopighhhcikcaaGreatDoor
namespace Tre
open Tok
theorem stands_mem {ns : List Nd} {i : Nat} (h : stands ns i = true) (h0 : 0 < i) (hi : i < ns.length) : ∃ a : Nat, par ns i = (a : Int) ∧ a ∈ up ns ((i - 1 : Nat) : Int) ∧ (up ns a).length ≤ 12 ∧ a < i := by
  unfold stands at h
  have e : ((i : Int) - 1) = ((i - 1 : Nat) : Int) := by omega
  rw [e] at h
  split at h
  · rename_i a ha
    obtain ⟨hm, hp⟩ := find_mem ha
    have hp : (a : Int) = par ns i := by simpa using hp
    have hle := up_le (by omega : i - 1 < ns.length) hm
    exact ⟨a, hp.symm, hm, by simpa using h, by omega⟩
  · cases h
/-- What a document that may be is, as the reference asks it. -/
theorem may_par {ns : List Nd} (h : mayP ns = true) : ∀ k, k < ns.length → par ns k < (k : Int) := by
  obtain ⟨⟨r, hr0, hr1⟩, hp0, h60, hst, hkd, hsd⟩ := mayP_of h
  intro k hk
  by_cases h0 : k = 0
  · subst h0
    unfold mayRoot at hr1
    simp only [Bool.and_eq_true, decide_eq_true_eq] at hr1
    rw [par_of hr0, hr1.1.1.1]
    omega
  · obtain ⟨a, ha, -, -, hlt⟩ := stands_mem (hst k (by omega) hk).1 (by omega) hk
    rw [ha]; omega
theorem may_up {ns : List Nd} (h : mayP ns = true) {i : Nat} (h0 : 0 < i) (hi : i < ns.length) : (up ns i).length - 1 ≤ 12 := by
  obtain ⟨-, -, -, hst, -, -⟩ := mayP_of h
  obtain ⟨a, ha, -, h12, hlt⟩ := stands_mem (hst i h0 hi).1 h0 hi
  rw [up_on hi ha hlt]
  omega
/-- The kids of i among the nodes ahead of k. -/
def kidTo (ns : List Nd) (i k : Nat) : List Int := ((List.range k).filter (fun j => decide (i < j) && decide (par ns j = (i : Int)))).map (fun j : Nat => (j : Int))
theorem kidTo_snoc (ns : List Nd) (i k : Nat) : kidTo ns i (k + 1) = kidTo ns i k ++ (if i < k ∧ par ns k = (i : Int) then [(k : Int)] else []) := by
  unfold kidTo
  rw [List.range_succ, List.filter_append, List.map_append]
  congr 1
  by_cases h : i < k ∧ par ns k = (i : Int)
  · rw [if_pos h]; simp [h.1, h.2]
  · rw [if_neg h]
    have : (decide (i < k) && decide (par ns k = (i : Int))) = false := by
      rw [Bool.and_eq_false_iff]
      by_cases hik : i < k
      · exact .inr (decide_eq_false fun e => h ⟨hik, e⟩)
      · exact .inl (decide_eq_false hik)
    simp [this]
theorem kidTo_none (ns : List Nd) (i : Nat) : kidTo ns i (i + 1) = [] := by
  unfold kidTo
  rw [List.map_eq_nil_iff, List.filter_eq_nil_iff]
  intro j hj
  have := List.mem_range.1 hj
  simp; omega
theorem kidTo_all {ns : List Nd} (h : mayP ns = true) {i : Nat} (hi : i < ns.length) : kidTo ns i ns.length = kidsOf ns i := by
  have hp := may_par h
  obtain ⟨-, -, -, -, hkd, -⟩ := mayP_of h
  rw [hkd i hi]
  unfold kidTo kidL
  congr 1
  apply List.filter_congr
  intro j hj
  have hjl := List.mem_range.1 hj
  have := hp j hjl
  by_cases e : par ns j = (i : Int)
  · rw [decide_eq_true e, Bool.and_true, Bool.and_true]
    congr 1
    rw [eq_iff_iff]
    omega
  · rw [decide_eq_false e, Bool.and_false, Bool.and_false]
theorem kidTo_len (ns : List Nd) (i k : Nat) : (kidTo ns i k).length ≤ k := by
  unfold kidTo
  rw [List.length_map]
  have := List.length_filter_le (fun j => decide (i < j) && decide (par ns j = (i : Int))) (List.range k)
  rw [List.length_range] at this
  exact this
theorem may_ge {ns : List Nd} (h : mayP ns = true) : ∀ k, k < ns.length → -1 ≤ par ns k := by
  obtain ⟨⟨r, hr0, hr1⟩, hp0, h60, hst, hkd, hsd⟩ := mayP_of h
  intro k hk
  by_cases h0 : k = 0
  · subst h0
    unfold mayRoot at hr1
    simp only [Bool.and_eq_true, decide_eq_true_eq] at hr1
    rw [par_of hr0, hr1.1.1.1]
    omega
  · obtain ⟨a, ha, -, -, hlt⟩ := stands_mem (hst k (by omega) hk).1 (by omega) hk
    rw [ha]; omega
theorem mem_up {ns : List Nd} {a j : Nat} (h : a ∈ up ns j) (hj : j < ns.length) (hp : par ns j < (j : Int)) : a = j ∨ ∃ b : Nat, par ns j = (b : Int) ∧ a ∈ up ns b := by
  rw [up_yes ns j hj, List.mem_cons] at h
  rcases h with h | h
  · exact .inl h
  · by_cases h0 : 0 ≤ par ns j
    · obtain ⟨b, hb⟩ : ∃ b : Nat, par ns j = (b : Int) := ⟨(par ns j).toNat, by omega⟩
      rw [hb, upF_up ns j b (by omega) (by omega)] at h
      exact .inr ⟨b, hb, h⟩
    · rw [upF_no _ _ _ (by omega)] at h
      cases h
theorem may_short {ns : List Nd} (h : mayP ns = true) : ∀ nd ∈ ns, nd.tag.length ≤ 20 ∧ ∀ a ∈ nd.attrs, a.1.length ≤ 20 := by
  obtain ⟨⟨r, hr0, hr1⟩, hp0, h60, hst, hkd, hsd⟩ := mayP_of h
  intro nd hnd
  obtain ⟨i, hi⟩ := List.getElem?_of_mem hnd
  have hil := (List.getElem?_eq_some_iff.1 hi).1
  by_cases h0 : i = 0
  · subst h0
    rw [hr0] at hi
    injection hi with hi
    subst hi
    unfold mayRoot at hr1
    simp only [Bool.and_eq_true, decide_eq_true_eq] at hr1
    rw [hr1.1.1.2, hr1.2]
    exact ⟨by decide, fun a ha => (by cases ha)⟩
  · have hm := (hst i (by omega) hil).2
    unfold mayOne at hm
    rw [hi] at hm
    have hm : mayNd nd = true := hm
    unfold mayNd at hm
    split at hm
    · rename_i ht
      simp only [Bool.and_eq_true, decide_eq_true_eq] at hm
      rw [ht, hm.1.2]
      exact ⟨by decide, fun a ha => (by cases ha)⟩
    · split at hm
      · cases hm
      · simp only [Bool.and_eq_true, decide_eq_true_eq] at hm
        obtain ⟨⟨⟨h1, -⟩, -⟩, h4⟩ := hm
        unfold mayAts at h4
        rw [Bool.and_eq_true, List.all_eq_true] at h4
        exact ⟨(nameB_len h1).2, fun a ha => (nameB_len (h4.2 a ha)).2⟩
end Tre
end Go.Proofs.YteopighhhcikcaaGreatDoor
/- scrimref05: May answers true where a document may be. Conditions: as the theorem's premises say. -/
namespace Go.Proofs.YteopighhhcikcaaGreatDoor
open Go.ChangeShapes Go.WideShapes Go.ChangeAt Go.RowKit Go.Shelf
namespace Tre
open Tok
open RowG (Row)
set_option maxRecDepth 100000 in
set_option maxHeartbeats 16000000 in
theorem rMay_yes (A : Option Addr) (n c : Nat) (ns : List Nd) (hm : mayP ns = true) (hf : ∀ nd ∈ ns, nd.attrs.length ≤ 900000) (w : World) (h : NR w w.heap.size A n ns) :
    Calls Tryz.prog 30 #[.slice A n c] w fun e w' => e = .returned (.bool true) ∧ Below w.heap.size w w' := by
  have hlen := h.len
  obtain ⟨⟨r, hr0, hr1⟩, hp0, h60, hst, hkd, hsd⟩ := mayP_of hm
  rw [hlen] at hp0 h60
  have HL := Lib.hid hlen
  have HM := Lib.hid hm
  have HST := Lib.hid hst
  have HSD := Lib.hid hsd
  have HF := Lib.hid hf
  obtain ⟨ad, cA, cc, cK, cd, rfl, hadb, e0, e1, e2, e3, e4, -, -⟩ := h.at_ hr0
  have hz : ad.add (0 * 5) = ad := by rw [Nat.zero_mul]; unfold Addr.add; rw [if_pos rfl]
  unfold mayRoot at hr1
  simp only [Bool.and_eq_true, decide_eq_true_eq] at hr1
  rw [hz, hr1.1.1.1] at e0
  rw [hz, hr1.1.1.2] at e1
  rw [hz, hr1.1.2] at e2
  rw [hz, hr1.2] at e3
  clear hr1 hr0 hst hsd hkd hm hf hlen e4 hz
  replace e1 : w.cell? ⟨ad.block, ad.off + 1, none⟩ = some (.string ⟨#[114, 111, 111, 116]⟩) := e1
  replace e2 : w.cell? ⟨ad.block, ad.off + 2, none⟩ = some (.string ⟨#[]⟩) := e2
  replace e3 : w.cell? ⟨ad.block, ad.off + 3, none⟩ = some (.slice cA 0 cc) := e3
  have hn1 : decide ((n : Int) < 1) = false := decide_eq_false (by omega)
  have hn60 : decide ((60 : Int) < (n : Int)) = false := decide_eq_false (by omega)
  have hi0 : (0 : Int) < (n : Int) := by omega
  have hz2 : ad.add 0 = ad := by unfold Addr.add; rw [if_pos rfl]
  go_enter Tryz.func30, Tryz.ntmps30
  go_wp2
  clear e0 e1 e2 e3 hz2 hn1 hn60 hi0
  go_loopw [3, 4, 5, 6] (fun iv _ _ _ wr => ∃ i : Nat, 1 ≤ i ∧ i ≤ n ∧ iv = .int .i64 i ∧ Below w.heap.size w wr) (fun iv _ _ _ _ => n - (intOf iv).toNat)
  case atStart => exact ⟨1, Nat.le_refl _, hp0, rfl, Below.refl _ _⟩
  case round =>
    obtain ⟨i, hi1, hin, rfl, hBr⟩ := hrel
    by_cases hlt : i < n
    · obtain ⟨nd, hnd⟩ : ∃ nd, ns[i]? = some nd := ⟨_, List.getElem?_eq_getElem (by rw [HL.out]; exact hlt)⟩
      have hil : i < ns.length := by rw [HL.out]; exact hlt
      have hN := h.below hBr hBr.size
      obtain ⟨ad', cA', cc', cK', cd', hA, hadb', e0, e1, e2, e3, e4, q5, -, qc⟩ := hN.atc hnd
      obtain rfl := Option.some.inj hA
      obtain ⟨a, ha, hau, -, hai⟩ := stands_mem (HST.out i hi1 hil).1 hi1 hil
      have hone : mayNd nd = true := by have := (HST.out i hi1 hil).2; unfold mayOne at this; rwa [hnd] at this
      have hmem := List.mem_of_getElem? hnd
      obtain ⟨ht20, ha20⟩ := may_short HM.out nd hmem
      have hk60 := may_kids HM.out nd hmem
      have c1 := rOne_any cA' cK' cc' cd' nd (HF.out nd hmem) (by omega) qc (fun a ha => by have := ha20 a ha; omega) (by omega) wr q5
      have hpar : nd.parent = (a : Int) := by rw [← par_of hnd]; exact ha
      rw [hone] at c1
      rw [hpar] at c1 e0
      have c2 := fun w' (hb : Below wr.heap.size wr w') => rDepth_any (some ad) n c ns i (by omega) hlt (fun k hk => may_par HM.out k (by omega)) w' (hN.below hb hb.size).pr
      have hdep := may_up HM.out hi1 hil
      have HAU := Lib.hid hau
      have HHA := Lib.hid ha
      generalize (up ns i).length - 1 = D at *
      have g1 : decide ((a : Int) < 0) = false := decide_eq_false (by omega)
      have g2 : decide ((i : Int) ≤ (a : Int)) = false := decide_eq_false (by omega)
      have g3 : decide ((12 : Int) < (D : Int)) = false := decide_eq_false (by omega)
      have hii : (i : Int) < (n : Int) := by omega
      clear hA q5 qc hone hmem ht20 ha20 hk60 hpar hau ha hnd hil hdep
      go_wp2_with (first
        | (go_at_call 65; (with_reducible refine c1.mono ?_); rintro e w2 ⟨rfl, hb2⟩
           have c22 := c2 w2 hb2)
        | (go_at_call 66; (with_reducible refine c22.mono ?_); rintro e w3 ⟨rfl, rfl⟩))
      have hB2 := below_next hBr hb2
      clear e0 e1 e2 e3 e4 c1 c2 c22 g1 g2 g3 hN hadb' hb2 hBr
      go_loopw [5, 6] (fun bv kv wj => ∃ (k : Int) (b : Bool), kv = .int .i64 k ∧ bv = .bool b ∧ -1 ≤ k ∧ k < (i : Int) ∧ Hid (b = true ∨ ∃ j : Nat, k = (j : Int) ∧ a ∈ up ns j) ∧ Below w.heap.size w wj) (fun _ kv _ => (intOf kv + 1).toNat)
      case atStart => exact ⟨(i : Int) - 1, false, rfl, rfl, by omega, by omega, .inr ⟨i - 1, by omega, HAU.out⟩, hB2⟩
      case round =>
        obtain ⟨k, b, rfl, rfl, hk1, hki, HB, hBj⟩ := hrel
        clear hB2
        by_cases hk0 : 0 ≤ k
        · obtain ⟨j, rfl⟩ : ∃ j : Nat, k = j := ⟨k.toNat, by omega⟩
          have hjl : j < ns.length := by rw [HL.out]; omega
          obtain ⟨ad', hA, hadb', e0, -⟩ := (h.below hBj hBj.size).pr.at_ (by omega : j < n)
          obtain rfl := Option.some.inj hA
          have hge := may_ge HM.out j hjl
          have hlt' := may_par HM.out j hjl
          have hmu := fun h => mem_up (a := a) h hjl hlt'
          have HMU := Lib.hid hmu
          have hjn : (j : Int) < (n : Int) := by omega
          clear hA hmu hjl
          cases b with
          | true =>
            go_wp2
            go_roundw
            case rel => exact ⟨_, true, rfl, rfl, hge, by omega, .inl rfl, hBj⟩
            case measure => simp [intOf]; omega
          | false =>
            have HBB : Hid (∃ j' : Nat, (j : Int) = (j' : Int) ∧ a ∈ up ns j') := HB.out.resolve_left (by decide)
            by_cases haj : a = j
            · subst haj
              clear HBB HB
              go_wp2
              go_roundw
              case rel => exact ⟨_, true, rfl, rfl, hge, by omega, .inl rfl, hBj⟩
              case measure => simp [intOf]; omega
            · have hja : ((j : Int) == (a : Int)) = false := by simp; omega
              have HX : Hid (∃ b : Nat, par ns j = (b : Int) ∧ a ∈ up ns b) := by
                obtain ⟨j', e, hj'⟩ := HBB.out
                obtain rfl : j' = j := by omega
                exact (HMU.out hj').resolve_left haj
              clear HBB HB
              go_wp2
              go_roundw
              case rel => exact ⟨_, false, rfl, rfl, hge, by omega, .inr HX.out, hBj⟩
              case measure => simp [intOf]; omega
        · obtain rfl : b = true := HB.out.resolve_right (by rintro ⟨j, e, -⟩; omega)
          have hk0' : decide (0 ≤ k) = false := decide_eq_false hk0
          have hkn : k < 0 := by omega
          clear HB hk0
          go_wp2
          go_roundw
          case rel => exact ⟨i + 1, by omega, by omega, by go_num, hBj⟩
          case measure => simp [intOf]; omega
    · obtain rfl : i = n := by omega
      clear hlt hi1
      go_wp2
      go_loopw [7, 8, 9, 10] (fun iv _ _ _ wr => ∃ m : Nat, m ≤ i ∧ iv = .int .i64 m ∧ Below w.heap.size w wr) (fun iv _ _ _ _ => i - (intOf iv).toNat)
      case atStart => exact ⟨0, Nat.zero_le _, rfl, hBr⟩
      case round =>
        obtain ⟨m, hmi, rfl, hBm⟩ := hrel
        clear hBr
        by_cases hlt : m < i
        · obtain ⟨nd, hnd⟩ : ∃ nd, ns[m]? = some nd := ⟨_, List.getElem?_eq_getElem (by rw [HL.out]; exact hlt)⟩
          have HND := Lib.hid hnd
          have hY0 : Row (wr.alloc (.cells #[] 3)) wr.heap.size 3 1 kidC (.slice (some ⟨wr.heap.size, 0, none⟩) 0 0) (kidTo ns m (m + 1)) := by
            rw [kidTo_none]
            exact World.ownsRow_made wr #[] 0 (Nat.le_refl _) (Nat.zero_le _) rfl
          have hB0 := below_al (Below.refl wr.heap.size wr) (.cells #[] 3)
          have hNE := h.below hBm hBm.size
          clear hnd
          go_wp2
          generalize wr = E at *
          go_loopw [8, 9] (fun v kv wj => ∃ k : Nat, m + 1 ≤ k ∧ k ≤ i ∧ kv = .int .i64 k ∧ Row wj E.heap.size 3 1 kidC v (kidTo ns m k) ∧ Below E.heap.size E wj) (fun _ kv _ => i - (intOf kv).toNat)
          case atStart => exact ⟨m + 1, Nat.le_refl _, by omega, by go_num, hY0, hB0⟩
          case round =>
            obtain ⟨k, hmk, hki, rfl, hY, hBk⟩ := hrel
            clear hY0 hB0
            by_cases hkl : k < i
            · obtain ⟨ad', hA, hadb', e0, -⟩ := (hNE.below hBk hBk.size).pr.at_ hkl
              obtain rfl := Option.some.inj hA
              have hkn : (k : Int) < (i : Int) := by omega
              have HS := Lib.hid (kidTo_snoc ns m k)
              clear hA
              by_cases hpm : par ns k = (m : Int)
              · have HS1 : Hid (kidTo ns m (k + 1) = kidTo ns m k ++ [(k : Int)]) := by show _ = _; rw [HS.out, if_pos ⟨by omega, hpm⟩]
                have hY2 := hY.alloc (.cells #[.int .i64 (k : Int)] 3)
                have hB2 := below_al hBk (.cells #[.int .i64 (k : Int)] 3)
                have hnc := RowG.new_cells wr 3 (kidC (k : Int))
                have hll : (kidTo ns m k).length ≤ 100 := by have := kidTo_len ns m k; omega
                obtain ⟨A0, c0, hv0⟩ := hY.form
                obtain ⟨M0, hM0⟩ : ∃ M0, M0 = (kidTo ns m k).length := ⟨_, rfl⟩
                rw [← hM0] at hv0
                clear hM0
                obtain rfl := hv0
                rw [hpm] at e0
                clear hpm HS
                generalize kidTo ns m k = ck at *
                go_wp2_with (refine RowG.wpList_more _ (by rfl) _ _ 52 (by rfl) 3 kidC 1 8 _ info_int Tryz.underlying52 rfl (by decide) kidC_len kidC_one E.heap.size _ ck (k : Int) (by rfl) wr.heap.size _ (by rfl) hY2 hnc (by simp only [maxLen]; omega) (by omega) hB2.size ?_
                             intro v5 w5 hrow5 hg5 _)
                go_roundw
                case rel => exact ⟨k + 1, by omega, by omega, by go_num, by rw [HS1.out]; exact hrow5, RowG.below_row hB2 hY2 hg5⟩
                case measure => simp [intOf]; omega
              · have HS1 : Hid (kidTo ns m (k + 1) = kidTo ns m k) := by show _ = _; rw [HS.out, if_neg (fun e => hpm e.2), List.append_nil]
                have hpm' : ((par ns k) == (m : Int)) = false := by simp [hpm]
                clear HS
                go_wp2
                go_roundw
                case rel => exact ⟨k + 1, by omega, by omega, by go_num, by rw [HS1.out]; exact hY, hBk⟩
                case measure => simp [intOf]; omega
            · obtain rfl : k = i := by omega
              have hml : m < ns.length := by rw [HL.out]; exact hlt
              have hkk : kidTo ns m k = nd.kids := by rw [← HL.out, kidTo_all HM.out hml]; exact kidsOf_of HND.out
              rw [hkk] at hY
              have hNk := hNE.below hBk hBk.size
              obtain ⟨ad', cA', cc', cK', cd', hA, hadb', e0, e1, e2, e3, e4, -, q7⟩ := hNk.at_ HND.out
              obtain rfl := Option.some.inj hA
              obtain ⟨A0, c0, rfl⟩ := hY.form
              have hrk := hY.reads.1
              have hBW := below_next hBm hBk
              have hk60 := may_kids HM.out nd (List.mem_of_getElem? HND.out)
              have hmn : (m : Int) < (k : Int) := by omega
              have HIN : Hid (∀ x ∈ nd.kids, 0 ≤ x ∧ x < (k : Int)) := by
                have hk2 := kidTo_all HM.out hml
                rw [HL.out] at hk2
                intro x hx
                rw [← hkk] at hx
                unfold kidTo at hx
                obtain ⟨y, hy, rfl⟩ := List.mem_map.1 hx
                have := List.mem_range.1 (List.mem_filter.1 hy).1
                omega
              have HSI : Hid (side2 ns nd.kids = false) := HSD.out nd (List.mem_of_getElem? HND.out)
              clear hA hY hkk e0 e1 e2 e3 hNE hBm hBk
              obtain ⟨L, hLk⟩ : ∃ L, L = nd.kids.length := ⟨_, rfl⟩
              rw [← hLk] at e4 q7 hrk hk60 ⊢
              have HLK := Lib.hid hLk
              clear hLk
              go_wp2
              generalize wr = F at *
              go_loopw [10] (fun jv wj => ∃ j : Nat, j ≤ L ∧ jv = .int .i64 j ∧ Below F.heap.size F wj) (fun jv _ => L - (intOf jv).toNat)
              case atStart => exact ⟨0, Nat.zero_le _, rfl, Below.refl _ _⟩
              case round =>
                obtain ⟨j, hj, rfl, hBj⟩ := hrel
                by_cases hjl : j < L
                · obtain ⟨x, hx⟩ : ∃ x, nd.kids[j]? = some x := ⟨_, List.getElem?_eq_getElem (by rw [← HLK.out]; exact hjl)⟩
                  obtain ⟨hx0, hxk⟩ := HIN.out x (List.mem_of_getElem? hx)
                  obtain ⟨xn, rfl⟩ : ∃ xn : Nat, x = xn := ⟨x.toNat, by omega⟩
                  obtain ⟨b1, rfl, -, c1⟩ := kid_of (hrk.below hBj) hx
                  obtain ⟨b2, rfl, -, c2⟩ := kid_of (q7.below hBj) hx
                  have c3 := (hBj.cell (p := ⟨(ad.add (m * 5)).block, (ad.add (m * 5)).off + 4, none⟩) (show (ad.add (m * 5)).block < _ by rw [block_of_add]; exact hadb')).trans e4
                  obtain ⟨ad2, hA2, -, -, t1⟩ := (hNk.below hBj hBj.size).pr.at_ (by omega : xn < k)
                  obtain rfl := Option.some.inj hA2
                  have u1 := rLit_eq (tagOf ns xn) []
                  have hjL : (j : Int) < (L : Int) := by omega
                  have hxk' : (xn : Int) < (k : Int) := hxk
                  have hBW2 := below_next hBW hBj
                  by_cases hj0 : j = 0
                  · subst hj0
                    have z1 : b1.add 0 = b1 := by unfold Addr.add; rw [if_pos rfl]
                    have z2 : b2.add 0 = b2 := by unfold Addr.add; rw [if_pos rfl]
                    rw [z1] at c1
                    rw [z2] at c2
                    clear z1 z2
                    clear hA2 u1 t1 hx
                    go_wp2
                    go_quiet (fail)
                    have hBq := below_drewN hBj nq
                    go_wp2
                    go_roundw
                    case rel => exact ⟨1, by omega, by go_num, hBq⟩
                    case measure => simp [intOf]; omega
                  · obtain ⟨y, hy⟩ : ∃ y, nd.kids[j - 1]? = some y := ⟨_, List.getElem?_eq_getElem (by rw [← HLK.out]; omega)⟩
                    obtain ⟨hy0, hyk⟩ := HIN.out y (List.mem_of_getElem? hy)
                    obtain ⟨yn, rfl⟩ : ∃ yn : Nat, y = yn := ⟨y.toNat, by omega⟩
                    obtain ⟨b3, hb3, -, c4⟩ := kid_of (hrk.below hBj) hy
                    obtain rfl := Option.some.inj hb3
                    obtain ⟨ad3, hA3, -, -, t2⟩ := (hNk.below hBj hBj.size).pr.at_ (by omega : yn < k)
                    obtain rfl := Option.some.inj hA3
                    have hside := side2_at nd.kids (j - 1) _ _ HSI.out hy (by rw [show j - 1 + 1 = j by omega]; exact hx)
                    rw [Int.toNat_natCast, Int.toNat_natCast] at hside
                    have u2 := rLit_eq (tagOf ns yn) []
                    obtain ⟨p, hp⟩ : ∃ p, p = j - 1 := ⟨_, rfl⟩
                    rw [← hp] at c4
                    have hjp : (j : Int) - 1 = (p : Int) := by omega
                    have hp0 : (0 : Int) ≤ (p : Int) := Int.natCast_nonneg _
                    have hpL : (p : Int) < (L : Int) := by omega
                    have hyk' : (yn : Int) < (k : Int) := hyk
                    have hj00 : (0 : Int) < (j : Int) := by omega
                    have hjd : decide (0 < j) = true := decide_eq_true (by omega)
                    have hjN : 0 < j := by omega
                    clear hA2 hA3 hb3 hx hy hp hj0
                    by_cases htx : tagOf ns xn = []
                    · have hty : ¬ tagOf ns yn = [] := fun e => hside ⟨e, htx⟩
                      rw [decide_eq_true htx] at u1
                      rw [decide_eq_false hty] at u2
                      clear htx hty hside
                      go_wp2
                      go_quiet (fail)
                      have hBq := below_drewN hBj nq
                      go_wp2
                      go_roundw
                      case rel => exact ⟨j + 1, by omega, by go_num, hBq⟩
                      case measure => simp [intOf]; omega
                    · rw [decide_eq_false htx] at u1
                      clear htx hside
                      go_wp2
                      go_quiet (fail)
                      have hBq := below_drewN hBj nq
                      go_wp2
                      go_roundw
                      case rel => exact ⟨j + 1, by omega, by go_num, hBq⟩
                      case measure => simp [intOf]; omega
                · obtain rfl : j = L := by omega
                  clear hjl
                  have hBW2 := below_next hBW hBj
                  go_wp2
                  go_roundw
                  case rel => exact ⟨m + 1, by omega, by go_num, hBW2⟩
                  case measure => simp [intOf]; omega
        · obtain rfl : m = i := by omega
          clear hlt
          go_wp2
          go_ret
          exact ⟨rfl, hBm⟩
end Tre
end Go.Proofs.YteopighhhcikcaaGreatDoor
/- What token.Read reads is small: its texts. Conditions: none. -/
namespace Go.Proofs.YteopighhhcikcaaGreatDoor
namespace Tok
open Rep
theorem tellF_le : ∀ (f : Nat) (l : List UInt8), (tellF f l).length ≤ l.length := by
  intro f
  induction f with
  | zero => intro l; exact Nat.zero_le _
  | succ f ih =>
    intro l
    cases l with
    | nil => exact Nat.le_refl _
    | cons c t =>
      unfold tellF
      cases hs : sgn (c :: t) with
      | none =>
        show (c :: tellF f t).length ≤ _
        have := ih t
        rw [List.length_cons, List.length_cons]; omega
      | some x =>
        show (x.1 :: tellF f ((c :: t).drop x.2)).length ≤ _
        have h1 := sgn_pos hs
        have h2 := ih ((c :: t).drop x.2)
        rw [List.length_drop] at h2
        rw [List.length_cons]
        omega
theorem txtP_text (u : List UInt8) : ∀ t ∈ txtP u, t.text.length ≤ u.length := by
  unfold txtP
  split
  · intro t h; cases h
  · intro t h
    rw [List.mem_singleton] at h; subst h
    exact tellF_le _ _
theorem firstP_text {l b : List UInt8} {t : T} (h : firstP l = some (t, b)) : t.text = [] := by
  unfold firstP at h
  split at h
  · rename_i x hx
    injection h with h; subst h
    unfold openP at hx
    split at hx
    · split at hx
      · cases hx
      · split at hx
        · cases hx
        · injection hx with hx; injection hx with hx _; subst hx; rfl
    · cases hx
  · unfold shutP at h
    split at h
    · split at h
      · cases h
      · split at h
        · cases h
        · injection h with h; injection h with h _; subst h; rfl
    · cases h
theorem readF_txlen (n : Nat) : ∀ (u l : List UInt8), l.length ≤ n → ∀ t ∈ readF u l, t.text.length ≤ u.length + l.length := by
  induction n with
  | zero =>
    intro u l h t ht
    obtain rfl : l = [] := List.eq_nil_of_length_eq_zero (by omega)
    have := txtP_text u t ht
    omega
  | succ n ih =>
    intro u l h t ht
    cases hf : firstP l with
    | none =>
      cases l with
      | nil =>
        rw [readF_nil] at ht
        have := txtP_text u t ht
        omega
      | cons c r =>
        rw [readF_miss hf] at ht
        rw [List.length_cons] at h ⊢
        have := ih (u ++ [c]) r (by omega) t ht
        rw [List.length_append, List.length_singleton] at this
        omega
    | some x =>
      obtain ⟨x, b⟩ := x
      have h1 := firstP_len hf
      rw [readF_hit hf] at ht
      rcases List.mem_append.1 ht with ht | ht
      · have := txtP_text u t ht; omega
      · rcases List.mem_cons.1 ht with rfl | ht
        · rw [firstP_text hf]; exact Nat.zero_le _
        · have := ih [] b (by omega) t ht
          rw [List.length_nil] at this
          omega
theorem readP_text (l : List UInt8) : ∀ t ∈ readP l, t.text.length ≤ l.length := fun t ht => by
  have := readF_txlen l.length [] l (Nat.le_refl _) t ht
  simpa using this
theorem readP_names (l : List UInt8) : ∀ t ∈ readP l, t.name.length ≤ 20 ∧ ∀ a ∈ t.attrs, a.1.length ≤ 20 := by
  intro t ht
  rcases (readP_wf l).each t ht with ⟨-, -, h1, h2⟩ | ⟨-, h1, -, h2⟩
  · rw [h1, h2]; exact ⟨Nat.zero_le _, fun a ha => (by cases ha)⟩
  · exact ⟨(nameB_len h1).2, fun a ha => (nameB_len (h2.2 a ha)).2⟩
end Tok
end Go.Proofs.YteopighhhcikcaaGreatDoor
namespace Go.Proofs.YteopighhhcikcaaGreatDoor
open Go.ChangeShapes Go.WideShapes Go.ChangeAt Go.RowKit Go.Shelf
namespace Tre
open Tok
/-- What is built or read: a document that may be, or none and why. -/
def Ans (w : World) (A : Option Addr) (n : Nat) (ns : List Nd) (x : Nat) : Prop := NR w w.heap.size A n ns ∧ ((n = 0 ∧ x ≠ 0) ∨ (x = 0 ∧ 0 < n ∧ mayP ns = true ∧ ∀ nd ∈ ns, nd.attrs.length ≤ 900000))
theorem ans_of {ts : List Tk} (hq : ∀ t ∈ ts, t.attrs.length ≤ 900000) {e : Ending} {w : World} (h : BuR (build ts) e w) : ∃ A n c ns x, e = .returned (.tuple #[.slice A n c, .int .i64 ((x : Nat) : Int)]) ∧ Ans w A n ns x := by
  obtain ⟨A, c, rfl, hN⟩ := h
  refine ⟨A, _, c, _, _, rfl, hN, ?_⟩
  have hs := build_small hq
  rcases build_may ts with ⟨x, hx, h0⟩ | ⟨ns, hx, hne, hm⟩
  · rw [hx]; exact .inl ⟨rfl, h0⟩
  · rw [hx] at hs ⊢
    exact .inr ⟨rfl, List.length_pos_iff.2 hne, hm, fun nd hnd => (hs.2 nd hnd).1⟩
set_option maxRecDepth 100000 in
set_option maxHeartbeats 8000000 in
theorem readD_long (s : ByteArray) (w : World) (h : 4000 < s.size) : Calls Tryz.prog 29 #[.string s] w fun e w' => e = .returned (.tuple #[.slice none 0 0, .int .i64 3]) ∧ w = w' := by
  have cr := fun w => read_long s w h
  go_enter Tryz.func29, Tryz.ntmps29
  go_wp2_with (first
    | (go_at_call 16; (with_reducible refine (cr _).mono ?_); rintro e w2 ⟨rfl, rfl⟩))
  go_ret2
  exact ⟨rfl, rfl⟩
theorem readD_all (l : List UInt8) (w : World) : Calls Tryz.prog 29 #[.string (toB l)] w fun e w' => (∃ A n c ns x, e = .returned (.tuple #[.slice A n c, .int .i64 ((x : Nat) : Int)]) ∧ Ans w' A n ns x) ∧ Below w.heap.size w w' := by
  by_cases hl : l.length ≤ 4000
  · have hc := readP_cnt l
    have ht := readP_text l
    have hnm := readP_names l
    have hq : ∀ t ∈ (readP l).map tkOf, Small t ∧ t.text.length ≤ 4000 := by
      intro t h
      obtain ⟨u, hu, rfl⟩ := List.mem_map.1 h
      have h1 := hc.2 u hu
      have h2 := ht u hu
      obtain ⟨h3, h4⟩ := hnm u hu
      refine ⟨⟨by show u.attrs.length ≤ _; omega, by show u.name.length ≤ _; simp only [maxLen]; omega, fun a ha => ?_⟩, by show u.text.length ≤ _; omega⟩
      have := h4 a ha
      simp only [maxLen]; omega
    have hsz : sizeTx ((readP l).map tkOf) ≤ 10000000000000 := by
      have key : ∀ ts : List Tk, (∀ t ∈ ts, t.text.length ≤ 4000) → sizeTx ts ≤ 4000 * ts.length := by
        intro ts
        induction ts with
        | nil => intro _; exact Nat.le_refl _
        | cons t ts ih =>
          intro h
          have h1 := ih (fun u hu => h u (List.mem_cons_of_mem _ hu))
          have h2 := h t List.mem_cons_self
          unfold sizeTx at *
          simp only [List.map_cons, List.sum_cons, List.length_cons]
          omega
      have := key _ (fun t h => (hq t h).2)
      rw [List.length_map] at this
      omega
    exact (readD_any l hl (fun t h => (hq t h).1) hsz w).mono (by
      rintro e w' ⟨h1, h2⟩
      exact ⟨ans_of (fun t h => (hq t h).1.1) h1, h2⟩)
  · exact (readD_long (toB l) w (by rw [toB_size]; omega)).mono (by
      rintro e w' ⟨rfl, rfl⟩
      exact ⟨⟨none, 0, 0, [], 3, rfl, nr_nil _ _, .inl ⟨rfl, by decide⟩⟩, Below.refl _ _⟩)
end Tre
namespace treeMay
open Tok Tre
set_option maxRecDepth 100000 in
set_option maxHeartbeats 16000000 in
theorem walk (A : Option Addr) (n c : Nat) (ts : List Tk) (s : ByteArray) (_hs : s.size ≤ maxLen) (W : World) (hn : n ≤ 17592186043904) (hT : TRK W W.heap.size A n ts) (hbd : ∀ x ∈ ts, (x.name.length ≤ 140737488351232 ∧ x.text.length ≤ 140737488351232) ∧ x.attrs.length ≤ 4398046511104 ∧ ∀ q ∈ x.attrs, q.1.length ≤ 140737488351232 ∧ q.2.length ≤ 140737488351232) :
    Calls Tryz.prog 7 #[.slice A n c, .string s] W fun e w' => e = .returned (.bool true) ∧ Below W.heap.size W w' := by
  obtain ⟨l, rfl⟩ : ∃ l, s = toB l := ⟨s.data.toList, bytes_inj rfl⟩
  have ca := awake5_any W
  have co := fun w' h => own_any A n c ts hn (fun t ht => ⟨(hbd t ht).1.2, (hbd t ht).2.1⟩) w' h
  have cd := fun w => readD_all l w
  have hlen := hT.len
  have HBD := Lib.hid hbd
  have HL := Lib.hid hlen
  generalize toB l = s at *
  clear hbd hlen
  go_enter Tryz.func7, Tryz.ntmps7
  go_upto_region 4 with (first
    | (go_at_call 26; (with_reducible refine ca.mono ?_); rintro e w1 ⟨rfl, hB1⟩
       have hT1 := hT.below hB1 hB1.size
       have co1 := co w1 hT1)
    | (go_at_call 27; (with_reducible refine co1.mono ?_); rintro e w2 ⟨A2, n2, c2, N, rfl, hb2, hN⟩))
  have hB2 := below_next hB1 hb2
  have hT2 := hT1.below hb2 hb2.size
  clear co1 co ca hT1 hB1 hb2
  by_cases hbig : 20000 < N
  · have hbig' : (20000 : Int) < (N : Int) := by omega
    clear hN
    go_wp2
    go_ret
    exact ⟨rfl, hB2⟩
  obtain ⟨rfl, -, -⟩ : N = cost ts ∧ n2 = n ∧ TRK w2 w2.heap.size A2 n ts := hN.resolve_left hbig
  have hN' : decide ((20000 : Int) < ((cost ts : Nat) : Int)) = false := decide_eq_false (by omega)
  have hco : cost ts ≤ 20000 := by omega
  by_cases hmany : 300 < n
  · have hmany' : (300 : Int) < (n : Int) := by omega
    clear hN
    go_wp2
    go_ret
    exact ⟨rfl, hB2⟩
  have hm' : decide ((300 : Int) < (n : Int)) = false := decide_eq_false (by omega)
  by_cases hsz : 5000 < s.size
  · have hsz' : (5000 : Int) < (s.size : Int) := by omega
    clear hN
    go_wp2
    go_ret
    exact ⟨rfl, hB2⟩
  have hs' : decide ((5000 : Int) < (s.size : Int)) = false := decide_eq_false (by omega)
  have hsm := small_of hco HBD.out
  have cb : Calls Tryz.prog 28 #[.slice A n c] w2 fun e w' => (∃ A n c ns x, e = .returned (.tuple #[.slice A n c, .int .i64 ((x : Nat) : Int)]) ∧ Ans w' A n ns x) ∧ Below w2.heap.size w2 w' :=
    (build_any A n c ts (by omega) hsm (by have := sizeTx_cost ts; omega) w2 hT2).mono (by
      rintro e w' ⟨h1, h2⟩
      exact ⟨ans_of (fun t h => (hsm t h).1) h1, h2⟩)
  clear hN hbig hmany hsm hco hsz hT hT2
  go_upto_region 8 with (first
    | (go_at_call 28; (with_reducible refine cb.mono ?_); rintro e w3 ⟨⟨A3, n3, c3, ns, x, rfl, hN3, hD3⟩, hb3⟩)
    | (go_at_call 29; (with_reducible refine (cd _).mono ?_); rintro e w4 ⟨⟨A4, n4, c4, ms, y, rfl, hN4, hD4⟩, hb4⟩))
  have hB := below_next (below_next hB2 hb3) hb4
  have hNa := hN3.next hb4
  have hNb := hN4
  clear cb cd hB2 hb3 hb4 hN3 hN4 hN' hm' hs'
  have ra := fun hm hf w h => rMay_yes A3 n3 c3 ns hm hf w h
  have rb := fun hm hf w h => rMay_yes A4 n4 c4 ms hm hf w h
  have ta := fun hm hf w h => may_yes A3 n3 c3 ns hm hf w h
  have tb := fun hm hf w h => may_yes A4 n4 c4 ms hm hf w h
  rcases hD3 with ⟨rfl, hx⟩ | ⟨rfl, hn3, hma, hfa⟩
  · have hx' : ((x : Int) == 0) = false := by simp; omega
    rcases hD4 with ⟨rfl, hy⟩ | ⟨rfl, hn4, hmb, hfb⟩
    · have hy' : ((y : Int) == 0) = false := by simp; omega
      clear ra rb ta tb
      go_wp2
      go_ret
      exact ⟨rfl, hB⟩
    · have hn4' : (0 : Int) < (n4 : Int) := by omega
      have rb1 := rb hmb hfb w4 hNb
      clear ra ta rb
      go_wp2_with (first
        | (go_at_call 30; (with_reducible refine rb1.mono ?_); rintro e w5 ⟨rfl, hb5⟩
           have hB5 := below_next hB hb5
           have tb1 := tb hmb (may_fit hmb hfb) w5 (hNb.next hb5))
        | (go_at_call 31; (with_reducible refine tb1.mono ?_); rintro e w6 ⟨rfl, hb6⟩
           have hB6 := below_next hB5 hb6))
      go_ret
      exact ⟨rfl, hB6⟩
  · have hn3' : (0 : Int) < (n3 : Int) := by omega
    have ra1 := ra hma hfa w4 hNa
    rcases hD4 with ⟨rfl, hy⟩ | ⟨rfl, hn4, hmb, hfb⟩
    · have hy' : ((y : Int) == 0) = false := by simp; omega
      clear rb tb ra
      go_wp2_with (first
        | (go_at_call 30; (with_reducible refine ra1.mono ?_); rintro e w5 ⟨rfl, hb5⟩
           have hB5 := below_next hB hb5
           have ta1 := ta hma (may_fit hma hfa) w5 (hNa.next hb5))
        | (go_at_call 31; (with_reducible refine ta1.mono ?_); rintro e w6 ⟨rfl, hb6⟩
           have hB6 := below_next hB5 hb6))
      go_ret
      exact ⟨rfl, hB6⟩
    · have hn4' : (0 : Int) < (n4 : Int) := by omega
      clear ra
      go_wp2_with (first
        | (go_at_call 30; (with_reducible refine ra1.mono ?_); rintro e w5 ⟨rfl, hb5⟩
           have hB5 := below_next hB hb5
           have hNb5 := hNb.next hb5
           have ta1 := ta hma (may_fit hma hfa) w5 (hNa.next hb5))
        | (go_at_call 31; (with_reducible refine ta1.mono ?_); rintro e w6 ⟨rfl, hb6⟩
           have hB6 := below_next hB5 hb6
           have hNb6 := hNb5.next hb6
           have rb1 := rb hmb hfb w6 hNb6)
        | (go_at_call 30; (with_reducible refine rb1.mono ?_); rintro e w7 ⟨rfl, hb7⟩
           have hB7 := below_next hB6 hb7
           have tb1 := tb hmb (may_fit hmb hfb) w7 (hNb6.next hb7))
        | (go_at_call 31; (with_reducible refine tb1.mono ?_); rintro e w8 ⟨rfl, hb8⟩
           have hB8 := below_next hB7 hb8))
      go_ret
      exact ⟨rfl, hB8⟩
end treeMay
end Go.Proofs.YteopighhhcikcaaGreatDoor
