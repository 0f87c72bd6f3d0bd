/- The document's own Large of layer 10. Conditions: lists are no longer than what can be reached. -/
import Derived.Test.YtdfcahdipalmkaaGreatDoorShtO
namespace Go.Proofs.YtdfcahdipalmkaaGreatDoor
open Go.ChangeShapes Go.WideShapes Go.ChangeAt Go.RowKit Go.Shelf
namespace Sht
open Sel
open RowG (Row)
/-- A rule that a statement looks at. -/
def Good (r : Rul) : Prop := r.decls.length ≤ 1000 ∧ r.sels.length ≤ 1000 ∧ ∀ x ∈ r.sels, costS x.parts ≤ 500 ∧ x.close.length ≤ 100
/-- Texts and lists of no more than what can be reached. -/
def RulX (r : Rul) : Prop := RulW r ∧ ∀ x ∈ r.sels, BdS x.parts
def LimR (rs : List Rul) : Prop := rs.length ≤ 100 ∧ ∀ r ∈ rs, Good r
set_option maxRecDepth 100000 in
set_option maxHeartbeats 64000000 in
theorem large10_or (A : Option Addr) (n c : Nat) (rs : List Rul) (hn : n ≤ 4000000000000) (hw : ∀ r ∈ rs, RulX r) (w : World) (h : RsR w w.heap.size A n rs) :
    Calls Tryz.prog 9 #[.slice A n c] w fun e w' => (e = .returned (.bool true) ∨ e = .returned (.bool false) ∧ LimR rs) ∧ Below w.heap.size w w' := by
  have HL := Lib.hid h.len
  have HW := Lib.hid hw
  clear hw
  go_enter Tryz.func9, Tryz.ntmps9
  go_wp2
  go_loopw [3, 4] (fun tv iv wr => ∃ (i t : Nat), i ≤ n ∧ t ≤ 9000000000000 ∧ tv = .int .i64 t ∧ iv = .int .i64 i ∧ Hid (t ≤ 1000 → ∀ (q : Nat) (r : Rul), q < i → rs[q]? = some r → Good r) ∧ Below w.heap.size w wr) (fun _ iv _ => n - (intOf iv).toNat)
  case atStart => exact ⟨0, 0, Nat.zero_le _, Nat.zero_le _, rfl, rfl, fun _ q r h => absurd h (by omega), Below.refl _ _⟩
  case round =>
    obtain ⟨i, t, hi, ht, rfl, rfl, HG, hBr⟩ := hrel
    have ht0 : (0 : Int) ≤ (t : Int) := Int.natCast_nonneg _
    have hi0 : (0 : Int) ≤ (i : Int) := Int.natCast_nonneg _
    by_cases hgo : i < n ∧ t ≤ 1000
    · obtain ⟨hlt, ht1⟩ := hgo
      have hii : (i : Int) < (n : Int) := by omega
      have hti : (t : Int) ≤ 1000 := by omega
      obtain ⟨r, hr⟩ : ∃ r, rs[i]? = some r := ⟨_, List.getElem?_eq_getElem (by rw [HL.out]; exact hlt)⟩
      obtain ⟨ad, ⟨rA, rn, rc, rK, rm, rd⟩, rfl, zd, e0, e1, r1⟩ := (h.below hBr (Nat.le_refl _)).at_ hr
      simp only at e0 e1
      obtain ⟨⟨w1, w2, w3⟩, w4⟩ := HW.out r (List.mem_of_getElem? hr)
      obtain ⟨hX, hD⟩ := r1
      have hXl := hX.len
      have hDl := hD.1
      simp only at hX hD hXl hDl
      have HXL := Lib.hid hXl
      have HDL := Lib.hid hDl
      have hrm : rm ≤ 4398046510976 := by omega
      have hrn : rn ≤ 2932031007317 := by omega
      have HRR := Lib.hid hr
      have hrm0 : (0 : Int) ≤ (rm : Int) := Int.natCast_nonneg _
      have HW3 := Lib.hid w3
      have HW4 := Lib.hid w4
      have wr1 : IntKind.i64.wrap ((t : Int) + 1) = (t : Int) + 1 := by rw [IntKind.wrap_i64]; omega
      have wr2 : IntKind.i64.wrap ((t : Int) + 1 + (rm : Int)) = (t : Int) + 1 + (rm : Int) := by rw [IntKind.wrap_i64]; omega
      obtain ⟨t1, ht1e⟩ : ∃ t1, t1 = t + 1 + rm := ⟨_, rfl⟩
      have ht1i : (t : Int) + 1 + (rm : Int) = (t1 : Int) := by omega
      have ht1b : t1 ≤ 4398046511977 := by omega
      have HT1 : Hid (rm ≤ t1) := by show _ ≤ _; omega
      have HGo : Hid (∀ (q : Nat) (r : Rul), q < i → rs[q]? = some r → Good r) := HG.out ht1
      clear hXl hDl w1 w2 w3 w4 hr HG hD ht1e
      generalize wr = wo at *
      go_wp2
      go_loopw [3, 5] (fun tv kv wr => ∃ (k u : Nat), k ≤ rn ∧ u ≤ 4500000000000 + k ∧ tv = .int .i64 u ∧ kv = .int .i64 k ∧ Hid (u = t1 + k) ∧ Hid (∀ (q : Nat) (x : Slr), q < k → r.sels[q]? = some x → costS x.parts ≤ 500 ∧ x.close.length ≤ 100) ∧ Below wo.heap.size wo wr) (fun _ kv _ => rn - (intOf kv).toNat)
      case atStart => exact ⟨0, t1, Nat.zero_le _, by omega, rfl, rfl, rfl, fun q x h => absurd h (by omega), Below.refl _ _⟩
      case round =>
        obtain ⟨k, u, hk, hu, rfl, rfl, HU, HQ, hB1⟩ := hrel
        have hBw := below_next hBr hB1
        have f0 := (hB1.cell (p := ad.add (i * 2)) (by rw [block_of_add]; have := hBr.size; omega)).trans e0
        have f1 := (hB1.cell (p := ⟨(ad.add (i * 2)).block, (ad.add (i * 2)).off + 1, none⟩) (by show (ad.add (i * 2)).block < _; rw [block_of_add]; have := hBr.size; omega)).trans e1
        have hu0 : (0 : Int) ≤ (u : Int) := Int.natCast_nonneg _
        have hk0 : (0 : Int) ≤ (k : Int) := Int.natCast_nonneg _
        by_cases hgo : k < rn ∧ u ≤ 1000
        · obtain ⟨hlk, hu1⟩ := hgo
          have hki : (k : Int) < (rn : Int) := by omega
          have hui : (u : Int) ≤ 1000 := by omega
          obtain ⟨x, hx⟩ : ∃ x, r.sels[k]? = some x := ⟨_, List.getElem?_eq_getElem (by rw [HXL.out]; exact hlk)⟩
          obtain ⟨ad2, ⟨xA, xn, xc, xK, xm, xd⟩, rfl, zd2, g0, g1, rx⟩ := (hX.below (hB1.mono hBr.size) (Nat.le_refl _)).at_ hx
          simp only at g0 g1
          have hxn : x.parts.length = xn := rx.1.len
          have hxm : x.close.length = xm := rx.2.len
          have cl := large_c xA xK xn xc xm xd x.parts (by have := HW3.out x (List.mem_of_getElem? hx); omega) (HW4.out x (List.mem_of_getElem? hx)) wr (rx.1.below (Below.refl _ _) hBw.size)
          have HX := Lib.hid hx
          have HXM := Lib.hid hxm
          clear hx hxn hxm rx
          go_wp2_with (go_at_call 23; (with_reducible refine cl.mono ?_); rintro e w5 ⟨⟨b, rfl, HB⟩, hb5⟩)
          · go_ret
            exact ⟨.inl rfl, below_next hBw hb5⟩
          · have hxg := HB.out (by assumption)
            have HQ2 : Hid (∀ (q : Nat) (x : Slr), q < k + 1 → r.sels[q]? = some x → costS x.parts ≤ 500 ∧ x.close.length ≤ 100) := by
              intro q y hq hy
              by_cases e : q = k
              · subst e
                rw [HX.out] at hy
                injection hy with hy
                subst hy
                exact ⟨hxg.1, by rw [HXM.out]; exact hxg.2⟩
              · exact HQ.out q y (by omega) hy
            go_roundw
            case rel => exact ⟨k + 1, u + 1, by omega, by omega, by go_num, by go_num, by show _ = _; rw [HU.out]; rfl, HQ2, below_next hB1 hb5⟩
            case measure => simp [intOf]; omega
        · have hGr : Hid (u ≤ 1000 → ∀ (q : Nat) (r : Rul), q < i + 1 → rs[q]? = some r → Good r) := by
            intro hu1 q y hq hy
            by_cases e : q = i
            · subst e
              rw [HRR.out] at hy
              injection hy with hy
              subst hy
              have hkr : k = rn := by
                by_cases h1 : k < rn
                · exact absurd ⟨h1, hu1⟩ hgo
                · omega
              have h1 := HT1.out
              have h2 := HU.out
              have h3 := HXL.out
              have h4 := HDL.out
              refine ⟨by omega, by omega, fun x hx => ?_⟩
              obtain ⟨z, hz, e⟩ := List.getElem_of_mem hx
              exact HQ.out z x (by omega) (by rw [List.getElem?_eq_getElem hz, e])
            · exact HGo.out q y (by omega) hy
          by_cases hlk : k < rn
          · have hu1 : ¬ (u : Int) ≤ 1000 := by
              intro h
              exact hgo ⟨hlk, by omega⟩
            have hki : (k : Int) < (rn : Int) := by omega
            go_wp2
            go_roundw
            case rel => exact ⟨i + 1, u, by omega, by omega, rfl, by go_num, hGr, hBw⟩
            case measure => simp [intOf]; omega
          · obtain rfl : k = rn := by omega
            go_wp2
            go_roundw
            case rel => exact ⟨i + 1, u, by omega, by omega, rfl, by go_num, hGr, hBw⟩
            case measure => simp [intOf]; omega
    · by_cases hlt : i < n
      · have ht1 : ¬ t ≤ 1000 := fun h => hgo ⟨hlt, h⟩
        have hti : ¬ (t : Int) ≤ 1000 := by omega
        have hti2 : 1000 < (t : Int) := by omega
        have hii : (i : Int) < (n : Int) := by omega
        go_wp2
        go_ret
        exact ⟨.inl rfl, hBr⟩
      · obtain rfl : i = n := by omega
        by_cases ht1 : t ≤ 1000
        · have hti : ¬ 1000 < (t : Int) := by omega
          by_cases h100 : 100 < i
          · have h1i : 100 < (i : Int) := by omega
            go_wp2
            go_ret
            exact ⟨.inl rfl, hBr⟩
          · have h1i : ¬ 100 < (i : Int) := by omega
            have hfin : LimR rs := by
              refine ⟨by rw [HL.out]; omega, fun r hr => ?_⟩
              obtain ⟨q, hq, e⟩ := List.getElem_of_mem hr
              exact HG.out ht1 q r (by rw [← HL.out]; exact hq) (by rw [List.getElem?_eq_getElem hq, e])
            go_wp2
            go_ret
            refine ⟨?_, hBr⟩
            exact .inr rfl
        · have hti : 1000 < (t : Int) := by omega
          go_wp2
          go_ret
          exact ⟨.inl rfl, hBr⟩
theorem large10_any (A : Option Addr) (n c : Nat) (rs : List Rul) (hn : n ≤ 4000000000000) (hw : ∀ r ∈ rs, RulX r) (w : World) (h : RsR w w.heap.size A n rs) :
    Calls Tryz.prog 9 #[.slice A n c] w fun e w' => (∃ b, e = .returned (.bool b) ∧ Hid (b = false → LimR rs)) ∧ Below w.heap.size w w' :=
  (large10_or A n c rs hn hw w h).mono (by
    rintro e w' ⟨(h1 | ⟨h1, h2⟩), hb⟩
    · exact ⟨⟨true, h1, fun h => by cases h⟩, hb⟩
    · exact ⟨⟨false, h1, fun _ => h2⟩, hb⟩)
end Sht
end Go.Proofs.YtdfcahdipalmkaaGreatDoor
