/- token's readBegin, readEnd, readValue over bytes that lie in memory; a text as bytes. Conditions: the bytes lie in memory, and are not too many. -/
import Derived.Test.YteopighhhcikcaaGreatDoorTokB
namespace Go.Proofs.YteopighhhcikcaaGreatDoor
open Go.ChangeShapes Go.WideShapes Go.ChangeAt Go.RowKit
namespace Tok
open Rep (tellL)
def numL (l : List UInt8) : List Int := l.map fun c => (c.toNat : Int)
theorem numL_len (l : List UInt8) : (numL l).length = l.length := List.length_map ..
theorem bytesOf_numL (l : List UInt8) : Lib.bytesOf (numL l) = l := by
  unfold Lib.bytesOf numL
  rw [List.map_map]
  conv => rhs; rw [← List.map_id l]
  congr 1
  funext c
  simp
theorem Lf.nums {w : World} {g o : Nat} {l : List UInt8} (h : Lf w g o l) : ∀ i, i < l.length → w.cell? ⟨g, o + i, none⟩ = some (.int .u8 ((numL l).getD i 0)) := by
  intro i hi
  rw [h.at_ hi]
  unfold numL
  simp [List.getD, hi]
theorem Lf.bytesIn {w : World} {g o : Nat} {l : List UInt8} (h : Lf w g o l) : Lib.BytesIn w (some ⟨g, o, none⟩) l.length (numL l) := fun _ => ⟨g, o, rfl, h.nums⟩
/-- A text as bytes. -/
theorem run_bytes (p : List UInt8) (w : World) : ∃ w1 c, (convert 9 74 (.string (toB p))).run Tryz.prog w = .ok (.slice (some ⟨w.heap.size, 0, none⟩) p.length c) w1 ∧ p.length ≤ c ∧ Lf w1 w.heap.size 0 p ∧ Below w.heap.size w w1 ∧ w1.heap.size = w.heap.size + 1 := by
  have h := run_bytes_of_string (P := Tryz.prog) w 9 74 5 (toB p) Tryz.underlying9 Tryz.underlying74 Tryz.underlying5
  rw [toB_size] at h
  refine ⟨_, _, h, ?_, ⟨?_, ?_⟩, ?_, ?_⟩
  · rw [← toB_size p]; exact grownCap_ge _ _ _ _
  · rw [size_al]; exact Nat.lt_succ_self _
  · intro j c hc
    have hj : j < p.length := (List.getElem?_eq_some_iff.1 hc).1
    have hj' : j < (toB p).size := by rw [toB_size]; exact hj
    rw [Nat.zero_add]
    refine (World.cell?_alloc_mark w.drew _ _ _ j).trans ?_
    rw [bytesRow_at (toB p) _ j hj']
    have : (toB p).data[j] = c := by
      have := (List.getElem?_eq_some_iff.1 hc).2
      simpa [toB] using this
    rw [this]
    rfl
  · exact below_al (Below.refl _ _).drew _
  · rw [size_al]; rfl
/-- What stands at the beginning, and the name behind it. -/
def beginP (p l : List UInt8) : Option (List UInt8 × List UInt8) := if p.isPrefixOf l then nameP (l.drop p.length) else none
theorem prefix_len {p l : List UInt8} (h : p.isPrefixOf l = true) : p.length ≤ l.length := (List.isPrefixOf_iff_prefix.1 h).length_le
set_option maxRecDepth 100000 in
set_option maxHeartbeats 4000000 in
theorem readBegin_any (g : Nat) (v : Value) (l p : List UInt8) (hl : l.length ≤ 1000000) (hp : p.length ≤ 100) (w : World) (h : LfV w g v l) :
    Calls Tryz.prog 135 #[v, .string (toB p)] w fun e w' => NmV w' g (beginP p l) e ∧ Below w.heap.size w w' := by
  obtain ⟨w1, c1, hrun, hc1, hL1, hB1, hz1⟩ := run_bytes p w
  have h1 := h.next hB1
  have hc2 := fun w => behindV (w := w) (g := g) (v := v) (l := l) (n := p.length)
  have hz : (toB p).size = p.length := toB_size p
  obtain ⟨o, cap, rfl, hc, hL⟩ := h
  have ch := Tryz.bytes_HasPrefix_all (some ⟨g, o, none⟩) (some ⟨w.heap.size, 0, none⟩) l.length cap p.length c1 (numL l) (numL p) w1 (numL_len l) (numL_len p) hc (hL.next hB1).bytesIn hL1.bytesIn
  rw [bytesOf_numL, bytesOf_numL] at ch
  unfold Lib.hasPrefix at ch
  unfold beginP
  generalize toB p = tx at *
  cases hpre : p.isPrefixOf l with
  | false =>
    rw [hpre] at ch
    show Calls _ _ _ _ (fun e w' => e = _ ∧ _)
    clear hpre h1 hL hL1 hc2
    go_enter Tryz.func135, Tryz.ntmps135
    go_wp2_with (go_at_call 152; (with_reducible refine ch.mono ?_); rintro e w' ⟨rfl, rfl⟩)
    go_ret3
    exact ⟨rfl, hB1⟩
  | true =>
    rw [hpre] at ch
    have hle := prefix_len hpre
    have cb := hc2 w1 h1 hle
    have cn := fun v w h => readName_any g v (l.drop p.length) (by rw [List.length_drop]; unfold maxLen; omega) w h
    show Calls _ _ _ _ (fun e w' => NmV w' g (nameP (l.drop p.length)) e ∧ _)
    cases hn : nameP (l.drop p.length) with
    | none =>
      rw [hn] at cn
      have cn2 : ∀ v w, LfV w g v (l.drop p.length) → Calls Tryz.prog 57 #[v] w fun e w' => e = .returned (.tuple #[.string ⟨#[]⟩, .slice none 0 0, .bool false]) ∧ Below w.heap.size w w' := cn
      show Calls _ _ _ _ (fun e w' => e = _ ∧ _)
      clear hpre h1 hL hL1 hc2 hn cn
      go_enter Tryz.func135, Tryz.ntmps135
      go_wp2_with (first
        | (go_at_call 152; (with_reducible refine ch.mono ?_); rintro e w' ⟨rfl, rfl⟩)
        | (go_at_call 52; (with_reducible refine cb.mono ?_); rintro e w3 ⟨⟨v3, rfl, hv3⟩, rfl⟩)
        | (go_at_call 57; (with_reducible refine (cn2 _ _ hv3).mono ?_); rintro e w4 ⟨rfl, hb4⟩))
      go_ret3
      exact ⟨rfl, below_next hB1 hb4⟩
    | some x =>
      obtain ⟨n, r⟩ := x
      rw [hn] at cn
      have cn2 : ∀ v w, LfV w g v (l.drop p.length) → Calls Tryz.prog 57 #[v] w fun e w' => (∃ v', e = .returned (.tuple #[.string (toB n), v', .bool true]) ∧ LfV w' g v' r) ∧ Below w.heap.size w w' := cn
      show Calls _ _ _ _ (fun e w' => (∃ v', e = .returned (.tuple #[.string (toB n), v', .bool true]) ∧ LfV w' g v' r) ∧ _)
      clear hpre h1 hL hL1 hc2 hn cn
      generalize toB n = nx at *
      go_enter Tryz.func135, Tryz.ntmps135
      go_wp2_with (first
        | (go_at_call 152; (with_reducible refine ch.mono ?_); rintro e w' ⟨rfl, rfl⟩)
        | (go_at_call 52; (with_reducible refine cb.mono ?_); rintro e w3 ⟨⟨v3, rfl, hv3⟩, rfl⟩)
        | (go_at_call 57; (with_reducible refine (cn2 _ _ hv3).mono ?_); rintro e w4 ⟨⟨v4, rfl, hv4⟩, hb4⟩))
      go_ret3
      exact ⟨⟨v4, rfl, hv4⟩, below_next hB1 hb4⟩
set_option maxRecDepth 100000 in
set_option maxHeartbeats 4000000 in
theorem readEnd_any (g : Nat) (v : Value) (l : List UInt8) (hl : l.length ≤ 1000000) (w : World) (h : LfV w g v l) :
    Calls Tryz.prog 137 #[v] w fun e w' => EnV w' g (endP l) e ∧ w = w' := by
  have cb0 := fun n hn => behindV h n hn
  obtain ⟨o, cap, rfl, hc, hL⟩ := h
  have c1 := countBlanks_any g o l cap hl w hL
  have hle := bl_le l
  by_cases hb : bl l < l.length
  · have hcell := hL.at_ hb
    by_cases hq : l[bl l] = 62
    · have hP : endP l = some (l.drop (bl l + 1)) := by unfold endP; rw [if_pos (by rw [List.getElem?_eq_getElem hb, hq])]
      rw [hq] at hcell
      rw [hP]
      show Calls _ _ _ _ (fun e w' => (∃ v', e = .returned (.tuple #[v', .bool true]) ∧ LfV w' g v' (l.drop (bl l + 1))) ∧ _)
      have cb := cb0 (bl l + 1) (by omega)
      generalize bl l = n at *
      have e0 : ((n : Int) == (l.length : Int)) = false := by rw [beq_eq_false_iff_ne]; omega
      have n0 : (0 : Int) ≤ (n : Int) := Int.natCast_nonneg _
      have n1 : (n : Int) < (l.length : Int) := by omega
      have n2 : (l.length : Int) ≤ 1000000 := by omega
      rw [show ((n + 1 : Nat) : Int) = (n : Int) + 1 from rfl] at cb
      clear hP hq hL cb0
      go_enter Tryz.func137, Tryz.ntmps137
      go_wp2_with (first
        | (go_at_call 156; (with_reducible refine c1.mono ?_); rintro e w' ⟨rfl, rfl⟩)
        | (go_at_call 52; (with_reducible refine cb.mono ?_); rintro e w3 ⟨⟨v3, rfl, hv3⟩, rfl⟩))
      go_ret2
      exact ⟨⟨v3, rfl, hv3⟩, rfl⟩
    · have hP : endP l = none := by unfold endP; rw [if_neg (by rw [List.getElem?_eq_getElem hb]; exact fun e => hq (Option.some.inj e))]
      rw [hP]
      show Calls _ _ _ _ (fun e w' => e = _ ∧ _)
      have hne : ((l[bl l].toNat : Int) != 62) = true := by
        rw [bne_iff_ne]
        intro e
        exact hq (UInt8.toNat_inj.1 (by have : l[bl l].toNat = 62 := by omega
                                        rw [this]; rfl))
      generalize l[bl l] = c at *
      generalize bl l = n at *
      have e0 : ((n : Int) == (l.length : Int)) = false := by rw [beq_eq_false_iff_ne]; omega
      have n0 : (0 : Int) ≤ (n : Int) := Int.natCast_nonneg _
      have n1 : (n : Int) < (l.length : Int) := by omega
      clear hP hq hL cb0
      go_enter Tryz.func137, Tryz.ntmps137
      go_wp2_with (go_at_call 156; (with_reducible refine c1.mono ?_); rintro e w' ⟨rfl, rfl⟩)
      go_ret2
      exact ⟨rfl, rfl⟩
  · have hP : endP l = none := by unfold endP; rw [if_neg (by rw [List.getElem?_eq_none (by omega)]; exact fun e => by cases e)]
    rw [hP]
    show Calls _ _ _ _ (fun e w' => e = _ ∧ _)
    have hbl : bl l = l.length := by omega
    rw [hbl] at c1
    clear hP hL cb0 hb hbl hle
    go_enter Tryz.func137, Tryz.ntmps137
    go_wp2_with (go_at_call 156; (with_reducible refine c1.mono ?_); rintro e w' ⟨rfl, rfl⟩)
    go_ret2
    exact ⟨rfl, rfl⟩
end Tok
end Go.Proofs.YteopighhhcikcaaGreatDoor
