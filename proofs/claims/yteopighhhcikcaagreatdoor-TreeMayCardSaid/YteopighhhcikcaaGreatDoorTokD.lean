/- token's readValue and readAttr over bytes that lie in memory. Conditions: the bytes lie in memory, and are not too many. -/
import Derived.Test.YteopighhhcikcaaGreatDoorTokB
import Derived.Lib.SlBytesConst
/- token's readBegin, readEnd, readValue over bytes that lie in memory; a text as bytes. Conditions: the bytes lie in memory, and are not too many. -/
namespace Go.Proofs.YteopighhhcikcaaGreatDoor
open Go.ChangeShapes Go.WideShapes Go.ChangeAt Go.RowKit
namespace Tok
open Rep (tellL)
def numL (l : List UInt8) : List Int := l.map fun c => (c.toNat : Int)
theorem numL_len (l : List UInt8) : (numL l).length = l.length := List.length_map ..
theorem bytesOf_numL (l : List UInt8) : Lib.bytesOf (numL l) = l := by
  unfold Lib.bytesOf numL
  rw [List.map_map]
  conv => rhs; rw [← List.map_id l]
  congr 1
  funext c
  simp
theorem Lf.nums {w : World} {g o : Nat} {l : List UInt8} (h : Lf w g o l) : ∀ i, i < l.length → w.cell? ⟨g, o + i, none⟩ = some (.int .u8 ((numL l).getD i 0)) := by
  intro i hi
  rw [h.at_ hi]
  unfold numL
  simp [List.getD, hi]
theorem Lf.bytesIn {w : World} {g o : Nat} {l : List UInt8} (h : Lf w g o l) : Lib.BytesIn w (some ⟨g, o, none⟩) l.length (numL l) := fun _ => ⟨g, o, rfl, h.nums⟩
/-- A text as bytes. -/
theorem run_bytes (p : List UInt8) (w : World) : ∃ w1 c, (convert 9 74 (.string (toB p))).run Tryz.prog w = .ok (.slice (some ⟨w.heap.size, 0, none⟩) p.length c) w1 ∧ p.length ≤ c ∧ Lf w1 w.heap.size 0 p ∧ Below w.heap.size w w1 ∧ w1.heap.size = w.heap.size + 1 := by
  have h := run_bytes_of_string (P := Tryz.prog) w 9 74 5 (toB p) Tryz.underlying9 Tryz.underlying74 Tryz.underlying5
  rw [toB_size] at h
  refine ⟨_, _, h, ?_, ⟨?_, ?_⟩, ?_, ?_⟩
  · rw [← toB_size p]; exact grownCap_ge _ _ _ _
  · rw [size_al]; exact Nat.lt_succ_self _
  · intro j c hc
    have hj : j < p.length := (List.getElem?_eq_some_iff.1 hc).1
    have hj' : j < (toB p).size := by rw [toB_size]; exact hj
    rw [Nat.zero_add]
    refine (World.cell?_alloc_mark w.drew _ _ _ j).trans ?_
    rw [bytesRow_at (toB p) _ j hj']
    have : (toB p).data[j] = c := by
      have := (List.getElem?_eq_some_iff.1 hc).2
      simpa [toB] using this
    rw [this]
    rfl
  · exact below_al (Below.refl _ _).drew _
  · rw [size_al]; rfl
/-- What stands at the beginning, and the name behind it. -/
def beginP (p l : List UInt8) : Option (List UInt8 × List UInt8) := if p.isPrefixOf l then nameP (l.drop p.length) else none
theorem prefix_len {p l : List UInt8} (h : p.isPrefixOf l = true) : p.length ≤ l.length := (List.isPrefixOf_iff_prefix.1 h).length_le
set_option maxRecDepth 100000 in
set_option maxHeartbeats 4000000 in
theorem readBegin_any (g : Nat) (v : Value) (l p : List UInt8) (hl : l.length ≤ 1000000) (hp : p.length ≤ 100) (w : World) (h : LfV w g v l) :
    Calls Tryz.prog 135 #[v, .string (toB p)] w fun e w' => NmV w' g (beginP p l) e ∧ Below w.heap.size w w' := by
  obtain ⟨w1, c1, hrun, hc1, hL1, hB1, hz1⟩ := run_bytes p w
  have h1 := h.next hB1
  have hc2 := fun w => behindV (w := w) (g := g) (v := v) (l := l) (n := p.length)
  have hz : (toB p).size = p.length := toB_size p
  obtain ⟨o, cap, rfl, hc, hL⟩ := h
  have ch := Tryz.bytes_HasPrefix_all (some ⟨g, o, none⟩) (some ⟨w.heap.size, 0, none⟩) l.length cap p.length c1 (numL l) (numL p) w1 (numL_len l) (numL_len p) hc (hL.next hB1).bytesIn hL1.bytesIn
  rw [bytesOf_numL, bytesOf_numL] at ch
  unfold Lib.hasPrefix at ch
  unfold beginP
  generalize toB p = tx at *
  cases hpre : p.isPrefixOf l with
  | false =>
    rw [hpre] at ch
    show Calls _ _ _ _ (fun e w' => e = _ ∧ _)
    clear hpre h1 hL hL1 hc2
    go_enter Tryz.func135, Tryz.ntmps135
    go_wp2_with (go_at_call 152; (with_reducible refine ch.mono ?_); rintro e w' ⟨rfl, rfl⟩)
    go_ret3
    exact ⟨rfl, hB1⟩
  | true =>
    rw [hpre] at ch
    have hle := prefix_len hpre
    have cb := hc2 w1 h1 hle
    have cn := fun v w h => readName_any g v (l.drop p.length) (by rw [List.length_drop]; unfold maxLen; omega) w h
    show Calls _ _ _ _ (fun e w' => NmV w' g (nameP (l.drop p.length)) e ∧ _)
    cases hn : nameP (l.drop p.length) with
    | none =>
      rw [hn] at cn
      have cn2 : ∀ v w, LfV w g v (l.drop p.length) → Calls Tryz.prog 57 #[v] w fun e w' => e = .returned (.tuple #[.string ⟨#[]⟩, .slice none 0 0, .bool false]) ∧ Below w.heap.size w w' := cn
      show Calls _ _ _ _ (fun e w' => e = _ ∧ _)
      clear hpre h1 hL hL1 hc2 hn cn
      go_enter Tryz.func135, Tryz.ntmps135
      go_wp2_with (first
        | (go_at_call 152; (with_reducible refine ch.mono ?_); rintro e w' ⟨rfl, rfl⟩)
        | (go_at_call 52; (with_reducible refine cb.mono ?_); rintro e w3 ⟨⟨v3, rfl, hv3⟩, rfl⟩)
        | (go_at_call 57; (with_reducible refine (cn2 _ _ hv3).mono ?_); rintro e w4 ⟨rfl, hb4⟩))
      go_ret3
      exact ⟨rfl, below_next hB1 hb4⟩
    | some x =>
      obtain ⟨n, r⟩ := x
      rw [hn] at cn
      have cn2 : ∀ v w, LfV w g v (l.drop p.length) → Calls Tryz.prog 57 #[v] w fun e w' => (∃ v', e = .returned (.tuple #[.string (toB n), v', .bool true]) ∧ LfV w' g v' r) ∧ Below w.heap.size w w' := cn
      show Calls _ _ _ _ (fun e w' => (∃ v', e = .returned (.tuple #[.string (toB n), v', .bool true]) ∧ LfV w' g v' r) ∧ _)
      clear hpre h1 hL hL1 hc2 hn cn
      generalize toB n = nx at *
      go_enter Tryz.func135, Tryz.ntmps135
      go_wp2_with (first
        | (go_at_call 152; (with_reducible refine ch.mono ?_); rintro e w' ⟨rfl, rfl⟩)
        | (go_at_call 52; (with_reducible refine cb.mono ?_); rintro e w3 ⟨⟨v3, rfl, hv3⟩, rfl⟩)
        | (go_at_call 57; (with_reducible refine (cn2 _ _ hv3).mono ?_); rintro e w4 ⟨⟨v4, rfl, hv4⟩, hb4⟩))
      go_ret3
      exact ⟨⟨v4, rfl, hv4⟩, below_next hB1 hb4⟩
set_option maxRecDepth 100000 in
set_option maxHeartbeats 4000000 in
theorem readEnd_any (g : Nat) (v : Value) (l : List UInt8) (hl : l.length ≤ 1000000) (w : World) (h : LfV w g v l) :
    Calls Tryz.prog 137 #[v] w fun e w' => EnV w' g (endP l) e ∧ w = w' := by
  have cb0 := fun n hn => behindV h n hn
  obtain ⟨o, cap, rfl, hc, hL⟩ := h
  have c1 := countBlanks_any g o l cap hl w hL
  have hle := bl_le l
  by_cases hb : bl l < l.length
  · have hcell := hL.at_ hb
    by_cases hq : l[bl l] = 62
    · have hP : endP l = some (l.drop (bl l + 1)) := by unfold endP; rw [if_pos (by rw [List.getElem?_eq_getElem hb, hq])]
      rw [hq] at hcell
      rw [hP]
      show Calls _ _ _ _ (fun e w' => (∃ v', e = .returned (.tuple #[v', .bool true]) ∧ LfV w' g v' (l.drop (bl l + 1))) ∧ _)
      have cb := cb0 (bl l + 1) (by omega)
      generalize bl l = n at *
      have e0 : ((n : Int) == (l.length : Int)) = false := by rw [beq_eq_false_iff_ne]; omega
      have n0 : (0 : Int) ≤ (n : Int) := Int.natCast_nonneg _
      have n1 : (n : Int) < (l.length : Int) := by omega
      have n2 : (l.length : Int) ≤ 1000000 := by omega
      rw [show ((n + 1 : Nat) : Int) = (n : Int) + 1 from rfl] at cb
      clear hP hq hL cb0
      go_enter Tryz.func137, Tryz.ntmps137
      go_wp2_with (first
        | (go_at_call 156; (with_reducible refine c1.mono ?_); rintro e w' ⟨rfl, rfl⟩)
        | (go_at_call 52; (with_reducible refine cb.mono ?_); rintro e w3 ⟨⟨v3, rfl, hv3⟩, rfl⟩))
      go_ret2
      exact ⟨⟨v3, rfl, hv3⟩, rfl⟩
    · have hP : endP l = none := by unfold endP; rw [if_neg (by rw [List.getElem?_eq_getElem hb]; exact fun e => hq (Option.some.inj e))]
      rw [hP]
      show Calls _ _ _ _ (fun e w' => e = _ ∧ _)
      have hne : ((l[bl l].toNat : Int) != 62) = true := by
        rw [bne_iff_ne]
        intro e
        exact hq (UInt8.toNat_inj.1 (by have : l[bl l].toNat = 62 := by omega
                                        rw [this]; rfl))
      generalize l[bl l] = c at *
      generalize bl l = n at *
      have e0 : ((n : Int) == (l.length : Int)) = false := by rw [beq_eq_false_iff_ne]; omega
      have n0 : (0 : Int) ≤ (n : Int) := Int.natCast_nonneg _
      have n1 : (n : Int) < (l.length : Int) := by omega
      clear hP hq hL cb0
      go_enter Tryz.func137, Tryz.ntmps137
      go_wp2_with (go_at_call 156; (with_reducible refine c1.mono ?_); rintro e w' ⟨rfl, rfl⟩)
      go_ret2
      exact ⟨rfl, rfl⟩
  · have hP : endP l = none := by unfold endP; rw [if_neg (by rw [List.getElem?_eq_none (by omega)]; exact fun e => by cases e)]
    rw [hP]
    show Calls _ _ _ _ (fun e w' => e = _ ∧ _)
    have hbl : bl l = l.length := by omega
    rw [hbl] at c1
    clear hP hL cb0 hb hbl hle
    go_enter Tryz.func137, Tryz.ntmps137
    go_wp2_with (go_at_call 156; (with_reducible refine c1.mono ?_); rintro e w' ⟨rfl, rfl⟩)
    go_ret2
    exact ⟨rfl, rfl⟩
end Tok
end Go.Proofs.YteopighhhcikcaaGreatDoor
namespace Go.Proofs.YteopighhhcikcaaGreatDoor
open Go.ChangeShapes Go.WideShapes Go.ChangeAt Go.RowKit
namespace Tok
open Rep (tellL)
/-- The place of the next quote. -/
theorem index_quote : ∀ q : List UInt8, Lib.indexByte q 34 = if 34 ∈ q then ((q.takeWhile (· != 34)).length : Int) else -1
  | [] => rfl
  | c :: t => by
    have ih := index_quote t
    unfold Lib.indexByte
    by_cases h : c = 34
    · subst h
      simp
    · have h1 : (c == 34) = false := beq_eq_false_iff_ne.2 h
      have h2 : (c != 34) = true := bne_iff_ne.2 h
      have h3 : (34 ∈ c :: t) ↔ 34 ∈ t := by
        rw [List.mem_cons]
        exact ⟨fun e => e.elim (fun e => absurd e.symm h) id, .inr⟩
      rw [h1, List.takeWhile_cons, if_pos h2, ih]
      by_cases hm : 34 ∈ t
      · rw [if_pos hm, if_pos (h3.2 hm)]
        have : (((t.takeWhile (· != 34)).length : Int) == -1) = false := by rw [beq_eq_false_iff_ne]; omega
        rw [this]
        simp
      · rw [if_neg hm, if_neg (fun e => hm (h3.1 e))]
        rfl
theorem take_quote (q : List UInt8) : q.take (q.takeWhile (· != 34)).length = q.takeWhile (· != 34) := by
  have := List.takeWhile_prefix (fun c : UInt8 => c != 34) (l := q)
  rw [List.prefix_iff_eq_take] at this
  exact this.symm
theorem valP_pre {l : List UInt8} (h : ([61, 34] : List UInt8).isPrefixOf l = true) : valP l = if 34 ∈ l.drop 2 then (tellL ((l.drop 2).takeWhile (· != 34)), (l.drop 2).drop (((l.drop 2).takeWhile (· != 34)).length + 1)) else ([], l) := by
  obtain ⟨q, rfl⟩ := List.isPrefixOf_iff_prefix.1 h
  rfl
theorem valP_not {l : List UInt8} (h : ([61, 34] : List UInt8).isPrefixOf l = false) : valP l = ([], l) := by
  unfold valP
  split
  · simp [List.isPrefixOf] at h
  · rfl
/-- What CutPrefix hands back. -/
theorem cut_pre {w : World} {g o c : Nat} {l : List UInt8} (hc : l.length ≤ c) (hL : Lf w g o l) (h : ([61, 34] : List UInt8).isPrefixOf l = true) : ∃ o' c', Lib.trimPrefixV (some ⟨g, o, none⟩) l.length c (numL l) (numL [61, 34]) = .slice (some ⟨g, o', none⟩) (l.drop 2).length c' ∧ (l.drop 2).length ≤ c' ∧ Lf w g o' (l.drop 2) := by
  have hle := prefix_len h
  have e : Lib.trimPrefixV (some ⟨g, o, none⟩) l.length c (numL l) (numL [61, 34]) = Lib.sliceFrom g o l.length c 2 := by
    show Lib.bytesTrimPrefix g o l.length c (numL l) (numL [61, 34]) = _
    unfold Lib.bytesTrimPrefix Lib.hasPrefix
    rw [bytesOf_numL, bytesOf_numL, if_pos h]
    rfl
  rw [e]
  unfold Lib.sliceFrom
  by_cases hk : c = 2
  · subst hk
    have : l.drop 2 = [] := List.drop_of_length_le hc
    refine ⟨o, 0, by rw [if_pos rfl, List.length_drop], by rw [this]; exact Nat.le_refl _, by rw [this]; exact Lf.nil hL.1⟩
  · exact ⟨o + 2, c - 2, by rw [if_neg hk, List.length_drop], by rw [List.length_drop]; omega, hL.drop 2⟩
theorem cut_not {g o c : Nat} {l : List UInt8} (h : ([61, 34] : List UInt8).isPrefixOf l = false) : Lib.trimPrefixV (some ⟨g, o, none⟩) l.length c (numL l) (numL [61, 34]) = .slice (some ⟨g, o, none⟩) l.length c := by
  show Lib.bytesTrimPrefix g o l.length c (numL l) (numL [61, 34]) = _
  unfold Lib.bytesTrimPrefix Lib.hasPrefix
  rw [bytesOf_numL, bytesOf_numL, if_neg (by rw [h]; decide)]
theorem add_off (g o i : Nat) : (⟨g, o, none⟩ : Addr).add i = ⟨g, o + i, none⟩ := by
  unfold Addr.add
  split
  · subst_vars; rfl
  · rfl
theorem take_no (q : List UInt8) : 34 ∉ q.takeWhile (· != 34) := by
  induction q with
  | nil => simp
  | cons c t ih =>
    rw [List.takeWhile_cons]
    split
    · rename_i h
      intro e
      rcases List.mem_cons.1 e with e | e
      · rw [← e] at h; simp at h
      · exact ih e
    · simp
set_option maxRecDepth 100000 in
set_option maxHeartbeats 4000000 in
theorem readValue_any (g : Nat) (v : Value) (l : List UInt8) (hl : l.length ≤ 1000000) (w : World) (h : LfV w g v l) :
    Calls Tryz.prog 169 #[v] w fun e w' => (∃ v', e = .returned (.tuple #[.string (toB (valP l).1), v']) ∧ LfV w' g v' (valP l).2) ∧ Below w.heap.size w w' := by
  obtain ⟨o, cap, rfl, hc, hL⟩ := h
  have hB1 := below_al (Below.refl w.heap.size w) (.cells #[.int .u8 61, .int .u8 34] 5 (2, 2 + 1))
  have hL1 := hL.next hB1
  have K := fun j => World.cell?_alloc_mark w #[.int .u8 61, .int .u8 34] 5 (2, 2 + 1) j
  have hq : Lf (w.alloc (.cells #[.int .u8 61, .int .u8 34] 5 (2, 2 + 1))) w.heap.size 0 [61, 34] := ⟨by rw [size_al]; exact Nat.lt_succ_self _, fun j c hj => by
    rw [Nat.zero_add, K j]
    match j, hj with
    | 0, hj => obtain rfl := Option.some.inj hj; rfl
    | 1, hj => obtain rfl := Option.some.inj hj; rfl⟩
  have ch := fun d => Tryz.bytes_CutPrefix_all (some ⟨g, o, none⟩) (some ⟨w.heap.size, 0, none⟩) l.length cap 2 d (numL l) (numL [61, 34]) _ (numL_len l) (numL_len _) hc hL1.bytesIn hq.bytesIn
  rw [bytesOf_numL, bytesOf_numL] at ch
  unfold Lib.hasPrefix at ch
  have ci := fun (o c : Nat) (q : List UInt8) (w : World) (h : Lf w g o q) => Tryz.bytes_IndexByte_at ⟨g, o, none⟩ q.length c (numL q) 34 w (numL_len q) (fun i hi => by rw [add_off]; exact h.nums i hi)
  have hcv := Lib.run_convert_bytes_const (P := Tryz.prog) w 74 5 #[.int .u8 61, .int .u8 34] 2 2 Tryz.underlying74 Tryz.underlying5
  rw [show (#[.int .u8 61, .int .u8 34] : Array Value).size = 2 from rfl] at hcv
  have e34 : (Int.toNat 34).toUInt8 = 34 := rfl
  simp only [bytesOf_numL, e34] at ci
  cases hpre : ([61, 34] : List UInt8).isPrefixOf l with
  | false =>
    rw [hpre] at ch
    simp only [cut_not hpre] at ch
    rw [valP_not hpre]
    obtain ⟨x, hx⟩ : ∃ x, x = Lib.indexByte l 34 := ⟨_, rfl⟩
    have ci1 := fun w h => ci o cap l w h
    rw [← hx] at ci1
    clear hx hpre K hq ci
    rw [show toB [] = ByteArray.empty from rfl]
    go_enter Tryz.func169, Tryz.ntmps169
    go_wp2_with (first
      | (go_at_call 184; (with_reducible refine (ch _).mono ?_); rintro e w' ⟨rfl, rfl⟩)
      | (go_at_call 185; (with_reducible refine (ci1 _ hL1).mono ?_); rintro e w3 ⟨rfl, rfl⟩))
    go_ret2
    exact ⟨⟨_, rfl, o, cap, rfl, hc, hL1⟩, hB1⟩
  | true =>
    rw [hpre] at ch
    obtain ⟨o2, c2, e2, hc2, hL2⟩ := cut_pre hc hL1 hpre
    rw [e2] at ch
    rw [valP_pre hpre]
    have hl2 : (l.drop 2).length ≤ 1000000 := by rw [List.length_drop]; omega
    generalize l.drop 2 = q at *
    have ci1 := ci o2 c2 q _ hL2
    rw [index_quote] at ci1
    clear ci hpre K hq e2
    by_cases hm : 34 ∈ q
    · rw [if_pos hm] at ci1 ⊢
      have hle : (q.takeWhile (· != 34)).length < q.length := by
        rcases Nat.lt_or_ge (q.takeWhile (· != 34)).length q.length with h | h
        · exact h
        · have e := take_quote q
          rw [List.take_of_length_le h] at e
          exact absurd (e ▸ hm) (take_no q)
      have ht := take_quote q
      have hcut := fun w => cut_run g o2 q.length c2 (q.takeWhile (· != 34)).length (by omega) hc2 w
      have htx := textV hL2 (q.takeWhile (· != 34)).length c2 (by omega)
      rw [ht] at htx
      have ct := fun w => Rep.tell_any (q.takeWhile (· != 34)) (by omega) w
      have cb := fun w h => behindV (w := w) (g := g) (v := .slice (some ⟨g, o2, none⟩) q.length c2) (l := q) h ((q.takeWhile (· != 34)).length + 1) (by omega)
      generalize hqn : q.takeWhile (· != 34) = qt at *
      generalize qt.length = n at *
      generalize q.drop (n + 1) = r at *
      generalize toB qt = tx at *
      generalize toB (tellL qt) = ty at *
      have n0 : (0 : Int) ≤ (n : Int) := Int.natCast_nonneg _
      have n1 : decide ((n : Int) < 0) = false := decide_eq_false (by omega)
      have n2 : (n : Int) ≤ 1000000 := by omega
      clear ht hqn
      simp only [show ((n + 1 : Nat) : Int) = (n : Int) + 1 from rfl] at cb
      go_enter Tryz.func169, Tryz.ntmps169
      go_wp2_with (first
        | (go_at_call 184; (with_reducible refine (ch _).mono ?_); rintro e w' ⟨rfl, rfl⟩)
        | (go_at_call 185; (with_reducible refine ci1.mono ?_); rintro e w3 ⟨rfl, rfl⟩)
        | (go_at_call 22; (with_reducible refine (ct _).mono ?_); rintro e w4 ⟨rfl, hb4⟩
           have hL4 : LfV w4 g (.slice (some ⟨g, o2, none⟩) q.length c2) q := ⟨o2, c2, rfl, hc2, hL2.next hb4⟩)
        | (go_at_call 52; (with_reducible refine (cb _ hL4).mono ?_); rintro e w5 ⟨⟨v5, rfl, hv5⟩, rfl⟩))
      go_ret2
      exact ⟨⟨_, rfl, hv5⟩, below_next hB1 hb4⟩
    · rw [if_neg hm] at ci1 ⊢
      clear hm
      rw [show toB [] = ByteArray.empty from rfl]
      go_enter Tryz.func169, Tryz.ntmps169
      go_wp2_with (first
        | (go_at_call 184; (with_reducible refine (ch _).mono ?_); rintro e w' ⟨rfl, rfl⟩)
        | (go_at_call 185; (with_reducible refine ci1.mono ?_); rintro e w3 ⟨rfl, rfl⟩))
      go_ret2
      exact ⟨⟨_, rfl, o, cap, rfl, hc, hL1⟩, hB1⟩
end Tok
end Go.Proofs.YteopighhhcikcaaGreatDoor
