/- ScanTells' walk, from what scan's functions answer. Conditions: those answers. -/
import Derived.Test.YthkofdleoigajaaDoorRx7Blocks
import Derived.Test.YthkofdleoigajaaDoorRx7Strip
import Derived.Test.YthkofdleoigajaaDoorRx7Lower
import Derived.Test.YthkofdleoigajaaDoorRx7Same
namespace Go.Proofs.YthkofdleoigajaaDoor
open Go.ChangeShapes Go.WideShapes Go.ChangeAt Go.RowKit
theorem flatB_at {l : List (List UInt8 × List UInt8)} {k : Nat} {b : List UInt8 × List UInt8} (h : l[k]? = some b) : (flatB l)[k * 2]? = some (.string (toB b.1)) ∧ (flatB l)[k * 2 + 1]? = some (.string (toB b.2)) := by
  induction l generalizing k with
  | nil => simp at h
  | cons a t ih =>
    have e : flatB (a :: t) = .string (toB a.1) :: .string (toB a.2) :: flatB t := rfl
    cases k with
    | zero => simp at h; subst h; exact ⟨rfl, rfl⟩
    | succ k =>
      rw [e, show (k + 1) * 2 = k * 2 + 2 by omega]
      exact ih (by simpa using h)
/-- The cells of the block number k. -/
theorem block_of {w : World} {B n k : Nat} {A : Option Addr} {l : List (List UInt8 × List UInt8)} {b : List UInt8 × List UInt8} (h : Reads w B 2 A n (flatB l)) (hk : l[k]? = some b) :
    ∃ ad, A = some ad ∧ ad.block < B ∧ w.cell? (ad.add (k * 2)) = some (.string (toB b.1)) ∧ w.cell? ⟨(ad.add (k * 2)).block, (ad.add (k * 2)).off + 1, none⟩ = some (.string (toB b.2)) := by
  have hl : l.length = n := by have := h.1; rw [flatB_len] at this; omega
  have hkl := (List.getElem?_eq_some_iff.1 hk).1
  obtain ⟨ad, e, hb, hc⟩ := h.2 (by omega)
  obtain ⟨f0, f1⟩ := flatB_at hk
  refine ⟨ad, e, hb, hc _ _ f0, ?_⟩
  have := hc _ _ f1
  rwa [← add_of_add, add_one] at this
theorem bstep_len (st : Bst) (c : UInt8) : (bstep st c).out.length ≤ st.out.length + 1 := by
  obtain ⟨o, h, b⟩ := st
  unfold bstep
  cases b with
  | none => split <;> (first | (simp; done) | (simp only; split <;> simp))
  | some b => split <;> simp
theorem blocks_len (l : List UInt8) : (blocksF l).length ≤ l.length := by
  have : ∀ (l : List UInt8) (st : Bst), (l.foldl bstep st).out.length ≤ st.out.length + l.length := by
    intro l
    induction l with
    | nil => intro st; exact Nat.le_refl _
    | cons c t ih =>
      intro st
      have h1 := ih (bstep st c)
      have h2 := bstep_len st c
      simp only [List.foldl_cons, List.length_cons] at h1 ⊢
      omega
  have h := this l ⟨[], [], none⟩
  simpa [blocksF] using h
namespace scanTells
set_option maxHeartbeats 8000000 in
theorem walk (cAwake : ∀ w, Lens w → Calls Tryd.prog 7 #[] w fun e w' => e = .returned (.bool true) ∧ Below w.heap.size w w') (cStrip : StripC) (cTrim : TrimC) (cLower : LowerC) (cSplit : SplitC) (cWords : WordsC) (cBlocks : BlocksC)
    (s : ByteArray) (hs : s.size ≤ maxLen) (sep : UInt8) (w : World) (hL : Lens w) :
    Calls Tryd.prog 3 #[.string s, .int .u8 (sep.toNat : Int)] w fun e w' => e = .returned (.bool true) ∧ Below w.heap.size w w' := by
  unfold maxLen at hs
  by_cases h5 : 1000 < s.size
  · go_enter Tryd.func3, Tryd.ntmps3
    go_wp2_with (go_at_call 7; refine (cAwake _ hL).mono ?_; rintro e w1 ⟨rfl, hb⟩)
    go_ret
    exact ⟨rfl, hb⟩
  have h5' : s.size ≤ 1000 := by omega
  clear h5 hs
  have m1 : s.size ≤ mostB := by unfold mostB; omega
  have c1 := fun w hl => cBlocks s w hl m1
  have d1 := fun w => rblocks_any s w m1
  have c2 := fun w hl => cStrip s w hl m1
  have d2 := fun w => rstrip_any s w m1
  have c3 := fun w => cTrim s w m1
  have d3 := fun w => rtrim_any s w (by unfold maxLen; omega)
  have c4 := fun w => cSplit s sep w m1
  have d4 := fun w => rsplit_any sep s w m1
  have c5 := fun w => cWords s w m1
  have d5 := fun w => rwords_any s w m1
  have c6 := fun w => cLower s w m1
  have d6 := fun w => rlower_any s w m1
  have hsame : ∀ A n c B m d k0 k1 xs w, xs.length ≤ 1001 → Reads w k0 1 A n (strs xs) → Reads w k1 1 B m (strs xs) → Calls Tryd.prog 14 #[.slice A n c, .slice B m d] w fun e w' => e = .returned (.bool true) ∧ ∃ q, w.drewN q = w' := by
    intro A n c B m d k0 k1 xs w hl hx hy
    have lx : xs.length = n := by have := hx.1; rw [strs_len] at this; omega
    have ly : xs.length = m := by have := hy.1; rw [strs_len] at this; omega
    have := rsame_any A B n c m d k0 k1 xs xs w hx hy (by omega) (by omega)
    rwa [show sameS xs xs = true from decide_eq_true rfl] at this
  have l4 : (splitF sep s.data.toList).length ≤ 1001 := by have := split_len sep s.data.toList; rw [size_list] at this; omega
  have l5 : (wordsF s.data.toList).length ≤ 1001 := by
    have h1 : (wordsF s.data.toList).length ≤ (partsAt isBlank s.data.toList).length := List.length_filter_le _ _
    have h2 : ∀ l : List UInt8, (partsAt isBlank l).length ≤ l.length + 1 := by
      intro l
      induction l with
      | nil => exact Nat.le_refl _
      | cons c t ih =>
        unfold partsAt
        split
        · simp only [List.length_cons]; omega
        · split
          · simp
          · rename_i h r e
            rw [e] at ih
            simp only [List.length_cons] at ih ⊢; omega
    have := h2 s.data.toList
    rw [size_list] at this
    omega
  have l1 : (blocksF s.data.toList).length ≤ 1000 := by have := blocks_len s.data.toList; rw [size_list] at this; omega
  generalize onB stripL s = r2 at *
  generalize onB trimL s = r3 at *
  generalize onB lowL s = r6 at *
  generalize splitF sep s.data.toList = r4 at *
  generalize wordsF s.data.toList = r5 at *
  generalize blocksF s.data.toList = r1 at *
  clear m1
  go_enter Tryd.func3, Tryd.ntmps3
  go_wp2_with (first
    | (go_at_call 7; refine (cAwake _ hL).mono ?_; rintro e w1 ⟨rfl, hb1⟩; have hB := hb1; clear hb1)
    | (go_at_call 8; (with_reducible refine (c1 _ (hL.of hB)).mono ?_); rintro e w2 ⟨A, n, c, rfl, hr, hb2⟩; replace hB := below_next hB hb2; clear hb2)
    | (go_at_call 9; (with_reducible refine (d1 _).mono ?_); rintro e w3 ⟨B, m, d, rfl, hq, hb3⟩
       have hmn : n = m := by have h1 := hr.1; have h2 := hq.1; omega
       subst hmn
       have hr3 := hr.below hb3
       replace hB := below_next hB hb3; clear hb3 hr))
  have hnl : r1.length = n := by have := hq.1; rw [flatB_len] at this; omega
  go_loopw [24] (fun i wr => ∃ k q : Nat, k ≤ n ∧ i = .int .i64 k ∧ wr = w3.drewN q) (fun i _ => n - (intOf i).toNat)
  case atStart => exact ⟨0, 0, Nat.zero_le _, rfl, rfl⟩
  case round =>
    obtain ⟨k, q, hk, rfl, rfl⟩ := hrel
    by_cases hkl : k < n
    · obtain ⟨b, hb⟩ : ∃ b, r1[k]? = some b := ⟨r1[k], List.getElem?_eq_getElem (by omega)⟩
      obtain ⟨ad, rfl, -, e0, e1⟩ := block_of hr3 hb
      obtain ⟨bd, rfl, -, f0, f1⟩ := block_of hq hb
      clear hb c1 c2 c3 c4 c5 c6 d1 d2 d3 d4 d5 d6 hr3 hq hsame
      go_wp2
      go_quiet (fail)
      go_wp2
      go_roundw
      case rel => exact ⟨k + 1, q + nq, by omega, by go_num, rfl⟩
      case measure => simp [intOf]; omega
    · obtain rfl : k = n := by omega
      clear hr3 hq
      have hB' := below_dr hB q
      go_wp2_with (first
        | (go_at_call 10; (with_reducible refine (c2 _ (hL.of hB')).mono ?_); rintro e w4 ⟨rfl, hb⟩; replace hB' := below_next hB' hb; clear hb)
        | (go_at_call 11; (with_reducible refine (d2 _).mono ?_); rintro e w5 ⟨rfl, hb⟩; replace hB' := below_next hB' hb; clear hb)
        | (go_at_call 12; (with_reducible refine (c3 _).mono ?_); rintro e w6 ⟨rfl, hb⟩; replace hB' := below_next hB' hb; clear hb)
        | (go_at_call 13; (with_reducible refine (d3 _).mono ?_); rintro e w7 ⟨rfl, rfl⟩)
        | (go_at_call 15; (with_reducible refine (c4 _).mono ?_); rintro e w8 ⟨A4, n4, c4', rfl, hr4, hb⟩; replace hB' := below_next hB' hb; clear hb)
        | (go_at_call 16; (with_reducible refine (d4 _).mono ?_); rintro e w9 ⟨B4, m4, d4', rfl, hq4, hb⟩; replace hB' := below_next hB' hb; replace hr4 := hr4.below hb; clear hb)
        | (go_at_call 17; (with_reducible refine (c5 _).mono ?_); rintro e w10 ⟨A5, n5, c5', rfl, hr5, hb⟩; replace hB' := below_next hB' hb; clear hb)
        | (go_at_call 18; (with_reducible refine (d5 _).mono ?_); rintro e w11 ⟨B5, m5, d5', rfl, hq5, hb⟩; replace hB' := below_next hB' hb; replace hr5 := hr5.below hb; clear hb)
        | (go_at_call 14; (first | (with_reducible refine (hsame _ _ _ _ _ _ _ _ _ _ l5 hr5 hq5).mono ?_) | (with_reducible refine (hsame _ _ _ _ _ _ _ _ _ _ l4 hr4 hq4).mono ?_)); rintro e w12 ⟨rfl, q2, rfl⟩; replace hB' := below_dr hB' q2)
        | (go_at_call 19; (with_reducible refine (c6 _).mono ?_); rintro e w13 ⟨rfl, hb⟩; replace hB' := below_next hB' hb; clear hb)
        | (go_at_call 20; (with_reducible refine (d6 _).mono ?_); rintro e w14 ⟨rfl, hb⟩; replace hB' := below_next hB' hb; clear hb))
      go_ret
      exact ⟨rfl, hB'⟩
end scanTells
end Go.Proofs.YthkofdleoigajaaDoor
