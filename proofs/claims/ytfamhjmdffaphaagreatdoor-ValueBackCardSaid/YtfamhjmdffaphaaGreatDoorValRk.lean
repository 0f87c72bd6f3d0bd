/- What read answers, kind by kind. Conditions: the text isn't too long, and has no capitals; the tables are laid. -/
import Derived.Test.YtfamhjmdffaphaaGreatDoorValNd
import Derived.Test.YtfamhjmdffaphaaGreatDoorValIx
import Derived.Test.YtfamhjmdffaphaaGreatDoorValMayW
namespace Go.Proofs.YtfamhjmdffaphaaGreatDoor
open Go.ChangeShapes Go.WideShapes Go.ChangeAt Go.RowKit
namespace Val
theorem words_all (p : Int) : wordsF (wordsB p) = wordsP p := by
  by_cases h : 0 ≤ p ∧ p < 27
  · exact words_eq h.1 h.2
  · have h1 : wordsB p = [] := by unfold wordsB; rw [if_neg (by omega)]
    have h2 : wordsP p = [] := by unfold wordsP; rw [if_neg (by omega), if_neg (by omega), if_neg (by omega), if_neg (by omega)]
    rw [h1, h2]
    decide
theorem wordsP_few (p : Int) : (wordsP p).length ≤ 4 := by
  unfold wordsP
  repeat (split; · decide)
  decide
def kindV (p k : Int) (l : List UInt8) : Option Int := if k = 0 then none else readK p k l
theorem lit_eq (l x : List UInt8) : (∃ _ : l = x, ((toB l).toList == (toB x).toList) = true) ∨ (¬ l = x ∧ ((toB l).toList == (toB x).toList) = false) := by
  by_cases h : l = x
  · exact .inl ⟨h, (Lib.bytes_beq_iff _ _).2 (by rw [h])⟩
  · exact .inr ⟨h, (Lib.bytes_beq_false_iff _ _).2 (fun e => h (by have := congrArg (fun s => s.data.toList) e; exact this))⟩
set_option maxRecDepth 100000 in
set_option maxHeartbeats 8000000 in
theorem read_any (cWords : WordsC) (p k : Int) (hk : 0 ≤ k ∧ k ≤ 6) (s : ByteArray) (hs : s.size ≤ mostB) (hl : lowL s.data.toList = s.data.toList) (w : World) (hT : Tabs w) :
    Calls Tryz.prog 24 #[.int .i64 k, .int .i64 p, .string s] w fun e w' => okV (kindV p k s.data.toList) e ∧ Below w.heap.size w w' := by
  have hk7 : k = 0 ∨ k = 1 ∨ k = 2 ∨ k = 3 ∨ k = 4 ∨ k = 5 ∨ k = 6 := by omega
  clear hk
  obtain ⟨l, hsl⟩ : ∃ l, l = s.data.toList := ⟨_, rfl⟩
  obtain rfl : s = toB l := text_eq hsl
  rw [toB_list] at hl ⊢
  clear hsl
  rcases hk7 with rfl | rfl | rfl | rfl | rfl | rfl | rfl
  · have e : kindV p 0 l = none := rfl
    rw [e]
    simp only [okV]
    go_enter Tryz.func24, Tryz.ntmps24
    go_wp2
    go_ret2
    exact ⟨⟨_, rfl⟩, Below.refl _ _⟩
  · have e : kindV p 1 l = if l = [97, 117, 116, 111] then some 0 else none := rfl
    rw [e]
    have hq := lit_eq l [97, 117, 116, 111]
    have e4 : (toB [97, 117, 116, 111]).toList = [97, 117, 116, 111] := by rw [ByteArray.toList_eq]; rfl
    rw [e4] at hq
    generalize toB l = t at *
    rcases hq with ⟨h, hq⟩ | ⟨h, hq⟩
    · rw [if_pos h]
      simp only [okV]
      clear h e hl
      go_enter Tryz.func24, Tryz.ntmps24
      go_wp2
      go_ret2
      exact ⟨rfl, Below.refl _ _⟩
    · rw [if_neg h]
      simp only [okV]
      clear h e hl
      go_enter Tryz.func24, Tryz.ntmps24
      go_wp2
      go_ret2
      exact ⟨⟨_, rfl⟩, Below.refl _ _⟩
  · have e : kindV p 2 l = if l = [48] then some 0 else (cutEnd [112, 120] l).bind numL := rfl
    rw [e]
    have hq := lit_eq l [48]
    have e4 : (toB [48]).toList = [48] := by rw [ByteArray.toList_eq]; rfl
    rw [e4] at hq
    have c := readWith_any (toB [112, 120]) (toB l) hs w hT
    rw [toB_list, toB_list, show toB [112, 120] = ⟨#[112, 120]⟩ from rfl] at c
    generalize toB l = t at *
    rcases hq with ⟨h, hq⟩ | ⟨h, hq⟩
    · rw [if_pos h]
      simp only [okV]
      clear h e hl c
      go_enter Tryz.func24, Tryz.ntmps24
      go_wp2
      go_ret2
      exact ⟨rfl, Below.refl _ _⟩
    · rw [if_neg h]
      generalize (cutEnd [112, 120] l).bind numL = r at *
      clear h e hl
      cases r with
      | none =>
        simp only [okV, nmV] at c ⊢
        go_enter Tryz.func24, Tryz.ntmps24
        go_wp2_with (go_at_call 39; (with_reducible refine c.mono ?_); rintro e w1 ⟨rfl, hb⟩)
        go_ret2
        exact ⟨⟨_, rfl⟩, hb⟩
      | some n =>
        simp only [okV, nmV] at c ⊢
        go_enter Tryz.func24, Tryz.ntmps24
        go_wp2_with (go_at_call 39; (with_reducible refine c.mono ?_); rintro e w1 ⟨rfl, hb⟩)
        go_ret2
        exact ⟨rfl, hb⟩
  · have e : kindV p 3 l = (cutEnd [37] l).bind numL := rfl
    rw [e]
    have c := readWith_any (toB [37]) (toB l) hs w hT
    rw [toB_list, toB_list, show toB [37] = ⟨#[37]⟩ from rfl] at c
    generalize toB l = t at *
    generalize (cutEnd [37] l).bind numL = r at *
    clear e hl
    cases r with
    | none =>
      simp only [okV, nmV] at c ⊢
      go_enter Tryz.func24, Tryz.ntmps24
      go_wp2_with (go_at_call 39; (with_reducible refine c.mono ?_); rintro e w1 ⟨rfl, hb⟩)
      go_ret2
      exact ⟨⟨_, rfl⟩, hb⟩
    | some n =>
      simp only [okV, nmV] at c ⊢
      go_enter Tryz.func24, Tryz.ntmps24
      go_wp2_with (go_at_call 39; (with_reducible refine c.mono ?_); rintro e w1 ⟨rfl, hb⟩)
      go_ret2
      exact ⟨rfl, hb⟩
  · have e : kindV p 4 l = Option.map (fun n : Nat => (n : Int)) (colorL l) := rfl
    rw [e]
    have c := readColor_any (toB l) hs hl w hT
    rw [toB_list] at c
    generalize toB l = t at *
    generalize Option.map (fun n : Nat => (n : Int)) (colorL l) = r at *
    clear e hl
    cases r with
    | none =>
      simp only [okV] at c ⊢
      go_enter Tryz.func24, Tryz.ntmps24
      go_wp2_with (go_at_call 40; (with_reducible refine c.mono ?_); rintro e w1 ⟨⟨z, rfl⟩, hb⟩)
      go_ret2
      exact ⟨⟨_, rfl⟩, hb⟩
    | some n =>
      simp only [okV] at c ⊢
      go_enter Tryz.func24, Tryz.ntmps24
      go_wp2_with (go_at_call 40; (with_reducible refine c.mono ?_); rintro e w1 ⟨rfl, hb⟩)
      go_ret2
      exact ⟨rfl, hb⟩
  · have e : kindV p 5 l = Option.map (fun n : Nat => (n : Int)) (idxOf l (wordsP p) 0) := rfl
    rw [e]
    have cs := fun w => sortOf_any p w
    unfold sortCells at cs
    have cw := fun w => allWords_any cWords (toB (nameP p)) (kindsN p) (leastN p) (toB (wordsB p)) (firstP p).1 (firstP p).2 (wordsB_small p) w
    rw [toB_list, words_all p] at cw
    have hw4 := wordsP_few p
    have ci := fun A n cp w hn hr => index_any (wordsP p) A n cp (toB l) w hn hr
    rw [toB_list] at ci
    generalize wordsP p = ws at *
    generalize toB l = t at *
    generalize idxOf l ws 0 = r at *
    generalize toB (nameP p) = a1 at *
    generalize kindsN p = a2 at *
    generalize leastN p = a3 at *
    generalize toB (wordsB p) = a4 at *
    generalize (firstP p).1 = a5 at *
    generalize (firstP p).2 = a6 at *
    clear e hl
    have hn : ∀ {W : World} {A : Option Addr} {n : Nat}, Reads W W.heap.size 1 A n (strs ws) → n ≤ 1000 := fun h => by
      have h := h.1
      rw [show (strs ws).length = ws.length from by unfold strs; simp] at h
      omega
    cases r with
    | none =>
      simp only [Option.map_none, okV]
      simp only [ixV] at ci
      go_enter Tryz.func24, Tryz.ntmps24
      go_wp2_with (first
        | (go_at_call 29; (with_reducible refine (cs _).mono ?_); rintro e w1 ⟨rfl, hb1⟩)
        | (go_at_call 31; (with_reducible refine (cw _).mono ?_); rintro e w2 ⟨A, m, cp, rfl, hr, hb2⟩
           have hB2 := below_next hb1 hb2
           have hm := hn hr)
        | (go_at_call 41; (with_reducible refine (ci _ _ _ _ hm hr).mono ?_); rintro e w3 ⟨rfl, rfl⟩))
      go_ret2
      exact ⟨⟨_, rfl⟩, hB2⟩
    | some i =>
      simp only [Option.map_some, okV]
      simp only [ixV] at ci
      have i0 : (0 : Int) ≤ (i : Int) := Int.natCast_nonneg _
      go_enter Tryz.func24, Tryz.ntmps24
      go_wp2_with (first
        | (go_at_call 29; (with_reducible refine (cs _).mono ?_); rintro e w1 ⟨rfl, hb1⟩)
        | (go_at_call 31; (with_reducible refine (cw _).mono ?_); rintro e w2 ⟨A, m, cp, rfl, hr, hb2⟩
           have hB2 := below_next hb1 hb2
           have hm := hn hr)
        | (go_at_call 41; (with_reducible refine (ci _ _ _ _ hm hr).mono ?_); rintro e w3 ⟨rfl, rfl⟩))
      go_ret2
      exact ⟨rfl, hB2⟩
  · have e : kindV p 6 l = numL l := rfl
    rw [e]
    have c := readNumber_any (toB l) hs w hT
    rw [toB_list] at c
    generalize toB l = t at *
    generalize numL l = r at *
    clear e hl
    cases r with
    | none =>
      simp only [okV, nmV] at c ⊢
      go_enter Tryz.func24, Tryz.ntmps24
      go_wp2_with (go_at_call 42; (with_reducible refine c.mono ?_); rintro e w1 ⟨rfl, hb⟩)
      go_ret2
      exact ⟨⟨_, rfl⟩, hb⟩
    | some n =>
      simp only [okV, nmV] at c ⊢
      go_enter Tryz.func24, Tryz.ntmps24
      go_wp2_with (go_at_call 42; (with_reducible refine c.mono ?_); rintro e w1 ⟨rfl, hb⟩)
      go_ret2
      exact ⟨rfl, hb⟩
end Val
end Go.Proofs.YtfamhjmdffaphaaGreatDoor
