/- What Read answers, of the landed code of package value, from what scan.Trim, scan.Lower, May and read answer. Conditions: that. -/
import Derived.Test.YtdfcahdipalmkaaGreatDoorScanSpec
import Derived.Test.YtdfcahdipalmkaaGreatDoorValC
import Derived.Test.YtdfcahdipalmkaaGreatDoorBlk
import Derived.Lib.SlicesS
import Derived.Test.YtdfcahdipalmkaaGreatDoorValNd
import Derived.Test.YtdfcahdipalmkaaGreatDoorValMayW
import Derived.Test.YtdfcahdipalmkaaGreatDoorValPrintW
/- Where a text stands in a list of texts, as Go's own slices.Index answers it. Conditions: the list is short. -/
namespace Go.Proofs.YtdfcahdipalmkaaGreatDoor
open Go.ChangeShapes Go.WideShapes Go.ChangeAt Go.RowKit
namespace Val
def ixV (r : Option Nat) : Int := match r with
  | some i => i
  | none => -1
theorem text_eq {s : ByteArray} {x : List UInt8} (h : x = s.data.toList) : s = toB x := by
  subst h
  exact bytes_inj rfl
theorem text_ne {s : ByteArray} {x : List UInt8} (h : ¬ x = s.data.toList) : (s.toList == (toB x).toList) = false := by
  refine (Lib.bytes_beq_false_iff _ _).2 ?_
  rintro rfl
  exact h rfl
set_option maxHeartbeats 4000000 in
theorem index_any (ws : List (List UInt8)) (A : Option Addr) (n cp : Nat) (s : ByteArray) (w : World) (hn : n ≤ 1000) (hr : Reads w w.heap.size 1 A n (strs ws)) :
    Calls Tryz.prog 157 #[.slice A n cp, .string s] w fun e w' => e = .returned (.int .i64 (ixV (idxOf s.data.toList ws 0))) ∧ w = w' := by
  have hl : ws.length = n := by have h := hr.1; rw [show (strs ws).length = ws.length from by unfold strs; simp] at h; omega
  obtain ⟨R, hR⟩ : ∃ R, R = idxOf s.data.toList ws 0 := ⟨_, rfl⟩
  rw [← hR]
  go_enter Tryz.func157, Tryz.ntmps157
  go_wp2
  go_loop [5, 8] (fun _ i => ∃ k : Nat, k ≤ n ∧ i = .int .i64 k ∧ Hid (R = idxOf s.data.toList (ws.drop k) k)) (fun _ i => n - (intOf i).toNat)
  case atStart => exact ⟨0, Nat.zero_le _, rfl, Lib.hid hR⟩
  case round =>
    obtain ⟨k, hk, rfl, HR⟩ := hrel
    by_cases hlt : k < n
    · obtain ⟨ad, u, rfl, had, hu, hc⟩ := hr.at_ hlt
      have hkl : k < ws.length := by omega
      obtain ⟨x, hx⟩ : ∃ x, x = ws[k] := ⟨_, rfl⟩
      have hd : ws.drop k = x :: ws.drop (k + 1) := by rw [hx]; exact List.drop_eq_getElem_cons hkl
      obtain rfl : Value.string (toB x) = u := by
        unfold strs at hu
        rw [List.getElem?_map, List.getElem?_eq_getElem hkl, ← hx] at hu
        injection hu
      have kl : (k : Int) < (n : Int) := by omega
      have k0 : (0 : Int) ≤ (k : Int) := by omega
      by_cases he : x = s.data.toList
      · have hs := text_eq he
        have hR1 : R = some k := by
          rw [HR.out, hd, idxOf, if_pos he]
        subst hR1
        have hq : (s.toList == (toB x).toList) = true := (Lib.bytes_beq_iff _ _).2 hs
        clear hR HR hd hx he hu hkl hl hs
        go_wp2
        go_ret
        exact ⟨rfl, rfl⟩
      · have hb := text_ne he
        have hR1 : R = idxOf s.data.toList (ws.drop (k + 1)) (k + 1) := by
          rw [HR.out, hd, idxOf, if_neg he]
        have HR1 := Lib.hid hR1
        clear hR HR hd hx he hu hkl hl hR1
        go_wp2
        go_round
        case rel => exact ⟨k + 1, by omega, by go_num, HR1⟩
        case measure => simp [intOf]; omega
    · obtain rfl : k = n := by omega
      have hR1 : R = none := by
        rw [HR.out, List.drop_of_length_le (by omega), idxOf]
      subst hR1
      clear hR HR hl
      go_wp2
      go_ret
      exact ⟨rfl, rfl⟩
end Val
end Go.Proofs.YtdfcahdipalmkaaGreatDoor
/- What read answers, kind by kind. Conditions: the text isn't too long, and has no capitals; the tables are laid. -/
namespace Go.Proofs.YtdfcahdipalmkaaGreatDoor
open Go.ChangeShapes Go.WideShapes Go.ChangeAt Go.RowKit
namespace Val
theorem words_all (p : Int) : wordsF (wordsB p) = wordsP p := by
  by_cases h : 0 ≤ p ∧ p < 27
  · exact words_eq h.1 h.2
  · have h1 : wordsB p = [] := by unfold wordsB; rw [if_neg (by omega)]
    have h2 : wordsP p = [] := by unfold wordsP; rw [if_neg (by omega), if_neg (by omega), if_neg (by omega), if_neg (by omega)]
    rw [h1, h2]
    decide
theorem wordsP_few (p : Int) : (wordsP p).length ≤ 4 := by
  unfold wordsP
  repeat (split; · decide)
  decide
def kindV (p k : Int) (l : List UInt8) : Option Int := if k = 0 then none else readK p k l
theorem lit_eq (l x : List UInt8) : (∃ _ : l = x, ((toB l).toList == (toB x).toList) = true) ∨ (¬ l = x ∧ ((toB l).toList == (toB x).toList) = false) := by
  by_cases h : l = x
  · exact .inl ⟨h, (Lib.bytes_beq_iff _ _).2 (by rw [h])⟩
  · exact .inr ⟨h, (Lib.bytes_beq_false_iff _ _).2 (fun e => h (by have := congrArg (fun s => s.data.toList) e; exact this))⟩
set_option maxRecDepth 100000 in
set_option maxHeartbeats 8000000 in
theorem read_any (cWords : WordsC) (p k : Int) (hk : 0 ≤ k ∧ k ≤ 6) (s : ByteArray) (hs : s.size ≤ mostB) (hl : lowL s.data.toList = s.data.toList) (w : World) (hT : Tabs w) :
    Calls Tryz.prog 110 #[.int .i64 k, .int .i64 p, .string s] w fun e w' => okV (kindV p k s.data.toList) e ∧ Below w.heap.size w w' := by
  have hk7 : k = 0 ∨ k = 1 ∨ k = 2 ∨ k = 3 ∨ k = 4 ∨ k = 5 ∨ k = 6 := by omega
  clear hk
  obtain ⟨l, hsl⟩ : ∃ l, l = s.data.toList := ⟨_, rfl⟩
  obtain rfl : s = toB l := text_eq hsl
  rw [toB_list] at hl ⊢
  clear hsl
  rcases hk7 with rfl | rfl | rfl | rfl | rfl | rfl | rfl
  · have e : kindV p 0 l = none := rfl
    rw [e]
    simp only [okV]
    go_enter Tryz.func110, Tryz.ntmps110
    go_wp2
    go_ret2
    exact ⟨⟨_, rfl⟩, Below.refl _ _⟩
  · have e : kindV p 1 l = if l = [97, 117, 116, 111] then some 0 else none := rfl
    rw [e]
    have hq := lit_eq l [97, 117, 116, 111]
    have e4 : (toB [97, 117, 116, 111]).toList = [97, 117, 116, 111] := by rw [ByteArray.toList_eq]; rfl
    rw [e4] at hq
    generalize toB l = t at *
    rcases hq with ⟨h, hq⟩ | ⟨h, hq⟩
    · rw [if_pos h]
      simp only [okV]
      clear h e hl
      go_enter Tryz.func110, Tryz.ntmps110
      go_wp2
      go_ret2
      exact ⟨rfl, Below.refl _ _⟩
    · rw [if_neg h]
      simp only [okV]
      clear h e hl
      go_enter Tryz.func110, Tryz.ntmps110
      go_wp2
      go_ret2
      exact ⟨⟨_, rfl⟩, Below.refl _ _⟩
  · have e : kindV p 2 l = if l = [48] then some 0 else (cutEnd [112, 120] l).bind numL := rfl
    rw [e]
    have hq := lit_eq l [48]
    have e4 : (toB [48]).toList = [48] := by rw [ByteArray.toList_eq]; rfl
    rw [e4] at hq
    have c := readWith_any (toB [112, 120]) (toB l) hs w hT
    rw [toB_list, toB_list, show toB [112, 120] = ⟨#[112, 120]⟩ from rfl] at c
    generalize toB l = t at *
    rcases hq with ⟨h, hq⟩ | ⟨h, hq⟩
    · rw [if_pos h]
      simp only [okV]
      clear h e hl c
      go_enter Tryz.func110, Tryz.ntmps110
      go_wp2
      go_ret2
      exact ⟨rfl, Below.refl _ _⟩
    · rw [if_neg h]
      generalize (cutEnd [112, 120] l).bind numL = r at *
      clear h e hl
      cases r with
      | none =>
        simp only [okV, nmV] at c ⊢
        go_enter Tryz.func110, Tryz.ntmps110
        go_wp2_with (go_at_call 155; (with_reducible refine c.mono ?_); rintro e w1 ⟨rfl, hb⟩)
        go_ret2
        exact ⟨⟨_, rfl⟩, hb⟩
      | some n =>
        simp only [okV, nmV] at c ⊢
        go_enter Tryz.func110, Tryz.ntmps110
        go_wp2_with (go_at_call 155; (with_reducible refine c.mono ?_); rintro e w1 ⟨rfl, hb⟩)
        go_ret2
        exact ⟨rfl, hb⟩
  · have e : kindV p 3 l = (cutEnd [37] l).bind numL := rfl
    rw [e]
    have c := readWith_any (toB [37]) (toB l) hs w hT
    rw [toB_list, toB_list, show toB [37] = ⟨#[37]⟩ from rfl] at c
    generalize toB l = t at *
    generalize (cutEnd [37] l).bind numL = r at *
    clear e hl
    cases r with
    | none =>
      simp only [okV, nmV] at c ⊢
      go_enter Tryz.func110, Tryz.ntmps110
      go_wp2_with (go_at_call 155; (with_reducible refine c.mono ?_); rintro e w1 ⟨rfl, hb⟩)
      go_ret2
      exact ⟨⟨_, rfl⟩, hb⟩
    | some n =>
      simp only [okV, nmV] at c ⊢
      go_enter Tryz.func110, Tryz.ntmps110
      go_wp2_with (go_at_call 155; (with_reducible refine c.mono ?_); rintro e w1 ⟨rfl, hb⟩)
      go_ret2
      exact ⟨rfl, hb⟩
  · have e : kindV p 4 l = Option.map (fun n : Nat => (n : Int)) (colorL l) := rfl
    rw [e]
    have c := readColor_any (toB l) hs hl w hT
    rw [toB_list] at c
    generalize toB l = t at *
    generalize Option.map (fun n : Nat => (n : Int)) (colorL l) = r at *
    clear e hl
    cases r with
    | none =>
      simp only [okV] at c ⊢
      go_enter Tryz.func110, Tryz.ntmps110
      go_wp2_with (go_at_call 156; (with_reducible refine c.mono ?_); rintro e w1 ⟨⟨z, rfl⟩, hb⟩)
      go_ret2
      exact ⟨⟨_, rfl⟩, hb⟩
    | some n =>
      simp only [okV] at c ⊢
      go_enter Tryz.func110, Tryz.ntmps110
      go_wp2_with (go_at_call 156; (with_reducible refine c.mono ?_); rintro e w1 ⟨rfl, hb⟩)
      go_ret2
      exact ⟨rfl, hb⟩
  · have e : kindV p 5 l = Option.map (fun n : Nat => (n : Int)) (idxOf l (wordsP p) 0) := rfl
    rw [e]
    have cs := fun w => sortOf_any p w
    unfold sortCells at cs
    have cw := fun w => allWords_any cWords (toB (nameP p)) (kindsN p) (leastN p) (toB (wordsB p)) (firstP p).1 (firstP p).2 (wordsB_small p) w
    rw [toB_list, words_all p] at cw
    have hw4 := wordsP_few p
    have ci := fun A n cp w hn hr => index_any (wordsP p) A n cp (toB l) w hn hr
    rw [toB_list] at ci
    generalize wordsP p = ws at *
    generalize toB l = t at *
    generalize idxOf l ws 0 = r at *
    generalize toB (nameP p) = a1 at *
    generalize kindsN p = a2 at *
    generalize leastN p = a3 at *
    generalize toB (wordsB p) = a4 at *
    generalize (firstP p).1 = a5 at *
    generalize (firstP p).2 = a6 at *
    clear e hl
    have hn : ∀ {W : World} {A : Option Addr} {n : Nat}, Reads W W.heap.size 1 A n (strs ws) → n ≤ 1000 := fun h => by
      have h := h.1
      rw [show (strs ws).length = ws.length from by unfold strs; simp] at h
      omega
    cases r with
    | none =>
      simp only [Option.map_none, okV]
      simp only [ixV] at ci
      go_enter Tryz.func110, Tryz.ntmps110
      go_wp2_with (first
        | (go_at_call 117; (with_reducible refine (cs _).mono ?_); rintro e w1 ⟨rfl, hb1⟩)
        | (go_at_call 119; (with_reducible refine (cw _).mono ?_); rintro e w2 ⟨A, m, cp, rfl, hr, hb2⟩
           have hB2 := below_next hb1 hb2
           have hm := hn hr)
        | (go_at_call 157; (with_reducible refine (ci _ _ _ _ hm hr).mono ?_); rintro e w3 ⟨rfl, rfl⟩))
      go_ret2
      exact ⟨⟨_, rfl⟩, hB2⟩
    | some i =>
      simp only [Option.map_some, okV]
      simp only [ixV] at ci
      have i0 : (0 : Int) ≤ (i : Int) := Int.natCast_nonneg _
      go_enter Tryz.func110, Tryz.ntmps110
      go_wp2_with (first
        | (go_at_call 117; (with_reducible refine (cs _).mono ?_); rintro e w1 ⟨rfl, hb1⟩)
        | (go_at_call 119; (with_reducible refine (cw _).mono ?_); rintro e w2 ⟨A, m, cp, rfl, hr, hb2⟩
           have hB2 := below_next hb1 hb2
           have hm := hn hr)
        | (go_at_call 157; (with_reducible refine (ci _ _ _ _ hm hr).mono ?_); rintro e w3 ⟨rfl, rfl⟩))
      go_ret2
      exact ⟨rfl, hB2⟩
  · have e : kindV p 6 l = numL l := rfl
    rw [e]
    have c := readNumber_any (toB l) hs w hT
    rw [toB_list] at c
    generalize toB l = t at *
    generalize numL l = r at *
    clear e hl
    cases r with
    | none =>
      simp only [okV, nmV] at c ⊢
      go_enter Tryz.func110, Tryz.ntmps110
      go_wp2_with (go_at_call 158; (with_reducible refine c.mono ?_); rintro e w1 ⟨rfl, hb⟩)
      go_ret2
      exact ⟨⟨_, rfl⟩, hb⟩
    | some n =>
      simp only [okV, nmV] at c ⊢
      go_enter Tryz.func110, Tryz.ntmps110
      go_wp2_with (go_at_call 158; (with_reducible refine c.mono ?_); rintro e w1 ⟨rfl, hb⟩)
      go_ret2
      exact ⟨rfl, hb⟩
end Val
end Go.Proofs.YtdfcahdipalmkaaGreatDoor
namespace Go.Proofs.YtdfcahdipalmkaaGreatDoor
open Go.ChangeShapes Go.WideShapes Go.ChangeAt Go.RowKit
namespace Val
def kindP (p k : Int) (l : List UInt8) : Option (Int × Int) := match kindV p k l with
  | some n => if mayP p k n then some (k, n) else none
  | none => none
theorem kind_one {p k : Int} (l : List UInt8) (hk : k ≠ 0) : kindP p k l = oneP p k l := by
  unfold kindP kindV oneP
  rw [if_neg hk]
  cases readK p k l <;> rfl
theorem readP_eq (p : Int) (l : List UInt8) : readP p l = (List.range 7).findSome? (fun j : Nat => kindP p (j : Int) l) := by
  refine Eq.symm ?_
  have e : (List.range 7).findSome? (fun j : Nat => kindP p (j : Int) l) = ([0, 1, 2, 3, 4, 5, 6] : List Nat).findSome? (fun j : Nat => kindP p (j : Int) l) := rfl
  have h0 : kindP p ((0 : Nat) : Int) l = none := rfl
  rw [e]
  unfold readP
  rw [List.findSome?_cons, h0]
  simp only [List.findSome?_cons, List.findSome?_nil]
  rw [kind_one l (by decide), kind_one l (by decide), kind_one l (by decide), kind_one l (by decide), kind_one l (by decide), kind_one l (by decide)]
  rfl
theorem find_at {α : Type} {f : Nat → Option α} {k : Nat} {x : α} : ∀ {n : Nat}, k < n → (∀ j, j < k → f j = none) → f k = some x → (List.range n).findSome? f = some x := by
  intro n
  induction n with
  | zero => intro h; omega
  | succ n ih =>
    intro hk h hx
    rw [List.range_succ, List.findSome?_append]
    by_cases hn : k < n
    · rw [ih hn h hx]; rfl
    · obtain rfl : k = n := by omega
      have h1 : (List.range k).findSome? f = none := by
        rw [List.findSome?_eq_none_iff]
        intro a ha
        exact h a (List.mem_range.1 ha)
      rw [h1, List.findSome?_cons, hx]
      rfl
theorem find_no {α : Type} {f : Nat → Option α} {n : Nat} (h : ∀ j, j < n → f j = none) : (List.range n).findSome? f = none := by
  rw [List.findSome?_eq_none_iff]
  intro a ha
  exact h a (List.mem_range.1 ha)
theorem fz2 {w : World} {g : Nat} {t : TypeId} {cs : Array Value} (h : Blk w g t cs) : w.frozen? ⟨g, 0, none⟩ = false ∧ w.frozen? ⟨g, 1, none⟩ = false := ⟨h.frozen 0, h.frozen 1⟩
set_option maxRecDepth 100000 in
set_option maxHeartbeats 16000000 in
theorem read_of (cTrim : TrimC) (cLower : LowerC) (cWords : WordsC) (cMay : MayC) : ReadC := by
  intro p s w hs hT
  have c1 := fun w => cTrim s w hs
  have hs2 : (onB trimL s).size ≤ mostB := by
    have := trim_len s.data.toList
    rw [← Lib.size_eq] at this
    have e : (onB trimL s).size = (trimL s.data.toList).length := by show (toB (trimL s.data.toList)).size = _; rw [toB_size]
    omega
  have c2 := fun w => cLower (onB trimL s) w hs2
  have e2 : onB lowL (onB trimL s) = toB (lowL (trimL s.data.toList)) := rfl
  rw [e2] at c2
  have hs3 : (toB (lowL (trimL s.data.toList))).size ≤ mostB := by
    rw [toB_size, low_len]
    have e : (onB trimL s).size = (trimL s.data.toList).length := by show (toB (trimL s.data.toList)).size = _; rw [toB_size]
    omega
  obtain ⟨l, hl⟩ : ∃ l, l = lowL (trimL s.data.toList) := ⟨_, rfl⟩
  have hll : lowL l = l := by rw [hl, low_low]
  obtain ⟨R, hR⟩ : ∃ R, R = readF p s.data.toList := ⟨_, rfl⟩
  have hR2 : R = readP p l := by rw [hR, hl]; rfl
  rw [← hR]
  rw [readP_eq] at hR2
  rw [← hl] at c2 hs3
  clear e2 hs2 hR hl
  have c3 := fun (k : Nat) (hk : k < 7) w hT => read_any cWords p k ⟨by omega, by omega⟩ (toB l) hs3 hll w hT
  rw [toB_list] at c3
  generalize onB trimL s = t1 at *
  generalize toB l = t2 at *
  have HR := Lib.hid hR2
  clear hR2 hll hs3
  obtain ⟨f, hf⟩ : ∃ f : Nat → Option (Int × Int), f = fun j : Nat => kindP p (j : Int) l := ⟨_, rfl⟩
  have hR3 : R = (List.range 7).findSome? f := by rw [hf]; exact HR.out
  have HF := Lib.hid hR3
  clear HR hR3
  have Kr := Blk.new w 52 #[.int .i64 0, .int .i64 0]
  have hB := below_al (Below.refl w.heap.size w) (.cells #[.int .i64 0, .int .i64 0] 52)
  unfold vV at *
  go_enter Tryz.func66, Tryz.ntmps66
  go_wp2_with (first
    | (go_at_call 59; (with_reducible refine (c1 _).mono ?_); rintro e w1 ⟨rfl, hb1⟩
       have hB1 := below_next hB hb1
       have K1 := Kr.next hb1)
    | (go_at_call 60; (with_reducible refine (c2 _).mono ?_); rintro e w2 ⟨rfl, hb2⟩
       have hB2 := below_next hB1 hb2
       have K2 := K1.next hb2))
  clear Kr hB hB1 K1 hb1 hb2
  go_loopw [7, 8, 9, 10, 14] (fun _ _ _ _ i wr => ∃ k : Nat, k ≤ 7 ∧ i = .int .i64 k ∧ Hid (∀ j : Nat, j < k → f j = none) ∧ Below w.heap.size w wr ∧ Blk wr w.heap.size 52 #[.int .i64 0, .int .i64 0]) (fun _ _ _ _ i _ => 7 - (intOf i).toNat)
  case atStart => exact ⟨0, Nat.zero_le _, rfl, fun j h => absurd h (by omega), hB2, K2⟩
  case round =>
    obtain ⟨k, hk, rfl, HK, hBr, Kr⟩ := hrel
    clear hB2 K2
    by_cases hlt : k < 7
    · have kl : (k : Int) < 7 := by omega
      have k0 : (0 : Int) ≤ (k : Int) := Int.natCast_nonneg _
      have c := fun w hT => c3 k hlt w hT
      have hfk : f k = kindP p (k : Int) l := by rw [hf]
      unfold kindP at hfk
      cases hv : kindV p (k : Int) l with
      | none =>
        rw [hv] at c hfk
        simp only at hfk
        simp only [okV] at c
        have HK' : Hid (∀ j : Nat, j < k + 1 → f j = none) := by
          intro j hj
          by_cases e : j = k
          · subst e; exact hfk
          · exact HK.out j (by omega)
        clear hfk HK hv c3 hf
        go_wp2_with (first
          | (go_at_call 110; (with_reducible refine (c _ (hT.at_ hBr)).mono ?_); rintro e w3 ⟨⟨z, rfl⟩, hb3⟩
             have hB3 := below_next hBr hb3
             have K3 := Kr.next hb3))
        go_roundw
        case rel => exact ⟨k + 1, by omega, by go_num, HK', below_al hB3 _, K3.alloc _⟩
        case measure => simp [intOf]; omega
      | some n =>
        rw [hv] at c hfk
        simp only [okV] at c
        simp only at hfk
        have c4 := fun w => cMay p (k : Int) n w
        unfold vV at c4
        cases hm : mayP p (k : Int) n with
        | false =>
          rw [hm] at c4 hfk
          rw [if_neg (by decide)] at hfk
          have HK' : Hid (∀ j : Nat, j < k + 1 → f j = none) := by
            intro j hj
            by_cases e : j = k
            · subst e; exact hfk
            · exact HK.out j (by omega)
          clear hfk HK hv c3 hf hm
          go_wp2_with (first
            | (go_at_call 110; (with_reducible refine (c _ (hT.at_ hBr)).mono ?_); rintro e w3 ⟨rfl, hb3⟩
               have hB3 := below_next hBr hb3
               have K3 := Kr.next hb3)
            | (go_at_call 79; (with_reducible refine (c4 _).mono ?_); rintro e w4 ⟨rfl, hb4⟩
               have hB4 := below_next (below_al hB3 _) hb4
               have K4 := (K3.alloc _).next hb4))
          go_roundw
          case rel => exact ⟨k + 1, by omega, by go_num, HK', hB4, K4⟩
          case measure => simp [intOf]; omega
        | true =>
          rw [hm] at c4 hfk
          rw [if_pos rfl] at hfk
          obtain rfl : R = some ((k : Int), n) := by rw [HF.out]; exact find_at hlt HK.out hfk
          clear hfk HK hv c3 hf hm HF
          go_wp2_with (first
            | (go_at_call 110; (with_reducible refine (c _ (hT.at_ hBr)).mono ?_); rintro e w3 ⟨rfl, hb3⟩
               have hB3 := below_next hBr hb3
               have K3 := Kr.next hb3)
            | (go_at_call 79; (with_reducible refine (c4 _).mono ?_); rintro e w4 ⟨rfl, hb4⟩
               have hB4 := below_next (below_al hB3 _) hb4
               have K4 := (K3.alloc _).next hb4
               have Kv := (Blk.new w3 52 #[.int .i64 (k : Int), .int .i64 n]).next hb4
               obtain ⟨cv0, cv1⟩ := blk2 Kv
               obtain ⟨cr0, cr1⟩ := blk2 K4
               obtain ⟨f0, f1⟩ := fz2 K4))
          exact bodyPost_ret (v := .tuple #[.agg #[.int .i64 (k : Int), .int .i64 n], .bool true]) (by simp [results, Tryz.results66, go_sem, cr0, cr1]) rfl ⟨rfl, below_set (below_set hB4 (Nat.le_refl _) _) (Nat.le_refl _) _⟩
    · obtain rfl : k = 7 := by omega
      obtain rfl : R = none := by rw [HF.out]; exact find_no HK.out
      obtain ⟨cr0, cr1⟩ := blk2 Kr
      obtain ⟨f0, f1⟩ := fz2 Kr
      clear HK HF c3 hf
      go_wp2
      exact bodyPost_ret (v := .tuple #[.agg #[.int .i64 0, .int .i64 0], .bool false]) (by simp [results, Tryz.results66, go_sem, cr0, cr1]) rfl ⟨rfl, below_set (below_set hBr (Nat.le_refl _) _) (Nat.le_refl _) _⟩
end Val
end Go.Proofs.YtdfcahdipalmkaaGreatDoor
