/- What is printed of rules is read as what they were, ahead of any text; what is no declaration changes nothing. Conditions: none. -/
import Derived.Test.YtdfcahdipalmkaaGreatDoorSelMath2
import Derived.Test.YtdfcahdipalmkaaGreatDoorValC
import Derived.Test.YtdfcahdipalmkaaGreatDoorScanSpec
import Derived.Test.YtdfcahdipalmkaaGreatDoorScanBMath
/- What package sheet reads and prints, over lists of bytes. Conditions: none. -/
namespace Go.Proofs.YtdfcahdipalmkaaGreatDoor
namespace Sht
/-- A declaration. -/
structure Dcl where
  p : Int
  k : Int
  n : Int
  s : Bool
deriving DecidableEq
/-- A rule. -/
structure Rul where
  sels : List Sel.Slr
  decls : List Dcl
deriving DecidableEq
def strongT : List UInt8 := [33, 105, 109, 112, 111, 114, 116, 97, 110, 116]
def marginT : List UInt8 := [109, 97, 114, 103, 105, 110]
def paddingT : List UInt8 := [112, 97, 100, 100, 105, 110, 103]
def borderT : List UInt8 := [98, 111, 114, 100, 101, 114, 45, 119, 105, 100, 116, 104]
/-- The first of the four properties of a short name; 0 where it is none. -/
def shortL (l : List UInt8) : Int := if l = marginT then 4 else if l = paddingT then 8 else if l = borderT then 12 else 0
def strongL (l : List UInt8) : List UInt8 × Bool := match cutEnd strongT l with
  | some r => (r, true)
  | none => (l, false)
/-- Which of n values a side has. -/
def whichL (n k : Nat) : Nat := if n = 1 then 0 else if n = 2 then k % 2 else if n = 3 then (if k = 3 then 1 else k) else k
/-- The first k sides. -/
def sideGo (p : Int) (ws : List (List UInt8)) (s : Bool) : Nat → Option (List Dcl)
  | 0 => some []
  | k + 1 => match sideGo p ws s k with
    | none => none
    | some l => match readF (p + k) (ws.getD (whichL ws.length k) []) with
      | none => none
      | some v => some (l ++ [⟨p + k, v.1, v.2, s⟩])
def sidesF (p : Int) (ws : List (List UInt8)) (s : Bool) : List Dcl :=
  if 1 ≤ ws.length ∧ ws.length ≤ 4 then (sideGo p ws s 4).getD [] else []
/-- The declarations of one part: what stands ahead of the first colon, and what behind it. -/
def textD (name text : List UInt8) : List Dcl :=
  if shortL name = 0 then
    match readF (propP name) (strongL text).1 with
    | none => []
    | some v => [⟨propP name, v.1, v.2, (strongL text).2⟩]
  else sidesF (shortL name) (wordsF (strongL text).1) (strongL text).2
def declF (l : List UInt8) : List Dcl :=
  if (Lib.cut l [58]).2.2 then textD (lowL (trimL (Lib.cut l [58]).1)) (lowL (trimL (Lib.cut l [58]).2.1)) else []
def declsF (l : List UInt8) : List Dcl := (splitF 59 l).flatMap declF
theorem sideGo_none {p : Int} {ws : List (List UInt8)} {s : Bool} {k : Nat} (h : sideGo p ws s k = none) : ∀ m : Nat, sideGo p ws s (k + m) = none
  | 0 => h
  | m + 1 => by
    have := sideGo_none h m
    show sideGo p ws s ((k + m) + 1) = none
    rw [sideGo, this]
theorem sideGo_len {p : Int} {ws : List (List UInt8)} {s : Bool} : ∀ {k : Nat} {l : List Dcl}, sideGo p ws s k = some l → l.length = k
  | 0, l, h => by cases h; rfl
  | k + 1, l, h => by
    rw [sideGo] at h
    cases hq : sideGo p ws s k with
    | none => rw [hq] at h; cases h
    | some l' =>
      rw [hq] at h
      simp only at h
      cases hr : readF (p + k) (ws.getD (whichL ws.length k) []) with
      | none => rw [hr] at h; cases h
      | some v =>
        rw [hr] at h
        injection h with h
        rw [← h, List.length_append, sideGo_len hq]
        rfl
theorem which_lt {n k : Nat} (h1 : 1 ≤ n) (h2 : n ≤ 4) (hk : k < 4) : whichL n k < n := by
  unfold whichL
  repeat' split
  all_goals omega
theorem short_cases (l : List UInt8) : shortL l = 0 ∨ shortL l = 4 ∨ shortL l = 8 ∨ shortL l = 12 := by
  unfold shortL
  repeat' split
  all_goals omega
/-! ### rules -/
def ruleF (b : List UInt8 × List UInt8) : Option Rul := match Sel.listP.go (splitF 44 b.1) with
  | none => none
  | some x => some ⟨x, declsF b.2⟩
def rulesF (l : List UInt8) : List Rul := (blocksF (stripL l)).filterMap ruleF
def readS (l : List UInt8) : Option (List Rul) := if l.length ≤ 4000 ∧ (rulesF l).length ≤ 40 then some (rulesF l) else none
def mayD (d : Dcl) : Bool := mayP d.p d.k d.n
def mayR (r : Rul) : Bool := decide (1 ≤ r.sels.length) && decide (r.sels.length ≤ 20) && decide (r.decls.length ≤ 60) && r.sels.all Sel.maySlr && r.decls.all mayD
def mayS (l : List Rul) : Bool := decide (l.length ≤ 40) && l.all mayR
def printD (d : Dcl) : List UInt8 := nameP d.p ++ (58 :: 32 :: printP d.p d.k d.n) ++ (if d.s then 32 :: strongT else [])
def headsL (xs : List Sel.Slr) : List UInt8 := Sel.joinT (xs.map Sel.printP)
def bodyL (ds : List Dcl) : List UInt8 := (ds.map fun d => 32 :: (printD d ++ [59])).flatten
def printR (r : Rul) : List UInt8 := headsL r.sels ++ [32, 123] ++ bodyL r.decls ++ [32, 125, 10]
def printS (l : List Rul) : List UInt8 := if mayS l then (l.map printR).flatten else []
end Sht
end Go.Proofs.YtdfcahdipalmkaaGreatDoor
namespace Go.Proofs.YtdfcahdipalmkaaGreatDoor
namespace Sht
open Sel
/-! ### parts -/
theorem parts_ne (p : UInt8 → Bool) : ∀ l : List UInt8, partsAt p l ≠ []
  | [] => by simp [partsAt]
  | c :: t => by
    rw [partsAt]
    split
    · simp
    · split <;> simp
theorem parts_app (p : UInt8 → Bool) (c : UInt8) (t : List UInt8) (hc : p c = true) : ∀ a : List UInt8, partsAt p (a ++ c :: t) = partsAt p a ++ partsAt p t
  | [] => by
    show partsAt p (c :: t) = [] :: partsAt p t
    rw [partsAt, if_pos hc]
  | x :: a => by
    show partsAt p (x :: (a ++ c :: t)) = _
    rw [partsAt, partsAt]
    by_cases hx : p x = true
    · rw [if_pos hx, if_pos hx, parts_app p c t hc a]
      rfl
    · rw [if_neg hx, if_neg hx, parts_app p c t hc a]
      cases hq : partsAt p a with
      | nil => exact absurd hq (parts_ne p a)
      | cons h r => rfl
theorem split_app (sep : UInt8) (a t : List UInt8) : splitF sep (a ++ sep :: t) = splitF sep a ++ splitF sep t := by
  unfold splitF
  rw [parts_app _ _ _ (by simp), List.map_append]
/-- Declarations of two texts, with a semicolon between. -/
theorem decls_app (a t : List UInt8) : declsF (a ++ 59 :: t) = declsF a ++ declsF t := by
  unfold declsF
  rw [split_app, List.flatMap_append]
theorem cut_at {c : UInt8} (t : List UInt8) : ∀ h : List UInt8, (∀ x ∈ h, ¬ c = x) → Lib.cut (h ++ c :: t) [c] = (h, t, true)
  | [], _ => by
    show Lib.cut (c :: t) [c] = _
    rw [cut_cons, if_pos (by simp [List.isPrefixOf])]
    rfl
  | x :: h, hh => by
    show Lib.cut (x :: (h ++ c :: t)) [c] = _
    rw [cut_cons, if_neg (by simpa [List.isPrefixOf] using hh x List.mem_cons_self), cut_at t h (fun y hy => hh y (List.mem_cons_of_mem _ hy))]
    rfl
theorem decl_nil : declF [] = [] := by decide +kernel
theorem decls_nil : declsF [] = [] := by decide +kernel
/-! ### what stands in texts -/
/-- None of what parts texts of rules. -/
def gdC (c : UInt8) : Bool := !(c == 33) && !(c == 47) && !(c == 59) && !(c == 123) && !(c == 125)
theorem gd_isM {c : UInt8} (h : Tok.isM c = true) : gdC c = true := by
  revert h
  revert c
  have key : ∀ k : Fin 256, Tok.isM (UInt8.ofNat k.val) = true → gdC (UInt8.ofNat k.val) = true := by decide +kernel
  intro c
  have := key ⟨c.toNat, c.toNat_lt⟩
  simpa using this
theorem gd_dg {c : UInt8} (h : isDg c = true) : gdC c = true := by
  revert h
  revert c
  have key : ∀ k : Fin 256, isDg (UInt8.ofNat k.val) = true → gdC (UInt8.ofNat k.val) = true := by decide +kernel
  intro c
  have := key ⟨c.toNat, c.toNat_lt⟩
  simpa using this
theorem gd_lit {c : UInt8} (l : List UInt8) (hl : l.all gdC = true) (hm : c ∈ l) : gdC c = true := List.all_eq_true.1 hl c hm
theorem gd_name {n : List UInt8} (h : Tok.nameB n = true) : ∀ c ∈ n, gdC c = true := fun c hc => gd_isM ((name_chars h).2 c hc).1
theorem gd_piece {p : Sim} (h : maySim p = true) : ∀ x ∈ ownL p, ∀ c ∈ x, gdC c = true := by
  obtain ⟨-, h1, h2, -⟩ := maySim_of h
  rw [List.all_eq_true] at h1 h2
  intro x hx c hc
  unfold ownL at hx
  rcases List.mem_append.1 hx with hx | hx
  · obtain ⟨n, hn, rfl⟩ := List.mem_map.1 hx
    rcases List.mem_cons.1 hc with rfl | hc
    · decide
    · exact gd_name (h1 n hn) c hc
  · rcases List.mem_append.1 hx with hx | hx
    · obtain ⟨n, hn, rfl⟩ := List.mem_map.1 hx
      rcases List.mem_cons.1 hc with rfl | hc
      · decide
      · exact gd_name (h2 n hn) c hc
    · rcases List.mem_append.1 hx with hx | hx
      · split at hx
        · rw [List.mem_singleton] at hx
          subst hx
          exact gd_lit linkT (by decide +kernel) hc
        · cases hx
      · split at hx
        · rw [List.mem_singleton] at hx
          subst hx
          exact gd_lit visT (by decide +kernel) hc
        · cases hx
theorem gd_sim {p : Sim} (h : maySim p = true) : ∀ c ∈ Sel.printS p, gdC c = true := by
  unfold Sel.printS
  split
  · exact fun c hc => gd_lit [42] (by decide) hc
  · intro c hc
    unfold raw at hc
    rcases List.mem_append.1 hc with hc | hc
    · rcases (maySim_of h).1 with e | e
      · rw [e] at hc; cases hc
      · exact gd_name e c hc
    · obtain ⟨x, hx, hc⟩ := List.mem_flatten.1 hc
      exact gd_piece h x hx c hc
theorem gd_textL : ∀ (ps : List Sim) (cs : List Bool), ps.all maySim = true → ∀ c ∈ textL ps cs, gdC c = true := by
  have hs : ∀ b, ∀ c ∈ sep b, gdC c = true := fun b => by cases b <;> decide +kernel
  intro ps
  induction ps with
  | nil => intro cs _ c hc; cases hc
  | cons p ps ih =>
    intro cs h c hc
    rw [List.all_cons, Bool.and_eq_true] at h
    rw [text_cons] at hc
    rcases List.mem_append.1 hc with hc | hc
    · exact gd_sim h.1 c hc
    · cases ps with
      | nil => unfold joinL at hc; cases hc
      | cons q ps =>
        cases cs with
        | nil => unfold joinL at hc; cases hc
        | cons b cs =>
          rw [join_cons] at hc
          rcases List.mem_append.1 hc with hc | hc
          · exact hs b c hc
          · exact ih cs h.2 c hc
theorem gd_slr (x : Slr) : ∀ c ∈ Sel.printP x, gdC c = true := by
  intro c hc
  unfold Sel.printP at hc
  split at hc
  · rename_i h
    exact gd_textL _ _ (maySlr_of h).2.2.2 c hc
  · cases hc
theorem gd_join : ∀ xs : List (List UInt8), (∀ x ∈ xs, ∀ c ∈ x, gdC c = true) → ∀ c ∈ joinT xs, gdC c = true
  | [], _, c, hc => by cases hc
  | [x], h, c, hc => by rw [joinT_one] at hc; exact h x List.mem_cons_self c hc
  | x :: y :: ys, h, c, hc => by
    rw [joinT_two] at hc
    rcases List.mem_append.1 hc with hc | hc
    · exact h x List.mem_cons_self c hc
    · rcases List.mem_cons.1 hc with rfl | hc
      · decide
      · rcases List.mem_cons.1 hc with rfl | hc
        · decide
        · exact gd_join (y :: ys) (fun z hz => h z (List.mem_cons_of_mem _ hz)) c hc
theorem gd_heads (xs : List Slr) : ∀ c ∈ headsL xs, gdC c = true := gd_join _ fun x hx c hc => by
  obtain ⟨y, -, rfl⟩ := List.mem_map.1 hx
  exact gd_slr y c hc
theorem gd_fracs : ∀ r : Fin 64, (fracs r.val).all gdC = true := by decide +kernel
theorem gd_decU (n : Nat) : ∀ c ∈ decU n, gdC c = true := by
  intro c hc
  unfold decU at hc
  rcases List.mem_append.1 hc with h | h
  · exact gd_dg (List.all_eq_true.1 (dec_all _) c h)
  · exact List.all_eq_true.1 (gd_fracs ⟨n % 64, Nat.mod_lt _ (by omega)⟩) c h
theorem gd_decL (n : Int) : ∀ c ∈ decL n, gdC c = true := by
  intro c hc
  unfold decL at hc
  split at hc
  · rcases List.mem_cons.1 hc with h | h
    · subst h; decide
    · exact gd_decU _ c h
  · exact gd_decU _ c hc
theorem gd_hexC : ∀ d : Fin 16, gdC (hexC d.val) = true := by decide
theorem gd_words : ∀ p : Fin 27, ∀ i : Fin 5, ((wordsP p.val).getD i.val []).all gdC = true := by decide
theorem gd_text {p k n : Int} (h : mayP p k n = true) : ∀ c ∈ textP p k n, gdC c = true := by
  have hh : hasP p k = true := by unfold mayP at h; rw [Bool.and_eq_true] at h; exact h.1
  obtain ⟨q, hq⟩ := nat_of hh
  intro c hc
  rcases kind_has hh with rfl | rfl | rfl | rfl | rfl | rfl
  · exact gd_lit [97, 117, 116, 111] (by decide) hc
  · rcases List.mem_append.1 (show c ∈ decL n ++ [112, 120] from hc) with h1 | h1
    · exact gd_decL n c h1
    · exact gd_lit [112, 120] (by decide) h1
  · rcases List.mem_append.1 (show c ∈ decL n ++ [37] from hc) with h1 | h1
    · exact gd_decL n c h1
    · exact gd_lit [37] (by decide) h1
  · rcases List.mem_cons.1 (show c ∈ 35 :: hex6 n.toNat from hc) with h1 | h1
    · subst h1; decide
    · unfold hex6 at h1
      obtain ⟨i, _, rfl⟩ := List.mem_map.1 h1
      exact gd_hexC ⟨_, Nat.mod_lt _ (by omega)⟩
  · have hn : 0 ≤ n ∧ n < (wordsP p).length := by unfold mayP at h; rw [Bool.and_eq_true] at h; exact of_decide_eq_true h.2
    have hl : (wordsP p).length ≤ 4 := by
      have : ∀ q : Fin 27, (wordsP q.val).length ≤ 4 := by decide
      rw [hq]; exact this q
    have := gd_words q ⟨n.toNat, by omega⟩
    rw [← hq] at this
    exact gd_lit _ this hc
  · exact gd_decL n c hc
theorem gd_printP (p k n : Int) : ∀ c ∈ printP p k n, gdC c = true := by
  intro c hc
  unfold printP at hc
  split at hc
  · rename_i h
    exact gd_text h c hc
  · cases hc
/-- A property's name: small letters, no colon, no short name. -/
theorem name_fin : ∀ p : Fin 27, (nameP p.val).all (fun c => gdC c && plainC c && !(c == 58)) = true ∧ shortL (nameP p.val) = 0 := by decide +kernel
theorem name_nat {p : Int} (h1 : 1 ≤ p) (h2 : p ≤ 26) : (nameP p).all (fun c => gdC c && plainC c && !(c == 58)) = true ∧ shortL (nameP p) = 0 := by
  have := name_fin ⟨p.toNat, by omega⟩
  rw [show ((p.toNat : Nat) : Int) = p by omega] at this
  exact this
theorem name_gd (p : Int) : ∀ c ∈ nameP p, gdC c = true := by
  intro c hc
  by_cases hp : 1 ≤ p ∧ p ≤ 26
  · have := List.all_eq_true.1 (name_nat hp.1 hp.2).1 c hc
    rw [Bool.and_eq_true, Bool.and_eq_true] at this
    exact this.1.1
  · rw [name_else (by omega)] at hc
    cases hc
/-! ### one declaration -/
theorem text_ne {p k n : Int} (h : mayP p k n = true) : textP p k n ≠ [] := by
  intro e
  have := read_text h
  rw [e, read_empty] at this
  cases this
theorem strong_no {l : List UInt8} (h : ∀ c ∈ l, gdC c = true) : strongL l = (l, false) := by
  unfold strongL cutEnd
  rw [if_neg]
  rintro ⟨e, hl⟩
  have : (33 : UInt8) ∈ l := by
    refine List.mem_of_mem_drop (i := l.length - strongT.length) ?_
    rw [e]
    exact List.mem_cons_self
  have := h _ this
  revert this
  decide
theorem decl_print {d : Dcl} (h : mayD d = true) : declF (printD d) = [d] ∧ declF (32 :: printD d) = [d] := by
  obtain ⟨p, k, n, s⟩ := d
  change mayP p k n = true at h
  have hr := range_has (show hasP p k = true by unfold mayP at h; rw [Bool.and_eq_true] at h; exact h.1)
  obtain ⟨hn, hs⟩ := name_nat hr.1 hr.2
  have hN : ∀ c ∈ nameP p, plainC c = true ∧ ¬ 58 = c := fun c hc => by
    have := List.all_eq_true.1 hn c hc
    rw [Bool.and_eq_true, Bool.and_eq_true] at this
    refine ⟨this.1.2, ?_⟩
    rintro rfl
    exact absurd this.2 (by decide)
  have hP : printP p k n = textP p k n := by unfold printP; rw [h]; rfl
  have key : ∀ v, lowL (trimL v) = printP p k n ++ (if s then 32 :: strongT else []) → textD (lowL (trimL (nameP p))) (lowL (trimL v)) = [⟨p, k, n, s⟩] := by
    intro v hv
    rw [plain_same (fun c hc => (hN c hc).1), hv]
    unfold textD
    rw [if_pos hs, prop_name hr.1 hr.2]
    cases s with
    | false =>
      rw [if_neg (by decide), List.append_nil, strong_no (gd_printP p k n)]
      simp only
      rw [print_may h]
    | true =>
      rw [if_pos rfl]
      have : strongL (printP p k n ++ 32 :: strongT) = (printP p k n ++ [32], true) := by
        unfold strongL
        rw [show printP p k n ++ 32 :: strongT = (printP p k n ++ [32]) ++ strongT by simp, cutEnd_app]
      rw [this]
      simp only
      have : readF p (printP p k n ++ [32]) = some (k, n) := by
        have h1 := print_may h
        unfold readF at h1 ⊢
        rw [tr_last _ (by decide)]
        exact h1
      rw [this]
  have hv : lowL (trimL (32 :: (printP p k n ++ (if s then 32 :: strongT else [])))) = printP p k n ++ (if s then 32 :: strongT else []) := by
    rw [tr_head _ (by decide), hP]
    cases s with
    | false =>
      rw [if_neg (by decide), List.append_nil]
      exact plain_same (plain_text h)
    | true =>
      rw [if_pos rfl]
      cases ht : textP p k n with
      | nil => exact absurd ht (text_ne h)
      | cons a t =>
        have ha := plain_text h a (by rw [ht]; exact List.mem_cons_self)
        have hb : isBlank a = false := by
          unfold plainC at ha
          rw [Bool.and_eq_true] at ha
          simpa using ha.1
        rw [List.cons_append, tr_same (b := 116) (t ++ 32 :: strongT) (a :: (t ++ 32 :: [33, 105, 109, 112, 111, 114, 116, 97, 110])) (by simp [strongT]) hb (by decide)]
        show (a :: (t ++ 32 :: strongT)).map lowC = _
        rw [← List.cons_append, List.map_append, ← ht]
        congr 1
        have : ∀ c ∈ textP p k n, lowC c = c := fun c hc => by
          have := plain_text h c hc
          unfold plainC at this
          rw [Bool.and_eq_true] at this
          exact of_decide_eq_true this.2
        rw [List.map_congr_left this, List.map_id']
  have hc : Lib.cut (printD ⟨p, k, n, s⟩) [58] = (nameP p, 32 :: (printP p k n ++ (if s then 32 :: strongT else [])), true) := by
    rw [show printD ⟨p, k, n, s⟩ = nameP p ++ 58 :: (32 :: (printP p k n ++ (if s then 32 :: strongT else []))) by simp [printD]]
    exact cut_at _ _ fun x hx => (hN x hx).2
  have hc2 : Lib.cut (32 :: printD ⟨p, k, n, s⟩) [58] = (32 :: nameP p, 32 :: (printP p k n ++ (if s then 32 :: strongT else [])), true) := by
    rw [show 32 :: printD ⟨p, k, n, s⟩ = (32 :: nameP p) ++ 58 :: (32 :: (printP p k n ++ (if s then 32 :: strongT else []))) by simp [printD]]
    refine cut_at _ _ fun x hx => ?_
    rcases List.mem_cons.1 hx with rfl | hx
    · decide
    · exact (hN x hx).2
  constructor
  · unfold declF
    rw [hc]
    exact key _ hv
  · unfold declF
    rw [hc2]
    rw [if_pos rfl, tr_head _ (by decide)]
    exact key _ hv
theorem gd_printD (d : Dcl) : ∀ c ∈ printD d, ¬ c = 47 ∧ ¬ c = 59 ∧ ¬ c = 123 ∧ ¬ c = 125 := by
  intro c hc
  have of : gdC c = true → ¬ c = 47 ∧ ¬ c = 59 ∧ ¬ c = 123 ∧ ¬ c = 125 := by
    intro h
    refine ⟨?_, ?_, ?_, ?_⟩ <;> (rintro rfl; revert h; decide)
  unfold printD at hc
  rcases List.mem_append.1 hc with hc | hc
  · rcases List.mem_append.1 hc with hc | hc
    · exact of (name_gd _ c hc)
    · rcases List.mem_cons.1 hc with rfl | hc
      · decide
      · rcases List.mem_cons.1 hc with rfl | hc
        · decide
        · exact of (gd_printP _ _ _ c hc)
  · split at hc
    · have : ∀ c ∈ 32 :: strongT, ¬ c = 47 ∧ ¬ c = 59 ∧ ¬ c = 123 ∧ ¬ c = 125 := by decide
      exact this c hc
    · cases hc
theorem split_one {x : List UInt8} (h : ∀ c ∈ x, ¬ c = 59) : splitF 59 x = [trimL x] := by
  unfold splitF
  rw [pa_none _ (fun c hc => by simpa using h c hc)]
  rfl
/-- What begins and ends with no blank. -/
def Stout (l : List UInt8) : Prop := (∃ a t, l = a :: t ∧ isBlank a = false) ∧ ∃ u b, l = u ++ [b] ∧ isBlank b = false
theorem Stout.trim {l : List UInt8} (h : Stout l) : trimL l = l := by
  obtain ⟨⟨a, t, e, ha⟩, u, b, e2, hb⟩ := h
  rw [e]
  exact tr_same t u (e.symm.trans e2) ha hb
theorem plain_blank {c : UInt8} (h : plainC c = true) : isBlank c = false := by
  unfold plainC at h
  rw [Bool.and_eq_true] at h
  simpa using h.1
theorem name_ne : ∀ p : Fin 26, nameP ((p.val : Int) + 1) ≠ [] := by decide +kernel
theorem printD_stout {d : Dcl} (h : mayD d = true) : Stout (printD d) := by
  obtain ⟨p, k, n, s⟩ := d
  change mayP p k n = true at h
  have hr := range_has (show hasP p k = true by unfold mayP at h; rw [Bool.and_eq_true] at h; exact h.1)
  obtain ⟨hn, -⟩ := name_nat hr.1 hr.2
  have hP : printP p k n = textP p k n := by unfold printP; rw [h]; rfl
  constructor
  · cases hq : nameP p with
    | nil =>
      have := name_ne ⟨p.toNat - 1, by omega⟩
      rw [show (((⟨p.toNat - 1, by omega⟩ : Fin 26).val : Int) + 1) = p by simp only; omega] at this
      exact absurd hq this
    | cons a t =>
      refine ⟨a, t ++ (58 :: 32 :: printP p k n) ++ (if s then 32 :: strongT else []), by simp [printD, hq], ?_⟩
      have := List.all_eq_true.1 hn a (by rw [hq]; exact List.mem_cons_self)
      rw [Bool.and_eq_true, Bool.and_eq_true] at this
      exact plain_blank this.1.2
  · cases s with
    | true => exact ⟨nameP p ++ (58 :: 32 :: printP p k n) ++ 32 :: [33, 105, 109, 112, 111, 114, 116, 97, 110], 116, by simp [printD, strongT], by decide⟩
    | false =>
      have ht := text_ne h
      refine ⟨nameP p ++ (58 :: 32 :: (textP p k n).dropLast), (textP p k n).getLast ht, ?_, plain_blank (plain_text h _ (List.getLast_mem ht))⟩
      show nameP p ++ (58 :: 32 :: printP p k n) ++ [] = _
      rw [hP, List.append_nil, List.append_assoc, List.cons_append, List.cons_append, List.dropLast_concat_getLast ht]
/-! ### bodies -/
theorem body_cons (d : Dcl) (ds : List Dcl) : bodyL (d :: ds) = (32 :: printD d) ++ 59 :: bodyL ds := by
  unfold bodyL
  rw [List.map_cons, List.flatten_cons]
  simp
theorem decls_part {x : List UInt8} {d : Dcl} (h : mayD d = true) (hx : ∀ c ∈ x, ¬ c = 59) (ht : trimL x = printD d) : declsF x = [d] := by
  unfold declsF
  rw [split_one hx, ht]
  show declF (printD d) ++ [] = _
  rw [List.append_nil, (decl_print h).1]
theorem decls_body : ∀ ds : List Dcl, ds.all mayD = true → declsF (bodyL ds) = ds
  | [], _ => decls_nil
  | d :: ds, h => by
    rw [List.all_cons, Bool.and_eq_true] at h
    have h0 : ∀ c ∈ 32 :: printD d, ¬ c = 59 := fun c hc => by
      rcases List.mem_cons.1 hc with rfl | hc
      · decide
      · exact (gd_printD d c hc).2.1
    rw [body_cons, decls_app, decls_part h.1 h0 (by rw [tr_head _ (by decide), (printD_stout h.1).trim]), decls_body ds h.2]
    rfl
theorem body_last : ∀ ds : List Dcl, ds ≠ [] → ∃ u, bodyL ds = u ++ [59]
  | [], h => absurd rfl h
  | [d], _ => ⟨32 :: printD d, by rw [body_cons]; rfl⟩
  | d :: e :: ds, _ => by
    obtain ⟨u, hu⟩ := body_last (e :: ds) (by simp)
    exact ⟨(32 :: printD d) ++ 59 :: u, by rw [body_cons, hu]; simp⟩
theorem decls_block (ds : List Dcl) (h : ds.all mayD = true) : declsF (trimL (bodyL ds ++ [32])) = ds := by
  rw [tr_last _ (by decide)]
  cases ds with
  | nil => exact decls_nil
  | cons d ds =>
    obtain ⟨u, hu⟩ := body_last (d :: ds) (by simp)
    have h2 := h
    rw [List.all_cons, Bool.and_eq_true] at h2
    obtain ⟨⟨a, t, e, ha⟩, -⟩ := printD_stout h2.1
    have e1 : trimL (bodyL (d :: ds)) = printD d ++ 59 :: bodyL ds := by
      rw [body_cons, List.cons_append, tr_head _ (by decide), e]
      rw [body_cons, e] at hu
      cases u with
      | nil => simp at hu
      | cons x u =>
        refine tr_same (b := 59) (t ++ 59 :: bodyL ds) u ?_ ha (by decide)
        simpa using (List.cons.inj hu).2
    rw [e1, decls_app, decls_part h2.1 (fun c hc => (gd_printD d c hc).2.1) (printD_stout h2.1).trim, decls_body ds h2.2]
    rfl
theorem body_gd : ∀ ds : List Dcl, ∀ c ∈ bodyL ds, ¬ c = 47 ∧ ¬ c = 123 ∧ ¬ c = 125
  | [], c, hc => by cases hc
  | d :: ds, c, hc => by
    rw [body_cons] at hc
    rcases List.mem_append.1 hc with hc | hc
    · rcases List.mem_cons.1 hc with rfl | hc
      · decide
      · have := gd_printD d c hc
        exact ⟨this.1, this.2.2.1, this.2.2.2⟩
    · rcases List.mem_cons.1 hc with rfl | hc
      · decide
      · exact body_gd ds c hc
/-! ### rules -/
theorem heads_stout {x : Slr} {xs : List Slr} (h : (x :: xs).all maySlr = true) : Stout (headsL (x :: xs)) := by
  have one : ∀ y : Slr, maySlr y = true → Stout (Sel.printP y) := by
    intro y hy
    obtain ⟨h1, -, h3, h4⟩ := maySlr_of hy
    have e : Sel.printP y = textL y.parts y.close := by unfold Sel.printP; rw [hy]; rfl
    rw [e]
    cases hp : y.parts with
    | nil => rw [hp] at h1; simp at h1
    | cons p ps =>
      rw [hp] at h3 h4
      obtain ⟨d, r, e1, hd⟩ := text_head (show maySim p = true by rw [List.all_cons, Bool.and_eq_true] at h4; exact h4.1) ps y.close
      obtain ⟨u, b, e2, hb⟩ := text_last ps p y.close h4 (by simp at h3; omega)
      exact ⟨⟨d, r, e1, ok_blank hd⟩, u, b, e2, ok_blank hb⟩
  have many : ∀ (ys : List Slr) (y : Slr), (y :: ys).all maySlr = true → Stout (headsL (y :: ys)) := by
    intro ys
    induction ys with
    | nil =>
      intro y hy
      rw [List.all_cons, Bool.and_eq_true] at hy
      show Stout (joinT [Sel.printP y])
      rw [joinT_one]
      exact one y hy.1
    | cons z zs ih =>
      intro y hy
      rw [List.all_cons, Bool.and_eq_true] at hy
      obtain ⟨⟨a, t, e, ha⟩, -⟩ := one y hy.1
      obtain ⟨-, u, b, e2, hb⟩ := ih z hy.2
      have e3 : headsL (y :: z :: zs) = Sel.printP y ++ 44 :: 32 :: headsL (z :: zs) := by
        unfold headsL
        rw [List.map_cons, List.map_cons, joinT_two]
      rw [e3]
      exact ⟨⟨a, t ++ 44 :: 32 :: headsL (z :: zs), by rw [e]; rfl, ha⟩, Sel.printP y ++ 44 :: 32 :: u, b, by rw [e2]; simp, hb⟩
  exact many xs x h
theorem strip_app (s : List UInt8) : ∀ t : List UInt8, (∀ c ∈ t, ¬ c = 47) → stripL (t ++ s) = t ++ stripL s
  | [], _ => rfl
  | [a], h => by
    show stripL (a :: s) = a :: stripL s
    cases s with
    | nil => rw [stripL_one, stripL_nil]
    | cons b s => rw [stripL_other _ (fun e => h a List.mem_cons_self e.1)]
  | a :: b :: t, h => by
    show stripL (a :: b :: (t ++ s)) = a :: ((b :: t) ++ stripL s)
    rw [stripL_other _ (fun e => h a List.mem_cons_self e.1), ← strip_app s (b :: t) (fun c hc => h c (List.mem_cons_of_mem _ hc))]
    rfl
theorem blocks_blank {b : UInt8} (hb : isBlank b = true) (l : List UInt8) : blocksF (b :: l) = blocksF l := by
  have hn : ∀ h : List UInt8, noB h → noB (b :: h) := by
    intro h hh
    have : ¬ b = 123 ∧ ¬ b = 125 := by constructor <;> (rintro rfl; revert hb; decide)
    intro c hc
    rcases List.mem_cons.1 hc with rfl | hc
    · exact this
    · exact hh c hc
  rcases ia_cases l with ⟨-, h⟩ | ⟨h, c, t, e, -, h1, h2⟩
  · rw [blocks_none h, blocks_none (hn l h)]
  · subst e
    rcases h2 with rfl | rfl
    · rcases cut_brace t with ⟨-, h3⟩ | ⟨-, h3, h4⟩
      · rw [blocks_open h1 h3, ← List.cons_append, blocks_open (hn h h1) h3]
      · rw [h3, blocks_one h1 h4, ← List.cons_append, blocks_one (hn h h1) h4, tr_head _ hb]
    · rw [blocks_drop h1, ← List.cons_append, blocks_drop (hn h h1)]
theorem rule_print {r : Rul} (h : mayR r = true) (u : List UInt8) : (blocksF (printR r ++ u)).filterMap ruleF = r :: (blocksF u).filterMap ruleF := by
  unfold mayR at h
  simp only [Bool.and_eq_true, decide_eq_true_eq] at h
  obtain ⟨⟨⟨⟨h1, h2⟩, h3⟩, h4⟩, h5⟩ := h
  obtain ⟨sels, decls⟩ := r
  cases sels with
  | nil => simp at h1
  | cons x xs =>
    have e : printR ⟨x :: xs, decls⟩ ++ u = (headsL (x :: xs) ++ [32]) ++ 123 :: ((bodyL decls ++ [32]) ++ 125 :: (10 :: u)) := by simp [printR]
    have hn : noB (headsL (x :: xs) ++ [32]) := by
      intro c hc
      rcases List.mem_append.1 hc with hc | hc
      · have := gd_heads _ c hc
        constructor <;> (rintro rfl; revert this; decide)
      · rw [List.mem_singleton] at hc
        subst hc
        decide
    have hb : ∀ c ∈ bodyL decls ++ [32], ¬ c = 125 := by
      intro c hc
      rcases List.mem_append.1 hc with hc | hc
      · exact (body_gd _ c hc).2.2
      · rw [List.mem_singleton] at hc
        subst hc
        decide
    have hr : ruleF (trimL (headsL (x :: xs) ++ [32]), trimL (bodyL decls ++ [32])) = some ⟨x :: xs, decls⟩ := by
      unfold ruleF
      simp only
      rw [tr_last _ (by decide), (heads_stout h4).trim, show headsL (x :: xs) = joinT ((x :: xs).map Sel.printP) from rfl, list_prints, if_pos h4]
      simp only
      rw [decls_block decls h5]
    rw [e, blocks_one hn hb, List.filterMap_cons, hr, blocks_blank (by decide)]
theorem printR_gd (r : Rul) : ∀ c ∈ printR r, ¬ c = 47 := by
  intro c hc
  unfold printR at hc
  rcases List.mem_append.1 hc with hc | hc
  · rcases List.mem_append.1 hc with hc | hc
    · rcases List.mem_append.1 hc with hc | hc
      · have := gd_heads _ c hc
        rintro rfl
        revert this
        decide
      · have : ∀ c ∈ ([32, 123] : List UInt8), ¬ c = 47 := by decide
        exact this c hc
    · exact (body_gd _ c hc).1
  · have : ∀ c ∈ ([32, 125, 10] : List UInt8), ¬ c = 47 := by decide
    exact this c hc
/-- Rules that are printed, ahead of any text, are read, ahead of its own. -/
theorem rules_print (s : List UInt8) : ∀ l : List Rul, l.all mayR = true → rulesF ((l.map printR).flatten ++ s) = l ++ rulesF s
  | [], _ => rfl
  | r :: l, h => by
    rw [List.all_cons, Bool.and_eq_true] at h
    have ih := rules_print s l h.2
    unfold rulesF at ih ⊢
    rw [List.map_cons, List.flatten_cons, List.append_assoc, strip_app _ _ (printR_gd r), rule_print h.1, ih]
    rfl
end Sht
end Go.Proofs.YtdfcahdipalmkaaGreatDoor
