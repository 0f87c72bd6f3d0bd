/- A short name's declarations are those of its sides, told one by one. Conditions: none. -/
import Derived.Test.YtdfcahdipalmkaaGreatDoorShtMath2
namespace Go.Proofs.YtdfcahdipalmkaaGreatDoor
namespace Sht
open Sel
def Solid (x : List UInt8) : Prop := x ≠ [] ∧ ∀ c ∈ x, plainC c = true
theorem words_cons {x : List UInt8} (h : Solid x) (t : List UInt8) (ht : t = [] ∨ ∃ r, t = 32 :: r) : wordsF (x ++ t) = x :: wordsF t := by
  have hb : ∀ c ∈ x, isBlank c = false := fun c hc => plain_blank (h.2 c hc)
  unfold wordsF
  rcases ht with rfl | ⟨r, rfl⟩
  · rw [List.append_nil, pa_none _ hb]
    rw [List.filter_cons, if_pos (by cases x with | nil => exact absurd rfl h.1 | cons a b => rfl)]
    rfl
  · rw [pa_some _ _ _ hb (by decide), List.filter_cons, if_pos (by cases x with | nil => exact absurd rfl h.1 | cons a b => rfl)]
    congr 1
theorem words_blank (t : List UInt8) : wordsF (32 :: t) = wordsF t := by
  unfold wordsF
  rw [partsAt, if_pos (by decide), List.filter_cons, if_neg (by simp)]
def spread (ws : List (List UInt8)) : List UInt8 := (ws.map (32 :: ·)).flatten
theorem spread_cons (x : List UInt8) (ws : List (List UInt8)) : spread (x :: ws) = 32 :: (x ++ spread ws) := by
  unfold spread
  rw [List.map_cons, List.flatten_cons]
  rfl
theorem spread_form : ∀ ws : List (List UInt8), spread ws = [] ∨ ∃ r, spread ws = 32 :: r
  | [] => .inl rfl
  | x :: ws => .inr ⟨_, spread_cons x ws⟩
theorem words_spread : ∀ (ws : List (List UInt8)) (b : List UInt8), (∀ x ∈ ws, Solid x) → (b = [] ∨ b = [32]) → wordsF (spread ws ++ b) = ws
  | [], b, _, hb => by
    rcases hb with rfl | rfl
    · decide
    · decide
  | x :: ws, b, h, hb => by
    rw [spread_cons, List.cons_append, words_blank, List.append_assoc, words_cons (h x List.mem_cons_self), words_spread ws b (fun y hy => h y (List.mem_cons_of_mem _ hy)) hb]
    rcases spread_form ws with e | ⟨r, e⟩
    · rw [e]
      rcases hb with rfl | rfl
      · exact .inl rfl
      · exact .inr ⟨_, rfl⟩
    · rw [e]
      exact .inr ⟨_, rfl⟩
def lowFix (l : List UInt8) : Prop := ∀ c ∈ l, lowC c = c
theorem low_fix {l : List UInt8} (h : lowFix l) : lowL l = l := by
  unfold lowL
  rw [List.map_congr_left h, List.map_id']
theorem plain_low {c : UInt8} (h : plainC c = true) : lowC c = c := by
  unfold plainC at h
  rw [Bool.and_eq_true] at h
  exact of_decide_eq_true h.2
theorem spread_low : ∀ ws : List (List UInt8), (∀ x ∈ ws, Solid x) → lowFix (spread ws)
  | [], _, c, hc => by cases hc
  | x :: ws, h, c, hc => by
    rw [spread_cons] at hc
    rcases List.mem_cons.1 hc with rfl | hc
    · decide
    · rcases List.mem_append.1 hc with hc | hc
      · exact plain_low ((h x List.mem_cons_self).2 c hc)
      · exact spread_low ws (fun y hy => h y (List.mem_cons_of_mem _ hy)) c hc
theorem spread_last : ∀ (ws : List (List UInt8)) (x : List UInt8), (∀ y ∈ x :: ws, Solid y) → ∃ u b, spread (x :: ws) = u ++ [b] ∧ isBlank b = false
  | [], x, h => by
    have hx := h x List.mem_cons_self
    exact ⟨32 :: x.dropLast, x.getLast hx.1, by rw [spread_cons]; show 32 :: (x ++ []) = _; rw [List.append_nil, List.cons_append, List.dropLast_concat_getLast hx.1], plain_blank (hx.2 _ (List.getLast_mem hx.1))⟩
  | y :: ws, x, h => by
    obtain ⟨u, b, e, hb⟩ := spread_last ws y (fun z hz => h z (List.mem_cons_of_mem _ hz))
    exact ⟨32 :: (x ++ u), b, by rw [spread_cons, e]; simp, hb⟩
def endT (s : Bool) : List UInt8 := if s then 32 :: strongT else []
/-- A short name's text is read as its sides. -/
theorem short_read (x : List UInt8) (ws : List (List UInt8)) (s : Bool) (h : ∀ y ∈ x :: ws, Solid y) (hg : ∀ c ∈ spread (x :: ws), gdC c = true) : declsF (marginT ++ 58 :: (spread (x :: ws) ++ endT s)) = sidesF 4 (x :: ws) s := by
  have h59 : ∀ c ∈ marginT ++ 58 :: (spread (x :: ws) ++ endT s), ¬ c = 59 := by
    intro c hc
    rcases List.mem_append.1 hc with hc | hc
    · have : ∀ c ∈ marginT, ¬ c = 59 := by decide
      exact this c hc
    · rcases List.mem_cons.1 hc with rfl | hc
      · decide
      · rcases List.mem_append.1 hc with hc | hc
        · have := hg c hc
          rintro rfl
          revert this
          decide
        · unfold endT at hc
          split at hc
          · have : ∀ c ∈ 32 :: strongT, ¬ c = 59 := by decide
            exact this c hc
          · cases hc
  have hx := h x List.mem_cons_self
  obtain ⟨a, t, e⟩ : ∃ a t, x = a :: t := by
    cases x with
    | nil => exact absurd rfl hx.1
    | cons a t => exact ⟨a, t, rfl⟩
  have ha : isBlank a = false := plain_blank (hx.2 a (by rw [e]; exact List.mem_cons_self))
  obtain ⟨u, b, hu, hb⟩ := spread_last ws x h
  have htr : trimL (spread (x :: ws) ++ endT s) = x ++ spread ws ++ endT s := by
    rw [spread_cons, List.cons_append, tr_head _ (by decide), e]
    cases s with
    | false =>
      show trimL ((a :: t) ++ spread ws ++ []) = (a :: t) ++ spread ws ++ []
      rw [List.append_nil, List.cons_append]
      rw [spread_cons, e] at hu
      cases u with
      | nil => simp at hu
      | cons y u => exact tr_same (b := b) (t ++ spread ws) u (by simpa using (List.cons.inj hu).2) ha hb
    | true =>
      show trimL ((a :: t) ++ spread ws ++ 32 :: strongT) = (a :: t) ++ spread ws ++ 32 :: strongT
      rw [List.cons_append, List.cons_append]
      exact tr_same (b := 116) (t ++ spread ws ++ 32 :: strongT) (a :: (t ++ spread ws ++ 32 :: [33, 105, 109, 112, 111, 114, 116, 97, 110])) (by simp [strongT]) ha (by decide)
  have hlow : lowL (trimL (spread (x :: ws) ++ endT s)) = x ++ spread ws ++ endT s := by
    rw [htr]
    refine low_fix fun c hc => ?_
    rcases List.mem_append.1 hc with hc | hc
    · rcases List.mem_append.1 hc with hc | hc
      · exact plain_low (hx.2 c hc)
      · exact spread_low ws (fun y hy => h y (List.mem_cons_of_mem _ hy)) c hc
    · unfold endT at hc
      split at hc
      · have : ∀ c ∈ 32 :: strongT, lowC c = c := by decide
        exact this c hc
      · cases hc
  have hst : strongL (x ++ spread ws ++ endT s) = (x ++ spread ws ++ (if s then [32] else []), s) := by
    cases s with
    | false =>
      show strongL (x ++ spread ws ++ []) = (x ++ spread ws ++ [], false)
      rw [List.append_nil]
      refine strong_no fun c hc => hg c ?_
      rw [spread_cons]
      exact List.mem_cons_of_mem _ hc
    | true =>
      show strongL (x ++ spread ws ++ 32 :: strongT) = (x ++ spread ws ++ [32], true)
      unfold strongL
      rw [show x ++ spread ws ++ 32 :: strongT = (x ++ spread ws ++ [32]) ++ strongT by simp, cutEnd_app]
  have hw : wordsF (x ++ spread ws ++ (if s then [32] else [])) = x :: ws := by
    rw [← words_blank, List.append_assoc]
    have := words_spread (x :: ws) (if s then [32] else []) h (by cases s <;> simp)
    rw [spread_cons, List.cons_append, List.append_assoc] at this
    exact this
  unfold declsF
  rw [split_one h59]
  show declF _ ++ [] = _
  rw [List.append_nil]
  have hd : trimL (marginT ++ 58 :: (spread (x :: ws) ++ endT s)) = marginT ++ 58 :: (spread (x :: ws) ++ endT s) := by
    cases s with
    | false =>
      show trimL (marginT ++ 58 :: (spread (x :: ws) ++ [])) = marginT ++ 58 :: (spread (x :: ws) ++ [])
      rw [List.append_nil, hu]
      exact tr_same (a := 109) (b := b) ([97, 114, 103, 105, 110] ++ 58 :: (u ++ [b])) (marginT ++ 58 :: u) (by simp [marginT]) (by decide) hb
    | true =>
      exact tr_same (a := 109) (b := 116) ([97, 114, 103, 105, 110] ++ 58 :: (spread (x :: ws) ++ 32 :: strongT)) (marginT ++ 58 :: (spread (x :: ws) ++ 32 :: [33, 105, 109, 112, 111, 114, 116, 97, 110])) (by simp [marginT, strongT]) (by decide) (by decide)
  rw [hd]
  unfold declF
  rw [cut_at _ _ (by decide)]
  rw [if_pos rfl, hlow, show lowL (trimL marginT) = marginT from by decide +kernel]
  unfold textD
  rw [if_neg (by decide), hst]
  simp only
  rw [hw]
  rfl
/-! ### the words of law SheetSides -/
/-- So many whole pixels. -/
def txN (d : Nat) : List UInt8 := [UInt8.ofNat (48 + d), 112, 120]
theorem tx_read : ∀ k : Fin 4, ∀ d : Fin 10, readF (4 + (k.val : Int)) (txN d.val) = some (2, 64 * (d.val : Int)) ∧ printP (4 + (k.val : Int)) 2 (64 * (d.val : Int)) = txN d.val ∧ mayP (4 + (k.val : Int)) 2 (64 * (d.val : Int)) = true := by decide +kernel
theorem tx_solid : ∀ d : Fin 10, (txN d.val).all (fun c => plainC c && gdC c) = true := by decide +kernel
theorem tx_solid' {d : Nat} (h : d < 10) : Solid (txN d) ∧ ∀ c ∈ txN d, gdC c = true := by
  have := List.all_eq_true.1 (tx_solid ⟨d, h⟩)
  exact ⟨⟨by simp [txN], fun c hc => by have := this c hc; rw [Bool.and_eq_true] at this; exact this.1⟩, fun c hc => by have := this c hc; rw [Bool.and_eq_true] at this; exact this.2⟩
/-- The words, as many as are told. -/
def wsN (b : Nat → Nat) (k : Nat) : List (List UInt8) := (List.range k).map fun j => txN (b j)
theorem wsN_len (b : Nat → Nat) (k : Nat) : (wsN b k).length = k := by simp [wsN]
theorem wsN_get (b : Nat → Nat) {k j : Nat} (h : j < k) : (wsN b k).getD j [] = txN (b j) := by
  rw [List.getD_eq_getElem?_getD]
  unfold wsN
  rw [List.getElem?_map, List.getElem?_range h]
  rfl
theorem wsN_snoc (b : Nat → Nat) (k : Nat) : wsN b (k + 1) = wsN b k ++ [txN (b k)] := by
  unfold wsN
  rw [List.range_succ, List.map_append]
  rfl
theorem spread_snoc (ws : List (List UInt8)) (x : List UInt8) : spread (ws ++ [x]) = spread ws ++ 32 :: x := by
  unfold spread
  simp
def dN (b : Nat → Nat) (m : Nat) (s : Bool) (k : Nat) : Dcl := ⟨4 + (k : Int), 2, 64 * ((b (whichL m k) : Nat) : Int), s⟩
theorem sideGo_N (b : Nat → Nat) (hb : ∀ j, b j < 10) (m : Nat) (h1 : 1 ≤ m) (h4 : m ≤ 4) (s : Bool) : ∀ k, k ≤ 4 → sideGo 4 (wsN b m) s k = some ((List.range k).map (dN b m s))
  | 0, _ => rfl
  | k + 1, hk => by
    rw [sideGo, sideGo_N b hb m h1 h4 s k (by omega)]
    simp only
    rw [wsN_len, wsN_get b (which_lt h1 h4 (by omega))]
    have h := (tx_read ⟨k, by omega⟩ ⟨b (whichL m k), hb _⟩).1
    simp only at h
    rw [h, List.range_succ, List.map_append]
    rfl
/-- The short text. -/
def shortN (b : Nat → Nat) (k : Nat) : List UInt8 := marginT ++ 58 :: spread (wsN b k)
theorem shortN_more (b : Nat → Nat) (k : Nat) : shortN b (k + 1) = shortN b k ++ (32 :: txN (b k)) := by
  unfold shortN
  rw [wsN_snoc, spread_snoc]
  simp
theorem short_decls (b : Nat → Nat) (hb : ∀ j, b j < 10) (m : Nat) (h1 : 1 ≤ m) (h4 : m ≤ 4) (s : Bool) : declsF (shortN b m ++ endT s) = (List.range 4).map (dN b m s) := by
  have hw : wsN b m = txN (b 0) :: (wsN b m).tail := by
    cases m with
    | zero => omega
    | succ m => unfold wsN; rw [List.range_succ_eq_map]; rfl
  have hall : ∀ y ∈ wsN b m, Solid y ∧ ∀ c ∈ y, gdC c = true := by
    intro y hy
    unfold wsN at hy
    obtain ⟨j, -, rfl⟩ := List.mem_map.1 hy
    exact tx_solid' (hb j)
  have hg : ∀ (ws : List (List UInt8)), (∀ y ∈ ws, ∀ c ∈ y, gdC c = true) → ∀ c ∈ spread ws, gdC c = true := by
    intro ws hws c hc
    unfold spread at hc
    obtain ⟨y, hy, hc⟩ := List.mem_flatten.1 hc
    obtain ⟨z, hz, rfl⟩ := List.mem_map.1 hy
    rcases List.mem_cons.1 hc with rfl | hc
    · decide
    · exact hws z hz c hc
  have e : shortN b m ++ endT s = marginT ++ 58 :: (spread (txN (b 0) :: (wsN b m).tail) ++ endT s) := by
    unfold shortN
    rw [← hw]
    simp
  rw [e, short_read _ _ s (fun y hy => (hall y (by rw [hw]; exact hy)).1) (hg _ (fun y hy => (hall y (by rw [hw]; exact hy)).2)), ← hw]
  unfold sidesF
  rw [if_pos (by rw [wsN_len]; omega), sideGo_N b hb m h1 h4 s 4 (Nat.le_refl _)]
  rfl
def sideT (k : Nat) : List UInt8 := if k = 0 then [116, 111, 112] else if k = 1 then [114, 105, 103, 104, 116] else if k = 2 then [98, 111, 116, 116, 111, 109] else [108, 101, 102, 116]
/-- One side's text. -/
def oneN (b : Nat → Nat) (m : Nat) (s : Bool) (k : Nat) : List UInt8 := [109, 97, 114, 103, 105, 110, 45] ++ sideT k ++ [58, 32] ++ txN (b (whichL m k)) ++ endT s ++ [59]
def longN (b : Nat → Nat) (m : Nat) (s : Bool) : Nat → List UInt8
  | 0 => []
  | k + 1 => longN b m s k ++ oneN b m s k
theorem name_side : ∀ k : Fin 4, nameP (4 + (k.val : Int)) = [109, 97, 114, 103, 105, 110, 45] ++ sideT k.val := by decide +kernel
theorem one_print (b : Nat → Nat) (hb : ∀ j, b j < 10) (m : Nat) (s : Bool) {k : Nat} (hk : k < 4) : oneN b m s k = printD (dN b m s k) ++ [59] ∧ mayD (dN b m s k) = true := by
  have h1 := name_side ⟨k, hk⟩
  have h2 := tx_read ⟨k, hk⟩ ⟨b (whichL m k), hb _⟩
  simp only at h1 h2
  refine ⟨?_, h2.2.2⟩
  unfold printD dN oneN endT
  simp only
  rw [h1, h2.2.1]
  simp
theorem part_decls (d : Dcl) (h : mayD d = true) (r : List UInt8) : declsF (printD d ++ 59 :: r) = d :: declsF r := by
  rw [decls_app, decls_part h (fun c hc => (gd_printD d c hc).2.1) (printD_stout h).trim]
  rfl
theorem long_decls (b : Nat → Nat) (hb : ∀ j, b j < 10) (m : Nat) (s : Bool) : declsF (longN b m s 4) = (List.range 4).map (dN b m s) := by
  have o := fun k (hk : k < 4) => one_print b hb m s hk
  have e : longN b m s 4 = printD (dN b m s 0) ++ 59 :: (printD (dN b m s 1) ++ 59 :: (printD (dN b m s 2) ++ 59 :: (printD (dN b m s 3) ++ 59 :: []))) := by
    unfold longN
    unfold longN
    unfold longN
    unfold longN
    rw [longN, (o 0 (by omega)).1, (o 1 (by omega)).1, (o 2 (by omega)).1, (o 3 (by omega)).1]
    simp
  rw [e, part_decls _ (o 0 (by omega)).2, part_decls _ (o 1 (by omega)).2, part_decls _ (o 2 (by omega)).2, part_decls _ (o 3 (by omega)).2, decls_nil]
  rfl
theorem longN_len (b : Nat → Nat) (m : Nat) (s : Bool) : ∀ k, (longN b m s k).length ≤ 40 * k
  | 0 => Nat.le_refl _
  | k + 1 => by
    have := longN_len b m s k
    have h1 : (sideT k).length ≤ 6 := by unfold sideT; (repeat' split) <;> decide
    have h2 : (endT s).length ≤ 11 := by cases s <;> simp [endT, strongT]
    rw [longN, List.length_append]
    unfold oneN txN
    simp only [List.length_append, List.length_cons, List.length_nil]
    omega
theorem shortN_len (b : Nat → Nat) : ∀ k, (shortN b k).length ≤ 7 + 4 * k
  | 0 => by simp [shortN, marginT, wsN, spread]
  | k + 1 => by
    have := shortN_len b k
    rw [shortN_more, List.length_append]
    simp [txN]
    omega
end Sht
end Go.Proofs.YtdfcahdipalmkaaGreatDoor
