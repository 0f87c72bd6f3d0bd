/- What readColor answers. Conditions: the text isn't too long, and has no capitals; the tables are laid. -/
import Derived.Test.YtcacabpcobmgoaaGreatDoorValNw
import Derived.Maps.Own
import Derived.Maps.OwnOps
import Derived.Maps.OwnSet
import Derived.Maps.Views
import Derived.Below
/- What readWith answers; colors' map; hexadecimal digits. Conditions: the text isn't too long; the tables are laid. -/
namespace Go.Proofs.YtcacabpcobmgoaaGreatDoor
open Go.ChangeShapes Go.WideShapes Go.ChangeAt Go.RowKit Go.Maps
namespace Val
theorem cutEnd_is (e l : List UInt8) : cutEnd e l = if Lib.hasSuffix l e = true then some (Lib.trimSuffix l e) else none := by
  unfold cutEnd Lib.trimSuffix
  have h := Lib.hasSuffix_of_drop l e
  by_cases hs : Lib.hasSuffix l e = true
  · rw [hs, Bool.and_eq_true, decide_eq_true_eq, beq_iff_eq] at h
    rw [if_pos ⟨h.2, h.1⟩, if_pos hs, if_pos hs]
  · rw [if_neg hs, if_neg]
    rintro ⟨h1, h2⟩
    apply hs
    rw [← h, Bool.and_eq_true, decide_eq_true_eq, beq_iff_eq]
    exact ⟨h2, h1⟩
set_option maxHeartbeats 4000000 in
theorem readWith_any (e s : ByteArray) (hs : s.size ≤ mostB) (w : World) (hT : Tabs w) : Calls Tryz.prog 39 #[.string e, .string s] w fun r w' => r = .returned (nmV ((cutEnd e.data.toList s.data.toList).bind numL)) ∧ Below w.heap.size w w' := by
  have c1 := fun w => Tryz.strings_CutSuffix s e w (by unfold mostB at hs; omega)
  rw [cutEnd_is]
  have c2 := fun w hT => readNumber_any (toB (Lib.trimSuffix s.data.toList e.data.toList)) (by rw [toB_size]; have := Lib.trimSuffix_le s.data.toList e.data.toList; rw [← Lib.size_eq] at this; omega) w hT
  rw [toB_list] at c2
  have e1 : (⟨(Lib.trimSuffix s.data.toList e.data.toList).toArray⟩ : ByteArray) = toB (Lib.trimSuffix s.data.toList e.data.toList) := rfl
  rw [e1] at c1
  clear e1
  generalize Lib.trimSuffix s.data.toList e.data.toList = t at *
  generalize Lib.hasSuffix s.data.toList e.data.toList = b at *
  cases b with
  | false =>
    rw [if_neg (by decide)]
    simp only [Option.bind_none, nmV]
    go_enter Tryz.func39, Tryz.ntmps39
    go_wp2_with (go_at_call 66; (with_reducible refine (c1 _).mono ?_); rintro e w1 ⟨rfl, rfl⟩)
    go_ret2
    exact ⟨rfl, Below.refl _ _⟩
  | true =>
    rw [if_pos rfl]
    simp only [Option.bind_some]
    cases hn : numL t with
    | none =>
      rw [hn] at c2
      simp only [nmV] at c2 ⊢
      go_enter Tryz.func39, Tryz.ntmps39
      go_wp2_with (first
        | (go_at_call 66; (with_reducible refine (c1 _).mono ?_); rintro e w1 ⟨rfl, rfl⟩)
        | (go_at_call 42; (with_reducible refine (c2 _ hT).mono ?_); rintro e w2 ⟨rfl, hb⟩))
      go_ret2
      exact ⟨rfl, hb⟩
    | some n =>
      rw [hn] at c2
      simp only [nmV] at c2 ⊢
      go_enter Tryz.func39, Tryz.ntmps39
      go_wp2_with (first
        | (go_at_call 66; (with_reducible refine (c1 _).mono ?_); rintro e w1 ⟨rfl, rfl⟩)
        | (go_at_call 42; (with_reducible refine (c2 _ hT).mono ?_); rintro e w2 ⟨rfl, hb⟩))
      go_ret2
      exact ⟨rfl, hb⟩
/-! ### hexadecimal -/
theorem loB_fin : ∀ c : Fin 256, lowC (UInt8.ofFin c) = UInt8.ofFin c → dgv 16 (UInt8.ofFin c) = hexD (UInt8.ofFin c) := by decide +kernel
theorem hex_is {c : UInt8} (h : lowC c = c) : dgv 16 c = hexD c := loB_fin c.toFin h
theorem puV_hex : ∀ (l : List UInt8) (n : Nat), lowL l = l → puV 16 l n = hexV l n := by
  intro l
  induction l with
  | nil => intro n _; rfl
  | cons c l ih =>
    intro n h
    have h1 := List.cons.inj (show lowC c :: lowL l = c :: l from h)
    rw [puV, hexV, hex_is h1.1]
    cases hexD c with
    | none => rfl
    | some d => simp only; rw [ih _ h1.2, Nat.mul_comm n 16]
/-! ### colors -/
abbrev colD0 : DataW Nat := .map []
abbrev colD1 : DataW Nat := colD0.put (.string [98, 108, 97, 99, 107]) (.lit (.int .i64 0))
abbrev colD2 : DataW Nat := colD1.put (.string [119, 104, 105, 116, 101]) (.lit (.int .i64 16777215))
abbrev colD3 : DataW Nat := colD2.put (.string [114, 101, 100]) (.lit (.int .i64 16711680))
abbrev colD4 : DataW Nat := colD3.put (.string [103, 114, 101, 101, 110]) (.lit (.int .i64 32768))
abbrev colD5 : DataW Nat := colD4.put (.string [98, 108, 117, 101]) (.lit (.int .i64 255))
end Val
end Go.Proofs.YtcacabpcobmgoaaGreatDoor
/- What colors and readColor answer. Conditions: the text isn't too long, and has no capitals; the tables are laid. -/
namespace Go.Proofs.YtcacabpcobmgoaaGreatDoor
open Go.ChangeShapes Go.WideShapes Go.ChangeAt Go.RowKit Go.Maps
namespace Val
theorem lawS : Keyed Tryz.prog 9 := string_keyed Tryz.underlying9
theorem zeroL (w : World) : (zeroValue 2).run Tryz.prog w = .ok (.int .i64 0) w := by kernel_rfl
/-- An entry of a map's literal: as a store. -/
theorem wpList_insert_own {H : Type} {P : Program} (w : World) {ops : Array Oper} {rest : List Oper} {o : Oper} {a : Act} {Q : Exit → Act → World → Prop}
    (hg : o.guard = none) (m x v : Operand) (t : TypeId) (hop : o.op = Op.insert t m x v)
    (k e : TypeId) (K : Keyed P k) (ht : P.underlying t = some (.map k e)) (R : Value → Option (DataW H × List MemPlace)) (b n : Nat) (D : DataW H)
    (hm : a.eval m = .map (some b)) (hown : w.ownsMap P k R b n D) (hn : n < maxLen) (key val : Value) (kl : Lit) (hx : a.eval x = key) (hv : a.eval v = val) (hkey : keyOf P k key = some kl)
    (d : DataW H) (ps : List MemPlace) (hval : R val = some (d, ps))
    (hK : ∀ w', w'.ownsMap P k R b (n + 1) (D.put kl d) → w.grownBy w' (some b) → wpList P ops Q rest (a.put o.dst undef) w') :
    wpList P ops Q (o :: rest) a w := by
  refine wpList_plain hg fun K' hK' => ?_
  obtain ⟨w', hrun, r1, r2⟩ := hown.update K ht hn hkey hval
  unfold Oper.wp
  simp [execOp, hop, hm, hx, hv, hrun, Result.andThen]
  exact hK' _ _ (hK w' r1 r2)
theorem wfc {n : Int} (h0 : 0 ≤ n) (h1 : n ≤ 16777215) : (Lit.int .i64 n).wf = true := WalkArith.wf_i64 (by omega)
theorem key_of (l : List UInt8) (h : l.length ≤ 10) : keyOf Tryz.prog 9 (.string ⟨l.toArray⟩) = some (.string l) :=
  WideMaps.keyOf_string_mk Tryz.underlying9 (s := ⟨l.toArray⟩) (by show l.length ≤ maxLen; unfold maxLen; omega)
set_option maxRecDepth 100000 in
set_option maxHeartbeats 4000000 in
theorem colors_any (w : World) : Calls Tryz.prog 67 #[] w fun e w' => e = .returned (.map (some w.heap.size)) ∧ w'.ownsMap Tryz.prog 9 (plainElem Tryz.prog 2) w.heap.size 5 colD5 ∧ Below w.heap.size w w' := by
  have hmm := @run_makeMap Tryz.prog
  have h0 : (w.alloc (.map #[] 0)).ownsMap Tryz.prog 9 (plainElem Tryz.prog 2) w.heap.size 0 colD0 := World.ownsMap_made _ _ _ _
  have b0 : Below w.heap.size w (w.alloc (.map #[] 0)) := (Below.refl _ _).alloc (Nat.le_refl _) _
  go_enter Tryz.func67, Tryz.ntmps67
  go_wp2_with (first
    | (refine wpList_insert_own _ rfl _ _ _ 75 rfl 9 2 lawS Tryz.underlying75 _ w.heap.size 0 _ rfl h0 (by unfold maxLen; omega) _ _ _ rfl rfl (key_of [98, 108, 97, 99, 107] (by decide)) _ [] (plainElem_int Tryz.underlying2 (wfc (by omega) (by omega))) ?_; intro w1 h1 g1
       have b1 := b0.grown g1 b0.size (fun j hj => by cases hj; exact Nat.le_refl _))
    | (refine wpList_insert_own _ rfl _ _ _ 75 rfl 9 2 lawS Tryz.underlying75 _ w.heap.size 1 _ rfl h1 (by unfold maxLen; omega) _ _ _ rfl rfl (key_of [119, 104, 105, 116, 101] (by decide)) _ [] (plainElem_int Tryz.underlying2 (wfc (by omega) (by omega))) ?_; intro w2 h2 g2
       have b2 := b1.grown g2 b1.size (fun j hj => by cases hj; exact Nat.le_refl _))
    | (refine wpList_insert_own _ rfl _ _ _ 75 rfl 9 2 lawS Tryz.underlying75 _ w.heap.size 2 _ rfl h2 (by unfold maxLen; omega) _ _ _ rfl rfl (key_of [114, 101, 100] (by decide)) _ [] (plainElem_int Tryz.underlying2 (wfc (by omega) (by omega))) ?_; intro w3 h3 g3
       have b3 := b2.grown g3 b2.size (fun j hj => by cases hj; exact Nat.le_refl _))
    | (refine wpList_insert_own _ rfl _ _ _ 75 rfl 9 2 lawS Tryz.underlying75 _ w.heap.size 3 _ rfl h3 (by unfold maxLen; omega) _ _ _ rfl rfl (key_of [103, 114, 101, 101, 110] (by decide)) _ [] (plainElem_int Tryz.underlying2 (wfc (by omega) (by omega))) ?_; intro w4 h4 g4
       have b4 := b3.grown g4 b3.size (fun j hj => by cases hj; exact Nat.le_refl _))
    | (refine wpList_insert_own _ rfl _ _ _ 75 rfl 9 2 lawS Tryz.underlying75 _ w.heap.size 4 _ rfl h4 (by unfold maxLen; omega) _ _ _ rfl rfl (key_of [98, 108, 117, 101] (by decide)) _ [] (plainElem_int Tryz.underlying2 (wfc (by omega) (by omega))) ?_; intro w5 h5 g5
       have b5 := b4.grown g5 b4.size (fun j hj => by cases hj; exact Nat.le_refl _))
    | go_in)
  go_ret
  exact ⟨rfl, h5, b5⟩
theorem ne_key {a b : List UInt8} (h : ¬ a = b) : (Lit.string a) ≠ (Lit.string b) := fun e => h (by injection e)
/-- What is asked of colors' map. -/
theorem col_at (l : List UInt8) : has colD5 (.string l) = (colorsT.lookup l).isSome ∧ colD5.atKey (.string l) (.lit (.int .i64 0)) = .lit (.int .i64 (((colorsT.lookup l).getD 0 : Nat) : Int)) := by
  have m0 : IsMap colD0 := isMap_empty
  have m1 : IsMap colD1 := m0.put _ _
  have m2 : IsMap colD2 := m1.put _ _
  have m3 : IsMap colD3 := m2.put _ _
  have m4 : IsMap colD4 := m3.put _ _
  have hk : ∀ l, WideAt.IsKeyLit (.string l) := fun _ => trivial
  unfold colorsT
  by_cases e5 : l = [98, 108, 117, 101]
  · subst e5
    exact ⟨has_put_same m4 (hk _) _, atKey_put_same m4 (hk _) _ _⟩
  rw [has_put_other (ne_key e5), atKey_put_other (ne_key e5)]
  by_cases e4 : l = [103, 114, 101, 101, 110]
  · subst e4
    exact ⟨has_put_same m3 (hk _) _, atKey_put_same m3 (hk _) _ _⟩
  rw [has_put_other (ne_key e4), atKey_put_other (ne_key e4)]
  by_cases e3 : l = [114, 101, 100]
  · subst e3
    exact ⟨has_put_same m2 (hk _) _, atKey_put_same m2 (hk _) _ _⟩
  rw [has_put_other (ne_key e3), atKey_put_other (ne_key e3)]
  by_cases e2 : l = [119, 104, 105, 116, 101]
  · subst e2
    exact ⟨has_put_same m1 (hk _) _, atKey_put_same m1 (hk _) _ _⟩
  rw [has_put_other (ne_key e2), atKey_put_other (ne_key e2)]
  by_cases e1 : l = [98, 108, 97, 99, 107]
  · subst e1
    exact ⟨has_put_same m0 (hk _) _, atKey_put_same m0 (hk _) _ _⟩
  rw [has_put_other (ne_key e1), atKey_put_other (ne_key e1)]
  have q : ∀ a : List UInt8, ¬ l = a → (l == a) = false := fun a h => by rw [beq_eq_false_iff_ne]; exact h
  simp only [List.lookup, q _ e1, q _ e2, q _ e3, q _ e4, q _ e5]
  exact ⟨rfl, rfl⟩
end Val
end Go.Proofs.YtcacabpcobmgoaaGreatDoor
namespace Go.Proofs.YtcacabpcobmgoaaGreatDoor
open Go.ChangeShapes Go.WideShapes Go.ChangeAt Go.RowKit Go.Maps
namespace Val
def okV (r : Option Int) (e : Ending) : Prop := match r with
  | some n => e = .returned (.tuple #[.int .i64 n, .bool true])
  | none => ∃ n, e = .returned (.tuple #[.int .i64 n, .bool false])
theorem low_tail {l t : List UInt8} {c : UInt8} (h : lowL l = l) (e : l = c :: t) : lowL t = t := by
  subst e
  exact (List.cons.inj (show lowC c :: lowL t = c :: t from h)).2
theorem color_else {l : List UInt8} (hl : lowL l = l) (h : colorsT.lookup l = none) :
    colorL l = if Lib.hasPrefix l [35] = true ∧ (Lib.trimPrefix l [35]).length = 6 then puF 16 (Lib.trimPrefix l [35]) else none := by
  unfold colorL
  rw [h]
  simp only
  cases l with
  | nil => rw [if_neg (by rintro ⟨q, _⟩; revert q; decide)]
  | cons c t =>
    simp only
    have ht := low_tail hl rfl
    by_cases hc : c = 35
    · subst hc
      have hp : Lib.hasPrefix ((35 : UInt8) :: t) [35] = true := by simp [Lib.hasPrefix, List.isPrefixOf]
      have ht2 : Lib.trimPrefix ((35 : UInt8) :: t) [35] = t := by unfold Lib.trimPrefix; rw [if_pos hp]; rfl
      rw [ht2, hp]
      by_cases h6 : t.length = 6
      · rw [if_pos ⟨rfl, h6⟩, if_pos ⟨rfl, h6⟩]
        unfold puF
        rw [if_neg (by rintro rfl; cases h6), puV_hex _ _ ht]
      · rw [if_neg (fun q => h6 q.2), if_neg (fun q => h6 q.2)]
    · have hp : Lib.hasPrefix (c :: t) [35] = false := by
        simp only [Lib.hasPrefix, List.isPrefixOf, Bool.and_true]
        rw [beq_eq_false_iff_ne]
        exact fun e => hc e.symm
      rw [hp, if_neg (fun q => hc q.1), if_neg (fun q => by cases q.1)]
theorem hex_lt {t : List UInt8} {n : Nat} (h6 : t.length = 6) (h : puF 16 t = some n) : n < 16777216 := by
  unfold puF at h
  split at h
  · cases h
  · have := puV_lt (by omega) t 0 n 0 (by omega) (fun c d => dgv_16) h
    rw [h6] at this
    exact this
set_option maxRecDepth 100000 in
set_option maxHeartbeats 8000000 in
theorem readColor_any (s : ByteArray) (hs : s.size ≤ mostB) (hl : lowL s.data.toList = s.data.toList) (w : World) (hT : Tabs w) :
    Calls Tryz.prog 40 #[.string s] w fun e w' => okV (Option.map (fun n : Nat => (n : Int)) (colorL s.data.toList)) e ∧ Below w.heap.size w w' := by
  have c1 := fun w => colors_any w
  have hcol := col_at s.data.toList
  have hkey := WideMaps.keyOf_string_mk (P := Tryz.prog) Tryz.underlying9 (s := s) (by unfold mostB at hs; unfold maxLen; omega)
  have c2 := fun w => cutPre s 35 w
  cases hk : colorsT.lookup s.data.toList with
  | some n =>
    have e : colorL s.data.toList = some n := by unfold colorL; rw [hk]
    rw [e]
    rw [hk] at hcol
    obtain ⟨hc1, hc2⟩ := hcol
    simp only [Option.isSome_some, Option.getD_some] at hc1 hc2
    clear e hk hl
    simp only [Option.map_some, okV]
    go_enter Tryz.func40, Tryz.ntmps40
    go_wp2_with (first
      | (go_at_call 67; (with_reducible refine (c1 _).mono ?_); rintro e w1 ⟨rfl, hown, hb⟩)
      | (at_lookup; refine wpList_lookup_own_ok_int _ rfl _ _ 75 rfl 9 2 .i64 lawS Tryz.underlying75 Tryz.underlying2 (zeroL _) w.heap.size 5 colD5 rfl hown _ _ rfl hkey ?_
         intro c hat hwc
         obtain rfl : (n : Int) = c := by rw [hc2] at hat; injection hat with h; injection h
         rw [hc1]
         clear hat hwc)
      | go_in)
    go_ret2
    exact ⟨rfl, hb⟩
  | none =>
    rw [color_else hl hk]
    rw [hk] at hcol
    obtain ⟨hc1, _⟩ := hcol
    simp only [Option.isSome_none] at hc1
    have hsz := toB_size (Lib.trimPrefix s.data.toList [35])
    have c3 := fun h w hT => pub_16 (toB (Lib.trimPrefix s.data.toList [35])) h w hT
    have hlt := fun n h6 h => hex_lt (t := Lib.trimPrefix s.data.toList [35]) (n := n) h6 h
    rw [toB_list] at c3
    generalize puF 16 (Lib.trimPrefix s.data.toList [35]) = r at *
    generalize Lib.trimPrefix s.data.toList [35] = t at *
    generalize Lib.hasPrefix s.data.toList [35] = b at *
    obtain ⟨d, hd⟩ : ∃ d, d = toB t := ⟨_, rfl⟩
    rw [← hd] at c2 c3 hsz
    clear hd hk hl hs
    cases b with
    | false =>
      rw [if_neg (fun q => by cases q.1)]
      simp only [Option.map_none, okV]
      clear c3 hlt
      go_enter Tryz.func40, Tryz.ntmps40
      go_wp2_with (first
        | (go_at_call 67; (with_reducible refine (c1 _).mono ?_); rintro e w1 ⟨rfl, hown, hb⟩)
        | (go_at_call 68; (with_reducible refine (c2 _).mono ?_); rintro e w2 ⟨rfl, rfl⟩)
        | (at_lookup; refine wpList_lookup_own_ok_int _ rfl _ _ 75 rfl 9 2 .i64 lawS Tryz.underlying75 Tryz.underlying2 (zeroL _) w.heap.size 5 colD5 rfl hown _ _ rfl hkey ?_
           intro c hat hwc
           rw [hc1]
           clear hat hwc)
        | go_in)
      go_ret2
      exact ⟨⟨_, rfl⟩, hb⟩
    | true =>
      by_cases h6 : t.length = 6
      · rw [if_pos ⟨rfl, h6⟩]
        have hd6 : d.size = 6 := by omega
        have c3 := fun w hT => c3 (by omega) w hT
        cases r with
        | some n =>
          have hn := hlt n h6 rfl
          simp only [pubP] at c3
          simp only [Option.map_some, okV]
          have hn0 : (0 : Int) ≤ (n : Int) := Int.natCast_nonneg _
          have hn1 : (n : Int) < 16777216 := by omega
          clear hlt hn hsz h6
          go_enter Tryz.func40, Tryz.ntmps40
          go_wp2_with (first
            | (go_at_call 67; (with_reducible refine (c1 _).mono ?_); rintro e w1 ⟨rfl, hown, hb⟩
               have hT1 := hT.at_ hb)
            | (go_at_call 68; (with_reducible refine (c2 _).mono ?_); rintro e w2 ⟨rfl, rfl⟩)
            | (go_at_call 69; (with_reducible refine (c3 _ hT1).mono ?_); rintro e w3 ⟨rfl, hb3⟩
               have hB3 := below_next hb hb3)
            | (at_lookup; refine wpList_lookup_own_ok_int _ rfl _ _ 75 rfl 9 2 .i64 lawS Tryz.underlying75 Tryz.underlying2 (zeroL _) w.heap.size 5 colD5 rfl hown _ _ rfl hkey ?_
               intro c hat hwc
               rw [hc1]
               clear hat hwc)
            | go_in)
          go_quiet (fail)
          go_wp2
          go_ret2
          exact ⟨rfl, below_dr hB3 _⟩
        | none =>
          simp only [pubP] at c3
          simp only [Option.map_none, okV]
          clear hlt hsz h6
          go_enter Tryz.func40, Tryz.ntmps40
          go_wp2_with (first
            | (go_at_call 67; (with_reducible refine (c1 _).mono ?_); rintro e w1 ⟨rfl, hown, hb⟩
               have hT1 := hT.at_ hb)
            | (go_at_call 68; (with_reducible refine (c2 _).mono ?_); rintro e w2 ⟨rfl, rfl⟩)
            | (go_at_call 69; (with_reducible refine (c3 _ hT1).mono ?_); rintro e w3 ⟨⟨tp, p, rfl⟩, hb3⟩
               have hB3 := below_next hb hb3)
            | (at_lookup; refine wpList_lookup_own_ok_int _ rfl _ _ 75 rfl 9 2 .i64 lawS Tryz.underlying75 Tryz.underlying2 (zeroL _) w.heap.size 5 colD5 rfl hown _ _ rfl hkey ?_
               intro c hat hwc
               rw [hc1]
               clear hat hwc)
            | go_in)
          go_quiet (fail)
          go_wp2
          go_ret2
          exact ⟨⟨_, rfl⟩, below_dr hB3 _⟩
      · rw [if_neg (fun q => h6 q.2)]
        simp only [Option.map_none, okV]
        have hd6 : ¬ d.size = 6 := by omega
        clear c3 hlt hsz h6
        go_enter Tryz.func40, Tryz.ntmps40
        go_wp2_with (first
          | (go_at_call 67; (with_reducible refine (c1 _).mono ?_); rintro e w1 ⟨rfl, hown, hb⟩)
          | (go_at_call 68; (with_reducible refine (c2 _).mono ?_); rintro e w2 ⟨rfl, rfl⟩)
          | (at_lookup; refine wpList_lookup_own_ok_int _ rfl _ _ 75 rfl 9 2 .i64 lawS Tryz.underlying75 Tryz.underlying2 (zeroL _) w.heap.size 5 colD5 rfl hown _ _ rfl hkey ?_
             intro c hat hwc
             rw [hc1]
             clear hat hwc)
          | go_in)
        go_ret2
        exact ⟨⟨_, rfl⟩, hb⟩
end Val
end Go.Proofs.YtcacabpcobmgoaaGreatDoor
