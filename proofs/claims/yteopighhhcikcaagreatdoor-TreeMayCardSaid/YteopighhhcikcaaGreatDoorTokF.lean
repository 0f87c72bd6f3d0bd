/- token's readOpening, readClosing and first over bytes that lie in memory. Conditions: the bytes lie in memory, and are not too many. -/
import Derived.Test.YteopighhhcikcaaGreatDoorTokE
import Derived.Laws.EntriesVeiled
namespace Go.Proofs.YteopighhhcikcaaGreatDoor
open Go.ChangeShapes Go.WideShapes Go.ChangeAt Go.RowKit
namespace Tok
open RowG (Row)
theorem openP_begin (l : List UInt8) : openP l = match beginP [60] l with
    | none => none
    | some (n, r) => match endP (attrsP [] r).2 with
      | none => none
      | some b => some (⟨1, n, [], (attrsP [] r).1⟩, b) := by
  unfold beginP
  cases l with
  | nil => rfl
  | cons c t =>
    by_cases h : c = 60
    · subst h
      have e : ([60] : List UInt8).isPrefixOf (60 :: t) = true := by simp [List.isPrefixOf]
      rw [if_pos e]
      rfl
    · have e : ([60] : List UInt8).isPrefixOf (c :: t) = false := by
        have : ((60 : UInt8) == c) = false := beq_eq_false_iff_ne.2 (fun e => h e.symm)
        simp [List.isPrefixOf, this]
      rw [if_neg (by rw [e]; decide)]
      unfold openP
      split
      · rename_i e2; injection e2 with e2; exact absurd e2 h
      · rfl
theorem shutP_begin (l : List UInt8) : shutP l = match beginP [60, 47] l with
    | none => none
    | some (n, r) => match endP r with
      | none => none
      | some b => some (⟨2, n, [], []⟩, b) := by
  unfold beginP
  by_cases hp : ([60, 47] : List UInt8).isPrefixOf l = true
  · obtain ⟨q, rfl⟩ := List.isPrefixOf_iff_prefix.1 hp
    rw [if_pos hp]
    rfl
  · rw [if_neg hp]
    unfold shutP
    split
    · simp [List.isPrefixOf] at hp
    · rfl
/-- A token's value: its attributes lie in a row of the call's own. -/
def TkV (w : World) (base : Nat) (v : Value) (t : T) : Prop := ∃ A c, v = .agg #[.int .i64 t.kind, .string (toB t.name), .string (toB t.text), .slice A t.attrs.length c] ∧ Row w base 41 2 atC (.slice A t.attrs.length c) t.attrs
theorem row_le {w : World} {base base' k : Nat} {e : TypeId} {α : Type} {enc : α → List Value} {v : Value} {l : List α} (h : Row w base e k enc v l) (hb : base' ≤ base) : Row w base' e k enc v l :=
  ⟨h.1, h.2.elim Or.inl (fun ⟨g, cap, cur, hv, hg, r⟩ => Or.inr ⟨g, cap, cur, hv, Nat.le_trans hb hg, r⟩)⟩
theorem TkV.next {w w' : World} {B : Nat} {v : Value} {t : T} (h : TkV w B v t) (hb : Below w.heap.size w w') : TkV w' B v t := by
  obtain ⟨A, c, e, h⟩ := h
  exact ⟨A, c, e, h.below hb⟩
theorem TkV.less {w : World} {B B' : Nat} {v : Value} {t : T} (h : TkV w B v t) (hb : B' ≤ B) : TkV w B' v t := by
  obtain ⟨A, c, e, h⟩ := h
  exact ⟨A, c, e, row_le h hb⟩
def tk0 : Value := .agg #[.int .i64 0, .string ⟨#[]⟩, .string ⟨#[]⟩, .slice none 0 0]
/-- What readOpening, readClosing and first answer. -/
def FiV (w : World) (base g : Nat) (x : Option (T × List UInt8)) (e : Ending) : Prop := match x with
  | none => e = .returned (.tuple #[tk0, .slice none 0 0, .bool false])
  | some (t, r) => ∃ vt v, e = .returned (.tuple #[vt, v, .bool true]) ∧ TkV w base vt t ∧ LfV w g v r
theorem row_far {w : World} {base k : Nat} {e : TypeId} {α : Type} {enc : α → List Value} {v : Value} {l : List α} (h : Row w base e k enc v l) {p : Addr} (hp : p.block < base) (x : Value) : Row (w.setCell p x) base e k enc v l := ownsRow_setCell_below h hp x
theorem LfV.far {w : World} {g : Nat} {v : Value} {l : List UInt8} (h : LfV w g v l) {p : Addr} (hp : g ≠ p.block) (x : Value) : LfV (w.setCell p x) g v l := by
  obtain ⟨o, c, e, hc, h⟩ := h
  exact ⟨o, c, e, hc, h.far hp x⟩
set_option maxRecDepth 100000 in
set_option maxHeartbeats 8000000 in
theorem readOpening_any (g : Nat) (v : Value) (l : List UInt8) (hl : l.length ≤ 1000000) (w : World) (h : LfV w g v l) :
    Calls Tryz.prog 116 #[v] w fun e w' => FiV w' w.heap.size g (openP l) e ∧ Below w.heap.size w w' := by
  have hB1 := below_al (Below.refl w.heap.size w) (.cells #[.int .i64 0, .string ⟨#[]⟩, .string ⟨#[]⟩, .slice none 0 0] 38)
  have h1 := h.next hB1
  have hgw := Nat.ne_of_lt h.lt
  have K1 := Blk.new w 38 #[.int .i64 0, .string ⟨#[]⟩, .string ⟨#[]⟩, .slice none 0 0]
  have cb := readBegin_any g v l [60] hl (by decide) _ h1
  rw [show toB [60] = ⟨#[60]⟩ from rfl] at cb
  rw [openP_begin]
  cases hn : beginP [60] l with
  | none =>
    rw [hn] at cb
    have cb2 : Calls Tryz.prog 135 #[v, .string ⟨#[60]⟩] (w.alloc (.cells #[.int .i64 0, .string ⟨#[]⟩, .string ⟨#[]⟩, .slice none 0 0] 38)) fun e w' => e = .returned (.tuple #[.string ⟨#[]⟩, .slice none 0 0, .bool false]) ∧ Below _ _ w' := cb
    clear cb hn h h1
    show Calls _ _ _ _ (fun e w' => e = .returned (.tuple #[.agg #[.int .i64 0, .string ⟨#[]⟩, .string ⟨#[]⟩, .slice none 0 0], .slice none 0 0, .bool false]) ∧ _)
    go_enter Tryz.func116, Tryz.ntmps116
    go_wp2_with (go_at_call 135; (with_reducible refine cb2.mono ?_); rintro e w4 ⟨rfl, hb4⟩
                 have K4 := K1.next hb4
                 obtain ⟨k0, k1, k2, k3⟩ := blk4 K4
                 obtain ⟨f0, f1, f2, f3⟩ := fz4 K4
                 have hB4 := below_next hB1 hb4)
    exact bodyPost_ret (v := .tuple #[.agg #[.int .i64 0, .string ⟨#[]⟩, .string ⟨#[]⟩, .slice none 0 0], .slice none 0 0, .bool false]) (by simp [results, Tryz.results116, go_sem, k0, k1, k2, k3]) rfl ⟨rfl, below_set4 hB4 (Nat.le_refl _) _ _ _ _⟩
  | some x =>
    obtain ⟨nx, r⟩ := x
    rw [hn] at cb
    have cb2 : Calls Tryz.prog 135 #[v, .string ⟨#[60]⟩] (w.alloc (.cells #[.int .i64 0, .string ⟨#[]⟩, .string ⟨#[]⟩, .slice none 0 0] 38)) fun e w' => (∃ v', e = .returned (.tuple #[.string (toB nx), v', .bool true]) ∧ LfV w' g v' r) ∧ Below _ _ w' := cb
    have hrl : r.length ≤ 1000000 := by
      unfold beginP at hn
      split at hn
      · have := (nameP_len hn).1
        rw [List.length_drop] at this
        omega
      · cases hn
    have car := fun v w h => readAttrs_any g v r hrl w h
    have hal := attrsP_len r.length [] r (Nat.le_refl _)
    have ce := fun v w h => readEnd_any g v (attrsP [] r).2 (by omega) w h
    simp only
    generalize (attrsP [] r).2 = r2 at *
    generalize (attrsP [] r).1 = ats at *
    clear cb hn h h1
    cases he : endP r2 with
    | none =>
      rw [he] at ce
      have ce2 : ∀ v w, LfV w g v r2 → Calls Tryz.prog 137 #[v] w fun e w' => e = .returned (.tuple #[.slice none 0 0, .bool false]) ∧ w = w' := ce
      clear ce he
      show Calls _ _ _ _ (fun e w' => e = .returned (.tuple #[.agg #[.int .i64 0, .string ⟨#[]⟩, .string ⟨#[]⟩, .slice none 0 0], .slice none 0 0, .bool false]) ∧ _)
      go_enter Tryz.func116, Tryz.ntmps116
      go_wp2_with (first
        | (go_at_call 135; (with_reducible refine cb2.mono ?_); rintro e w4 ⟨⟨v4, rfl, hv4⟩, hb4⟩
           have K4 := K1.next hb4
           have hB4 := below_next hB1 hb4)
        | (go_at_call 136; (with_reducible refine (car _ _ hv4).mono ?_); rintro e w5 ⟨⟨va, v5, rfl, hrow5, hv5⟩, hb5⟩
           have K5 := K4.next hb5
           have hB5 := below_next hB4 hb5
           obtain ⟨k0, k1, k2, k3⟩ := blk4 K5
           obtain ⟨f0, f1, f2, f3⟩ := fz4 K5)
        | (go_at_call 137; (with_reducible refine (ce2 _ _ hv5).mono ?_); rintro e w6 ⟨rfl, rfl⟩))
      exact bodyPost_ret (v := .tuple #[.agg #[.int .i64 0, .string ⟨#[]⟩, .string ⟨#[]⟩, .slice none 0 0], .slice none 0 0, .bool false]) (by simp [results, Tryz.results116, go_sem, k0, k1, k2, k3]) rfl ⟨rfl, below_set4 hB5 (Nat.le_refl _) _ _ _ _⟩
    | some b =>
      rw [he] at ce
      have ce2 : ∀ v w, LfV w g v r2 → Calls Tryz.prog 137 #[v] w fun e w' => (∃ v', e = .returned (.tuple #[v', .bool true]) ∧ LfV w' g v' b) ∧ w = w' := ce
      clear ce he
      show Calls _ _ _ _ (fun e w' => (∃ vt v, e = .returned (.tuple #[vt, v, .bool true]) ∧ TkV w' w.heap.size vt ⟨1, nx, [], ats⟩ ∧ LfV w' g v b) ∧ _)
      obtain ⟨tn, htn⟩ : ∃ tn, tn = toB nx := ⟨_, rfl⟩
      rw [← htn] at cb2
      have HTN := Lib.hid htn
      clear htn
      go_enter Tryz.func116, Tryz.ntmps116
      go_wp2_with (first
        | (go_at_call 135; (with_reducible refine cb2.mono ?_); rintro e w4 ⟨⟨v4, rfl, hv4⟩, hb4⟩
           have K4 := K1.next hb4
           have hB4 := below_next hB1 hb4)
        | (go_at_call 136; (with_reducible refine (car _ _ hv4).mono ?_); rintro e w5 ⟨⟨va, v5, rfl, hrow5, hv5⟩, hb5⟩
           have K5 := K4.next hb5
           have hB5 := below_next hB4 hb5
           obtain ⟨k0, k1, k2, k3⟩ := blk4 K5
           obtain ⟨f0, f1, f2, f3⟩ := fz4 K5
           obtain ⟨A5, c5, rfl⟩ := hrow5.form)
        | (go_at_call 137; (with_reducible refine (ce2 _ _ hv5).mono ?_); rintro e w6 ⟨⟨v6, rfl, hv6⟩, rfl⟩
           obtain ⟨o6, c6, rfl, hc6, hL6⟩ := hv6))
      have hrow := row_far (row_far (row_far (row_far hrow5 (p := ⟨w.heap.size, 0, none⟩) K4.lt (.int .i64 1)) (p := ⟨w.heap.size, 1, none⟩) K4.lt (.string tn)) (p := ⟨w.heap.size, 2, none⟩) K4.lt (.string ⟨#[]⟩)) (p := ⟨w.heap.size, 3, none⟩) K4.lt (.slice A5 ats.length c5)
      have hLf := (((hL6.far (p := ⟨w.heap.size, 0, none⟩) hgw (.int .i64 1)).far (p := ⟨w.heap.size, 1, none⟩) hgw (.string tn)).far (p := ⟨w.heap.size, 2, none⟩) hgw (.string ⟨#[]⟩)).far (p := ⟨w.heap.size, 3, none⟩) hgw (.slice A5 ats.length c5)
      refine bodyPost_ret (v := .tuple #[.agg #[.int .i64 1, .string tn, .string ⟨#[]⟩, .slice A5 ats.length c5], .slice (some ⟨g, o6, none⟩) b.length c6, .bool true]) (by simp [results, Tryz.results116, go_sem, k0, k1, k2, k3]) rfl ⟨⟨_, _, rfl, ⟨A5, c5, by rw [HTN.out]; rfl, row_le hrow hB4.size⟩, o6, c6, rfl, hc6, hLf⟩, below_set4 hB5 (Nat.le_refl _) _ _ _ _⟩
set_option maxRecDepth 100000 in
set_option maxHeartbeats 8000000 in
theorem readClosing_any (g : Nat) (v : Value) (l : List UInt8) (hl : l.length ≤ 1000000) (w : World) (h : LfV w g v l) :
    Calls Tryz.prog 117 #[v] w fun e w' => FiV w' w.heap.size g (shutP l) e ∧ Below w.heap.size w w' := by
  have hB1 := below_al (Below.refl w.heap.size w) (.cells #[.int .i64 0, .string ⟨#[]⟩, .string ⟨#[]⟩, .slice none 0 0] 38)
  have h1 := h.next hB1
  have hgw := Nat.ne_of_lt h.lt
  have K1 := Blk.new w 38 #[.int .i64 0, .string ⟨#[]⟩, .string ⟨#[]⟩, .slice none 0 0]
  have cb := readBegin_any g v l [60, 47] hl (by decide) _ h1
  rw [show toB [60, 47] = ⟨#[60, 47]⟩ from rfl] at cb
  rw [shutP_begin]
  cases hn : beginP [60, 47] l with
  | none =>
    rw [hn] at cb
    have cb2 : Calls Tryz.prog 135 #[v, .string ⟨#[60, 47]⟩] (w.alloc (.cells #[.int .i64 0, .string ⟨#[]⟩, .string ⟨#[]⟩, .slice none 0 0] 38)) fun e w' => e = .returned (.tuple #[.string ⟨#[]⟩, .slice none 0 0, .bool false]) ∧ Below _ _ w' := cb
    clear cb hn h h1
    show Calls _ _ _ _ (fun e w' => e = .returned (.tuple #[.agg #[.int .i64 0, .string ⟨#[]⟩, .string ⟨#[]⟩, .slice none 0 0], .slice none 0 0, .bool false]) ∧ _)
    go_enter Tryz.func117, Tryz.ntmps117
    go_wp2_with (go_at_call 135; (with_reducible refine cb2.mono ?_); rintro e w4 ⟨rfl, hb4⟩
                 have K4 := K1.next hb4
                 obtain ⟨k0, k1, k2, k3⟩ := blk4 K4
                 obtain ⟨f0, f1, f2, f3⟩ := fz4 K4
                 have hB4 := below_next hB1 hb4)
    exact bodyPost_ret (v := .tuple #[.agg #[.int .i64 0, .string ⟨#[]⟩, .string ⟨#[]⟩, .slice none 0 0], .slice none 0 0, .bool false]) (by simp [results, Tryz.results117, go_sem, k0, k1, k2, k3]) rfl ⟨rfl, below_set4 hB4 (Nat.le_refl _) _ _ _ _⟩
  | some x =>
    obtain ⟨nx, r⟩ := x
    rw [hn] at cb
    have cb2 : Calls Tryz.prog 135 #[v, .string ⟨#[60, 47]⟩] (w.alloc (.cells #[.int .i64 0, .string ⟨#[]⟩, .string ⟨#[]⟩, .slice none 0 0] 38)) fun e w' => (∃ v', e = .returned (.tuple #[.string (toB nx), v', .bool true]) ∧ LfV w' g v' r) ∧ Below _ _ w' := cb
    have hrl : r.length ≤ 1000000 := by
      unfold beginP at hn
      split at hn
      · have := (nameP_len hn).1
        rw [List.length_drop] at this
        omega
      · cases hn
    have ce := fun v w h => readEnd_any g v r hrl w h
    simp only
    clear cb hn h h1
    cases he : endP r with
    | none =>
      rw [he] at ce
      have ce2 : ∀ v w, LfV w g v r → Calls Tryz.prog 137 #[v] w fun e w' => e = .returned (.tuple #[.slice none 0 0, .bool false]) ∧ w = w' := ce
      clear ce he
      show Calls _ _ _ _ (fun e w' => e = .returned (.tuple #[.agg #[.int .i64 0, .string ⟨#[]⟩, .string ⟨#[]⟩, .slice none 0 0], .slice none 0 0, .bool false]) ∧ _)
      go_enter Tryz.func117, Tryz.ntmps117
      go_wp2_with (first
        | (go_at_call 135; (with_reducible refine cb2.mono ?_); rintro e w4 ⟨⟨v4, rfl, hv4⟩, hb4⟩
           have K4 := K1.next hb4
           have hB4 := below_next hB1 hb4
           obtain ⟨k0, k1, k2, k3⟩ := blk4 K4
           obtain ⟨f0, f1, f2, f3⟩ := fz4 K4)
        | (go_at_call 137; (with_reducible refine (ce2 _ _ hv4).mono ?_); rintro e w6 ⟨rfl, rfl⟩))
      exact bodyPost_ret (v := .tuple #[.agg #[.int .i64 0, .string ⟨#[]⟩, .string ⟨#[]⟩, .slice none 0 0], .slice none 0 0, .bool false]) (by simp [results, Tryz.results117, go_sem, k0, k1, k2, k3]) rfl ⟨rfl, below_set4 hB4 (Nat.le_refl _) _ _ _ _⟩
    | some b =>
      rw [he] at ce
      have ce2 : ∀ v w, LfV w g v r → Calls Tryz.prog 137 #[v] w fun e w' => (∃ v', e = .returned (.tuple #[v', .bool true]) ∧ LfV w' g v' b) ∧ w = w' := ce
      clear ce he
      show Calls _ _ _ _ (fun e w' => (∃ vt v, e = .returned (.tuple #[vt, v, .bool true]) ∧ TkV w' w.heap.size vt ⟨2, nx, [], []⟩ ∧ LfV w' g v b) ∧ _)
      obtain ⟨tn, htn⟩ : ∃ tn, tn = toB nx := ⟨_, rfl⟩
      rw [← htn] at cb2
      have HTN := Lib.hid htn
      clear htn
      go_enter Tryz.func117, Tryz.ntmps117
      go_wp2_with (first
        | (go_at_call 135; (with_reducible refine cb2.mono ?_); rintro e w4 ⟨⟨v4, rfl, hv4⟩, hb4⟩
           have K4 := K1.next hb4
           have hB4 := below_next hB1 hb4
           obtain ⟨k0, k1, k2, k3⟩ := blk4 K4
           obtain ⟨f0, f1, f2, f3⟩ := fz4 K4)
        | (go_at_call 137; (with_reducible refine (ce2 _ _ hv4).mono ?_); rintro e w6 ⟨⟨v6, rfl, hv6⟩, rfl⟩
           obtain ⟨o6, c6, rfl, hc6, hL6⟩ := hv6))
      have hLf := (((hL6.far (p := ⟨w.heap.size, 0, none⟩) hgw (.int .i64 2)).far (p := ⟨w.heap.size, 1, none⟩) hgw (.string tn)).far (p := ⟨w.heap.size, 2, none⟩) hgw (.string ⟨#[]⟩)).far (p := ⟨w.heap.size, 3, none⟩) hgw (.slice none 0 0)
      refine bodyPost_ret (v := .tuple #[.agg #[.int .i64 2, .string tn, .string ⟨#[]⟩, .slice none 0 0], .slice (some ⟨g, o6, none⟩) b.length c6, .bool true]) (by simp [results, Tryz.results117, go_sem, k0, k1, k2, k3]) rfl ⟨⟨_, _, rfl, ⟨none, 0, by rw [HTN.out]; rfl, RowG.Row.nil _ _ _ _ _⟩, o6, c6, rfl, hc6, hLf⟩, below_set4 hB4 (Nat.le_refl _) _ _ _ _⟩
def trialsV : Value := .agg #[.func (.func 116) #[] #[], .func (.func 117) #[] #[]]
theorem trials_any (w : World) : Calls Tryz.prog 89 #[] w fun e w' => e = .returned trialsV ∧ Below w.heap.size w w' := by
  go_enter Tryz.func89, Tryz.ntmps89
  go_wp2
  exact bodyPost_ret (v := trialsV) (by simp [results, Tryz.results89, go_sem, trialsV]) rfl ⟨rfl, below_al (Below.refl _ _) _⟩
theorem trial0 (w : World) : (Instr.index 111 trialsV (.int .i64 0)).run Tryz.prog w = .ok (.agg #[.func (.func 116) #[] #[]]) w := by kernel_rfl
theorem trial1 (w : World) : (Instr.index 111 trialsV (.int .i64 1)).run Tryz.prog w = .ok (.agg #[.func (.func 117) #[] #[]]) w := by kernel_rfl
theorem tkV_far {w : World} {base : Nat} {v : Value} {t : T} (h : TkV w base v t) {p : Addr} (hp : p.block < base) (x : Value) : TkV (w.setCell p x) base v t := by
  obtain ⟨A, c, e, h⟩ := h
  exact ⟨A, c, e, row_far h hp x⟩
theorem tkV_form {w : World} {B : Nat} {v : Value} {t : T} (h : TkV w B v t) : ∃ (k : Int) (a b : ByteArray) (A : Option Addr) (m c : Nat), v = .agg #[.int .i64 k, .string a, .string b, .slice A m c] ∧ TkV w B (.agg #[.int .i64 k, .string a, .string b, .slice A m c]) t := by
  obtain ⟨A, c, rfl, h⟩ := h
  exact ⟨_, _, _, _, _, _, rfl, A, c, rfl, h⟩
set_option maxRecDepth 100000 in
set_option maxHeartbeats 8000000 in
theorem first_any (g : Nat) (v : Value) (l : List UInt8) (hl : l.length ≤ 1000000) (w : World) (h : LfV w g v l) :
    Calls Tryz.prog 51 #[v] w fun e w' => FiV w' w.heap.size g (firstP l) e ∧ Below w.heap.size w w' := by
  have hB1 := below_al (Below.refl w.heap.size w) (.cells #[.int .i64 0, .string ⟨#[]⟩, .string ⟨#[]⟩, .slice none 0 0] 38)
  have h1 := h.next hB1
  have hgw := Nat.ne_of_lt h.lt
  have K1 := Blk.new w 38 #[.int .i64 0, .string ⟨#[]⟩, .string ⟨#[]⟩, .slice none 0 0]
  have ct := fun w => trials_any w
  have i0 := trial0
  have i1 := trial1
  unfold trialsV at ct i0 i1
  have co := fun w h => readOpening_any g v l hl w h
  have cs := fun w h => readClosing_any g v l hl w h
  unfold firstP
  cases hO : openP l with
  | some x =>
    obtain ⟨t, r⟩ := x
    rw [hO] at co
    have co2 : ∀ w, LfV w g v l → Calls Tryz.prog 116 #[v] w fun e w' => (∃ vt v, e = .returned (.tuple #[vt, v, .bool true]) ∧ TkV w' w.heap.size vt t ∧ LfV w' g v r) ∧ Below w.heap.size w w' := co
    clear co cs hO
    show Calls _ _ _ _ (fun e w' => (∃ vt v, e = .returned (.tuple #[vt, v, .bool true]) ∧ TkV w' w.heap.size vt t ∧ LfV w' g v r) ∧ _)
    go_enter Tryz.func51, Tryz.ntmps51
    go_wp2_with (go_at_call 89; (with_reducible refine (ct _).mono ?_); rintro e w2 ⟨rfl, hb2⟩
                 have K2 := K1.next hb2
                 have hB2 := below_next hB1 hb2
                 have h2 := h1.next hb2
                 have hb3 := below_al (Below.refl w2.heap.size w2) (.cells #[.func (.func 116) #[] #[]] 110)
                 have h3 := h2.next hb3
                 have K3 := K2.next hb3
                 have hB3 := below_next hB2 hb3)
    refine wp_loop_rounds 1 ?_
    rw [rounds_succ]
    go_wp2_with (go_at_call 116; (with_reducible refine (co2 _ h3).mono ?_); rintro e w4 ⟨⟨vt, v4, rfl, hT4, hv4⟩, hb4⟩
                 have K4 := K3.next hb4
                 have hB4 := below_next hB3 hb4
                 obtain ⟨tk, ta, tb, tA, tm, tc, rfl, hT4⟩ := tkV_form hT4
                 obtain ⟨o4, c4, rfl, hc4, hL4⟩ := hv4
                 have K5 := K4.alloc (.cells #[.int .i64 tk, .string ta, .string tb, .slice tA tm tc] 38)
                 obtain ⟨k0, k1, k2, k3⟩ := blk4 K5
                 obtain ⟨f0, f1, f2, f3⟩ := fz4 K5)
    have hT := tkV_far (tkV_far (tkV_far (tkV_far (hT4.next (below_al (Below.refl _ _) (.cells #[.int .i64 tk, .string ta, .string tb, .slice tA tm tc] 38))) (p := ⟨w.heap.size, 0, none⟩) K3.lt (.int .i64 tk)) (p := ⟨w.heap.size, 1, none⟩) K3.lt (.string ta)) (p := ⟨w.heap.size, 2, none⟩) K3.lt (.string tb)) (p := ⟨w.heap.size, 3, none⟩) K3.lt (.slice tA tm tc)
    have hLf := ((((hL4.next (below_al (Below.refl _ _) (.cells #[.int .i64 tk, .string ta, .string tb, .slice tA tm tc] 38))).far (p := ⟨w.heap.size, 0, none⟩) hgw (.int .i64 tk)).far (p := ⟨w.heap.size, 1, none⟩) hgw (.string ta)).far (p := ⟨w.heap.size, 2, none⟩) hgw (.string tb)).far (p := ⟨w.heap.size, 3, none⟩) hgw (.slice tA tm tc)
    exact bodyPost_ret (v := .tuple #[.agg #[.int .i64 tk, .string ta, .string tb, .slice tA tm tc], .slice (some ⟨g, o4, none⟩) r.length c4, .bool true]) (by simp [results, Tryz.results51, go_sem, k0, k1, k2, k3]) rfl ⟨⟨_, _, rfl, hT.less hB3.size, o4, c4, rfl, hc4, hLf⟩, below_set4 (below_al hB4 _) (Nat.le_refl _) _ _ _ _⟩
  | none =>
    rw [hO] at co
    have co2 : ∀ w, LfV w g v l → Calls Tryz.prog 116 #[v] w fun e w' => e = .returned (.tuple #[.agg #[.int .i64 0, .string ⟨#[]⟩, .string ⟨#[]⟩, .slice none 0 0], .slice none 0 0, .bool false]) ∧ Below w.heap.size w w' := co
    simp only
    cases hS : shutP l with
    | some x =>
      obtain ⟨t, r⟩ := x
      rw [hS] at cs
      have cs2 : ∀ w, LfV w g v l → Calls Tryz.prog 117 #[v] w fun e w' => (∃ vt v, e = .returned (.tuple #[vt, v, .bool true]) ∧ TkV w' w.heap.size vt t ∧ LfV w' g v r) ∧ Below w.heap.size w w' := cs
      clear co cs hO hS
      show Calls _ _ _ _ (fun e w' => (∃ vt v, e = .returned (.tuple #[vt, v, .bool true]) ∧ TkV w' w.heap.size vt t ∧ LfV w' g v r) ∧ _)
      go_enter Tryz.func51, Tryz.ntmps51
      go_wp2_with (go_at_call 89; (with_reducible refine (ct _).mono ?_); rintro e w2 ⟨rfl, hb2⟩
                   have K2 := K1.next hb2
                   have hB2 := below_next hB1 hb2
                   have h2 := h1.next hb2
                   have hb3 := below_al (Below.refl w2.heap.size w2) (.cells #[.func (.func 116) #[] #[]] 110)
                   have h3 := h2.next hb3
                   have K3 := K2.next hb3
                   have hB3 := below_next hB2 hb3)
      refine wp_loop_rounds 2 ?_
      rw [rounds_succ]
      go_wp2_with (go_at_call 116; (with_reducible refine (co2 _ h3).mono ?_); rintro e w4 ⟨rfl, hb4⟩
                   have K4 := K3.next hb4
                   have hB4 := below_next hB3 hb4
                   have h4 := h3.next hb4
                   have hb5 := below_al (below_al (Below.refl w4.heap.size w4) (.cells #[.int .i64 0, .string ⟨#[]⟩, .string ⟨#[]⟩, .slice none 0 0] 38)) (.cells #[.func (.func 117) #[] #[]] 110)
                   have h5 := h4.next hb5
                   have K5 := K4.next hb5
                   have hB5 := below_next hB4 hb5)
      first | rw [rounds_succ] | go_outline
      go_wp2_with (go_at_call 117; (with_reducible refine (cs2 _ h5).mono ?_); rintro e w6 ⟨⟨vt, v6, rfl, hT6, hv6⟩, hb6⟩
                   have K6 := K5.next hb6
                   have hB6 := below_next hB5 hb6
                   obtain ⟨tk, ta, tb, tA, tm, tc, rfl, hT6⟩ := tkV_form hT6
                   obtain ⟨o6, c6, rfl, hc6, hL6⟩ := hv6
                   have K7 := K6.alloc (.cells #[.int .i64 tk, .string ta, .string tb, .slice tA tm tc] 38)
                   obtain ⟨k0, k1, k2, k3⟩ := blk4 K7
                   obtain ⟨f0, f1, f2, f3⟩ := fz4 K7)
      have hT := tkV_far (tkV_far (tkV_far (tkV_far (hT6.next (below_al (Below.refl _ _) (.cells #[.int .i64 tk, .string ta, .string tb, .slice tA tm tc] 38))) (p := ⟨w.heap.size, 0, none⟩) K5.lt (.int .i64 tk)) (p := ⟨w.heap.size, 1, none⟩) K5.lt (.string ta)) (p := ⟨w.heap.size, 2, none⟩) K5.lt (.string tb)) (p := ⟨w.heap.size, 3, none⟩) K5.lt (.slice tA tm tc)
      have hLf := ((((hL6.next (below_al (Below.refl _ _) (.cells #[.int .i64 tk, .string ta, .string tb, .slice tA tm tc] 38))).far (p := ⟨w.heap.size, 0, none⟩) hgw (.int .i64 tk)).far (p := ⟨w.heap.size, 1, none⟩) hgw (.string ta)).far (p := ⟨w.heap.size, 2, none⟩) hgw (.string tb)).far (p := ⟨w.heap.size, 3, none⟩) hgw (.slice tA tm tc)
      exact bodyPost_ret (v := .tuple #[.agg #[.int .i64 tk, .string ta, .string tb, .slice tA tm tc], .slice (some ⟨g, o6, none⟩) r.length c6, .bool true]) (by simp [results, Tryz.results51, go_sem, k0, k1, k2, k3]) rfl ⟨⟨_, _, rfl, hT.less hB5.size, o6, c6, rfl, hc6, hLf⟩, below_set4 (below_al hB6 _) (Nat.le_refl _) _ _ _ _⟩
    | none =>
      rw [hS] at cs
      have cs2 : ∀ w, LfV w g v l → Calls Tryz.prog 117 #[v] w fun e w' => e = .returned (.tuple #[.agg #[.int .i64 0, .string ⟨#[]⟩, .string ⟨#[]⟩, .slice none 0 0], .slice none 0 0, .bool false]) ∧ Below w.heap.size w w' := cs
      clear co cs hO hS
      show Calls _ _ _ _ (fun e w' => e = .returned (.tuple #[.agg #[.int .i64 0, .string ⟨#[]⟩, .string ⟨#[]⟩, .slice none 0 0], .slice none 0 0, .bool false]) ∧ _)
      go_enter Tryz.func51, Tryz.ntmps51
      go_wp2_with (go_at_call 89; (with_reducible refine (ct _).mono ?_); rintro e w2 ⟨rfl, hb2⟩
                   have K2 := K1.next hb2
                   have hB2 := below_next hB1 hb2
                   have h2 := h1.next hb2
                   have hb3 := below_al (Below.refl w2.heap.size w2) (.cells #[.func (.func 116) #[] #[]] 110)
                   have h3 := h2.next hb3
                   have K3 := K2.next hb3
                   have hB3 := below_next hB2 hb3)
      refine wp_loop_rounds 3 ?_
      rw [rounds_succ]
      go_wp2_with (go_at_call 116; (with_reducible refine (co2 _ h3).mono ?_); rintro e w4 ⟨rfl, hb4⟩
                   have K4 := K3.next hb4
                   have hB4 := below_next hB3 hb4
                   have h4 := h3.next hb4
                   have hb5 := below_al (below_al (Below.refl w4.heap.size w4) (.cells #[.int .i64 0, .string ⟨#[]⟩, .string ⟨#[]⟩, .slice none 0 0] 38)) (.cells #[.func (.func 117) #[] #[]] 110)
                   have h5 := h4.next hb5
                   have K5 := K4.next hb5
                   have hB5 := below_next hB4 hb5)
      first | rw [rounds_succ] | go_outline
      go_wp2_with (go_at_call 117; (with_reducible refine (cs2 _ h5).mono ?_); rintro e w6 ⟨rfl, hb6⟩
                   have K6 := K5.next hb6
                   have hB6 := below_next hB5 hb6
                   have K7 := K6.alloc (.cells #[.int .i64 0, .string ⟨#[]⟩, .string ⟨#[]⟩, .slice none 0 0] 38)
                   obtain ⟨k0, k1, k2, k3⟩ := blk4 K7
                   obtain ⟨f0, f1, f2, f3⟩ := fz4 K7)
      first | rw [rounds_succ] | go_outline
      go_wp2
      exact bodyPost_ret (v := .tuple #[.agg #[.int .i64 0, .string ⟨#[]⟩, .string ⟨#[]⟩, .slice none 0 0], .slice none 0 0, .bool false]) (by simp [results, Tryz.results51, go_sem, k0, k1, k2, k3]) rfl ⟨rfl, below_set4 (below_al hB6 _) (Nat.le_refl _) _ _ _ _⟩
end Tok
end Go.Proofs.YteopighhhcikcaaGreatDoor
