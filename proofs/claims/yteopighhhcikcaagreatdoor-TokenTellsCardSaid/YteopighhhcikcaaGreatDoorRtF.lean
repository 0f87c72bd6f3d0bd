/- The mathematics of the reference's opening: one round of its loop over attributes against the plain reading. Conditions: none. -/
import Derived.Test.YteopighhhcikcaaGreatDoorRtD
import Derived.Test.YteopighhhcikcaaGreatDoorTokJ
/- The reference's Attr and closing. Conditions: the list lies in memory; texts up to 5000 bytes. -/
namespace Go.Proofs.YteopighhhcikcaaGreatDoor
open Go.ChangeShapes Go.WideShapes Go.ChangeAt Go.RowKit
namespace Rt
open Tok Rep
theorem any_no {ats : List At} {name : List UInt8} (h : ∀ (j : Nat) (x : At), ats[j]? = some x → (x.1 == name) = false) : ats.any (fun b => b.1 == name) = false := by
  rw [List.any_eq_false]
  intro x hx
  obtain ⟨j, hj⟩ := List.getElem?_of_mem hx
  rw [h j x hj]
  decide
set_option maxRecDepth 100000 in
set_option maxHeartbeats 8000000 in
theorem attr_any (A : Option Addr) (n c : Nat) (ats : List At) (name : List UInt8) (hn : n ≤ 1000000) (w : World) (B : Nat) (h1 : Reads w B 2 A n (ats.flatMap atC)) :
    Calls Tryz.prog 78 #[.slice A n c, .string (toB name)] w fun e w' => (∃ v : ByteArray, e = .returned (.tuple #[.string v, .bool (ats.any (fun b => b.1 == name))])) ∧ w = w' := by
  have hl1 : ats.length = n := by have := h1.1; rw [flat_len atC_len] at this; omega
  obtain ⟨R, hR⟩ : ∃ R, R = ats.any (fun b => b.1 == name) := ⟨_, rfl⟩
  rw [← hR]
  have HR := Lib.hid hR
  have HL := Lib.hid hl1
  clear hR hl1
  go_enter Tryz.func78, Tryz.ntmps78
  go_wp2
  go_loop [6] (fun i => ∃ k : Nat, k ≤ n ∧ i = .int .i64 k ∧ Hid (∀ (j : Nat) (x : At), j < k → ats[j]? = some x → (x.1 == name) = false)) (fun i => n - (intOf i).toNat)
  case atStart => exact ⟨0, Nat.zero_le _, rfl, fun j x h => absurd h (by omega)⟩
  case round =>
    obtain ⟨k, hk, rfl, HK⟩ := hrel
    by_cases hlt : k < n
    · obtain ⟨a, ha⟩ : ∃ a, ats[k]? = some a := ⟨_, List.getElem?_eq_getElem (by rw [HL.out]; exact hlt)⟩
      obtain ⟨ad, rfl, -, f0, f1⟩ := attr_of h1 ha
      have heq : ((toB a.1).toList == (toB name).toList) = (a.1 == name) := by rw [toB_toList, toB_toList]
      have hm := List.mem_of_getElem? ha
      cases hc : (a.1 == name) with
      | true =>
        rw [hc] at heq
        obtain rfl : R = true := by rw [HR.out, List.any_eq_true]; exact ⟨a, hm, hc⟩
        clear ha hc hm HK
        go_wp2
        exact bodyPost_ret (v := .tuple #[.string (toB a.2), .bool true]) (by simp [results, Tryz.results78, go_sem]) rfl ⟨⟨_, rfl⟩, rfl⟩
      | false =>
        rw [hc] at heq
        have HK2 : Hid (∀ (j : Nat) (x : At), j < k + 1 → ats[j]? = some x → (x.1 == name) = false) := by
          intro j x hj hx
          by_cases e : j = k
          · subst e; rw [ha] at hx; obtain rfl := Option.some.inj hx; exact hc
          · exact HK.out j x (by omega) hx
        clear ha hc hm HK
        go_wp2
        go_round
        case rel => exact ⟨k + 1, by omega, by go_num, HK2⟩
        case measure => simp [intOf]; omega
    · obtain rfl : k = n := by omega
      obtain rfl : R = false := by
        rw [HR.out]
        exact any_no (fun j x hx => HK.out j x (by have := (List.getElem?_eq_some_iff.1 hx).1; have := HL.out; omega) hx)
      clear HK
      go_wp2
      exact bodyPost_ret (v := .tuple #[.string ⟨#[]⟩, .bool false]) (by simp [results, Tryz.results78, go_sem]) rfl ⟨⟨_, rfl⟩, rfl⟩
theorem shut_no {D : List UInt8} (h : List.isPrefixOf [60, 47] D = false) : shutP D = none := by
  unfold shutP
  split
  · simp [List.isPrefixOf] at h
  · rfl
theorem shut_yes {l : List UInt8} {o : Nat} (h : List.isPrefixOf [60, 47] (l.drop o) = true) : shutP (l.drop o) = match nameP (l.drop (o + 2)) with
    | none => none
    | some (n, r) => match endP r with
      | none => none
      | some b => some (⟨2, n, [], []⟩, b) := by
  obtain ⟨r, hr⟩ := List.isPrefixOf_iff_prefix.1 h
  have e : l.drop (o + 2) = r := by rw [← List.drop_drop, ← hr]; rfl
  rw [← hr, e]
  rfl
theorem nameP_zero {l : List UInt8} (h : (if 20 < nm l then 0 else nm l) = 0) : nameP l = none := by
  unfold nameP
  rw [if_pos]
  split at h
  · exact .inr (by assumption)
  · exact .inl h
theorem nameP_some {l : List UInt8} {N : Nat} (hN : N = if 20 < nm l then 0 else nm l) (h : N ≠ 0) : nameP l = some (lowL (l.take N), l.drop N) ∧ N ≤ l.length ∧ N ≤ 20 := by
  have hle := nm_le l
  split at hN
  · exact absurd hN h
  · unfold nameP
    rw [if_neg (by omega), hN]
    exact ⟨rfl, hle, by omega⟩
theorem endP_at {l : List UInt8} {e2 : Nat} : endP (l.drop e2) = if List.isPrefixOf [62] (l.drop (e2 + bl (l.drop e2))) = true then some (l.drop (e2 + bl (l.drop e2) + 1)) else none := by
  unfold endP
  have hiff : (l.drop e2)[bl (l.drop e2)]? = some 62 ↔ List.isPrefixOf [62] (l.drop (e2 + bl (l.drop e2))) = true := by
    rw [List.getElem?_drop]
    generalize e2 + bl (l.drop e2) = q
    constructor
    · intro h
      have hq := (List.getElem?_eq_some_iff.1 h)
      obtain ⟨hq1, hq2⟩ := hq
      rw [List.drop_eq_getElem_cons hq1, hq2]
      simp [List.isPrefixOf]
    · intro h
      obtain ⟨r, hr⟩ := List.isPrefixOf_iff_prefix.1 h
      have : (l.drop q)[0]? = some 62 := by rw [← hr]; rfl
      rwa [List.getElem?_drop, Nat.add_zero] at this
  by_cases h : List.isPrefixOf [62] (l.drop (e2 + bl (l.drop e2))) = true
  · rw [if_pos h, if_pos (hiff.2 h), List.drop_drop, Nat.add_assoc]
  · rw [if_neg h, if_neg (fun q => h (hiff.1 q))]
def ClP (l : List UInt8) (o : Nat) (K : Int) (N : List UInt8) (P : Nat) : Prop := (P = 0 ∧ shutP (l.drop o) = none) ∨ (o < P ∧ P ≤ l.length ∧ K = 2 ∧ shutP (l.drop o) = some (⟨2, N, [], []⟩, l.drop P))
set_option maxRecDepth 100000 in
set_option maxHeartbeats 8000000 in
theorem closing_any (l : List UInt8) (o : Nat) (hl : l.length ≤ 5000) (ho : o < l.length) (w : World) :
    Calls Tryz.prog 55 #[.string (toB l), .int .i64 o] w fun e w' => (∃ (K : Int) (N : List UInt8) (P : Nat), e = .returned (.tuple #[.agg #[.int .i64 K, .string (toB N), .string ⟨#[]⟩, .slice none 0 0], .int .i64 P]) ∧ ClP l o K N P) ∧ Below w.heap.size w w' := by
  obtain ⟨q2, hq2⟩ : ∃ q, q = o + 2 := ⟨_, rfl⟩
  have i2 : (o : Int) + 2 = (q2 : Int) := by omega
  obtain ⟨N, hN⟩ : ∃ N : Nat, N = if 20 < nm (l.drop q2) then 0 else nm (l.drop q2) := ⟨_, rfl⟩
  have cn := fun w => nameAt_any l q2 hl (by omega) w
  rw [← hN] at cn
  have cs := fun w => has_any l [60, 47] o hl (by decide) (by decide) (by omega) w
  rw [show toB [60, 47] = ⟨#[60, 47]⟩ from rfl] at cs
  have hsz : (toB l).size = l.length := toB_size l
  have hB0 := below_al (Below.refl w.heap.size w) (.cells #[.int .i64 0, .string ⟨#[]⟩, .string ⟨#[]⟩, .slice none 0 0] 42)
  have hyes := @shut_yes l o
  rw [← hq2] at hyes
  cases hS : List.isPrefixOf [60, 47] (l.drop o) with
  | false =>
    rw [hS] at cs
    have HC : Hid (ClP l o 0 [] 0) := .inl ⟨rfl, shut_no hS⟩
    clear hyes hS hN hq2
    generalize toB l = s at *
    go_enter Tryz.func55, Tryz.ntmps55
    go_wp2_with (first
      | (go_at_call 58; (with_reducible refine (cn _).mono ?_); rintro e w1 ⟨rfl, rfl⟩)
      | (go_at_call 62; (with_reducible refine (cs _).mono ?_); rintro e w1 ⟨rfl, rfl⟩))
    exact bodyPost_ret (v := .tuple #[.agg #[.int .i64 0, .string ⟨#[]⟩, .string ⟨#[]⟩, .slice none 0 0], .int .i64 0]) (by simp [results, Tryz.results55, go_sem]) rfl ⟨⟨0, [], 0, rfl, HC⟩, hB0⟩
  | true =>
    rw [hS] at cs
    have hyes := hyes hS
    by_cases hN0 : N = 0
    · have HC : Hid (ClP l o 0 [] 0) := .inl ⟨rfl, by rw [hyes, nameP_zero (by rw [← hN]; exact hN0)]⟩
      subst hN0
      rw [show ((0 : Nat) : Int) = 0 from rfl] at cn
      clear hyes hS hN hq2
      generalize toB l = s at *
      go_enter Tryz.func55, Tryz.ntmps55
      go_wp2_with (first
        | (go_at_call 58; (with_reducible refine (cn _).mono ?_); rintro e w1 ⟨rfl, rfl⟩)
        | (go_at_call 62; (with_reducible refine (cs _).mono ?_); rintro e w1 ⟨rfl, rfl⟩))
      exact bodyPost_ret (v := .tuple #[.agg #[.int .i64 0, .string ⟨#[]⟩, .string ⟨#[]⟩, .slice none 0 0], .int .i64 0]) (by simp [results, Tryz.results55, go_sem]) rfl ⟨⟨0, [], 0, rfl, HC⟩, hB0⟩
    · obtain ⟨hnp, hNl, hN20⟩ := nameP_some hN hN0
      rw [List.length_drop] at hNl
      obtain ⟨e2, he2⟩ : ∃ q, q = q2 + N := ⟨_, rfl⟩
      have i3 : (q2 : Int) + (N : Int) = (e2 : Int) := by omega
      have hbl := bl_le (l.drop e2)
      rw [List.length_drop] at hbl
      obtain ⟨Bl, hBl⟩ : ∃ q, q = bl (l.drop e2) := ⟨_, rfl⟩
      obtain ⟨e3, he3⟩ : ∃ q, q = e2 + Bl := ⟨_, rfl⟩
      rw [hnp] at hyes
      simp only [List.drop_drop] at hyes
      rw [← he2, endP_at, ← hBl, ← he3] at hyes
      rw [← hBl] at hbl
      have i4 : (e2 : Int) + (Bl : Int) = (e3 : Int) := by omega
      have cb := fun w => blanks_any l e2 hl (by omega) w
      rw [← hBl] at cb
      have cg := fun w => has_any l [62] e3 hl (by decide) (by decide) (by omega) w
      rw [show toB [62] = ⟨#[62]⟩ from rfl] at cg
      have hN0i : ((N : Int) == 0) = false := by rw [beq_eq_false_iff_ne]; omega
      have hN0p : ¬((N : Int) = 0) := by omega
      have b1 : e3 ≤ 5000 := by omega
      have b2 : (0 : Int) ≤ (q2 : Int) := Int.natCast_nonneg _
      have b3 : (q2 : Int) ≤ (e2 : Int) := by omega
      have b4 : q2 ≤ e2 := by omega
      have b5 : e2 ≤ l.length := by omega
      have b6 : (e2 : Int) ≤ (l.length : Int) := by omega
      cases hG : List.isPrefixOf [62] (l.drop e3) with
      | false =>
        rw [hG] at cg
        rw [if_neg (by rw [hG]; decide)] at hyes
        have HC : Hid (ClP l o 0 [] 0) := .inl ⟨rfl, hyes⟩
        clear hyes hS hN hq2 he2 he3 hBl hnp hN0 hG
        generalize toB l = s at *
        go_enter Tryz.func55, Tryz.ntmps55
        go_wp2_with (first
          | (go_at_call 58; (with_reducible refine (cn _).mono ?_); rintro e w1 ⟨rfl, rfl⟩)
          | (go_at_call 90; (with_reducible refine (cb _).mono ?_); rintro e w1 ⟨rfl, rfl⟩)
          | (go_at_call 62; (with_reducible refine (cs _).mono ?_); rintro e w1 ⟨rfl, rfl⟩)
          | (go_at_call 62; (with_reducible refine (cg _).mono ?_); rintro e w1 ⟨rfl, rfl⟩))
        exact bodyPost_ret (v := .tuple #[.agg #[.int .i64 0, .string ⟨#[]⟩, .string ⟨#[]⟩, .slice none 0 0], .int .i64 0]) (by simp [results, Tryz.results55, go_sem]) rfl ⟨⟨0, [], 0, rfl, HC⟩, hB0⟩
      | true =>
        rw [hG] at cg
        rw [if_pos hG] at hyes
        have h3 := has_len hG (by decide)
        simp only [List.length_cons, List.length_nil] at h3
        obtain ⟨P, hP⟩ : ∃ q, q = e3 + 1 := ⟨_, rfl⟩
        rw [show e3 + 1 = P from hP.symm] at hyes
        have i5 : (e3 : Int) + 1 = (P : Int) := by omega
        have hext := ext_toB l q2 N
        rw [← he2] at hext
        have cl := fun w => lower_any ((l.drop q2).take N) (by rw [List.length_take]; omega) w
        have HC : Hid (ClP l o 2 (lowL ((l.drop q2).take N)) P) := .inr ⟨by omega, by omega, rfl, hyes⟩
        have b7 : P ≤ 5000 := by omega
        generalize (l.drop q2).take N = nn at *
        obtain ⟨lo, hlo⟩ : ∃ lo, lo = toB (lowL nn) := ⟨_, rfl⟩
        rw [← hlo] at cl
        have HLO := Lib.hid hlo
        generalize toB nn = tn at *
        clear hyes hS hN hq2 he2 he3 hBl hnp hN0 hG h3 hlo hP
        generalize toB l = s at *
        go_enter Tryz.func55, Tryz.ntmps55
        go_wp2_with (first
          | (go_at_call 58; (with_reducible refine (cn _).mono ?_); rintro e w1 ⟨rfl, rfl⟩)
          | (go_at_call 90; (with_reducible refine (cb _).mono ?_); rintro e w1 ⟨rfl, rfl⟩)
          | (go_at_call 62; (with_reducible refine (cs _).mono ?_); rintro e w1 ⟨rfl, rfl⟩)
          | (go_at_call 62; (with_reducible refine (cg _).mono ?_); rintro e w1 ⟨rfl, rfl⟩)
          | (go_at_call 59; (with_reducible refine (cl _).mono ?_); rintro e w2 ⟨rfl, hb2⟩
             have K2 := (Blk.new w 42 #[.int .i64 0, .string ⟨#[]⟩, .string ⟨#[]⟩, .slice none 0 0]).next hb2
             have z2 := K2.lt
             obtain ⟨x0, x1, x2, x3⟩ := blk4 K2
             have y0 := K2.frozen 0
             have y1 := K2.frozen 1
             have y2 := K2.frozen 2
             have y3 := K2.frozen 3
             have hB2 := below_next hB0 hb2))
        refine bodyPost_ret (v := .tuple #[.agg #[.int .i64 2, .string lo, .string ⟨#[]⟩, .slice none 0 0], .int .i64 P]) (by simp [results, Tryz.results55, go_sem, x0, x1, x2, x3]) rfl ⟨⟨2, lowL nn, P, by rw [HLO.out], HC⟩, ?_⟩
        exact (((hB2.setCell (Nat.le_refl _) _).setCell (Nat.le_refl _) _).setCell (Nat.le_refl _) _).setCell (Nat.le_refl _) _
end Rt
end Go.Proofs.YteopighhhcikcaaGreatDoor
namespace Go.Proofs.YteopighhhcikcaaGreatDoor
namespace Rt
open Tok Rep
/-- What is behind the attributes' end, with them. -/
def finP (ats : List At) (D : List UInt8) : Option (List At × List UInt8) := match endP (attrsP ats D).2 with
  | none => none
  | some b => some ((attrsP ats D).1, b)
theorem openP_fin (t : List UInt8) : openP (60 :: t) = match nameP t with
    | none => none
    | some (n, r) => match finP [] r with
      | none => none
      | some (ats, b) => some (⟨1, n, [], ats⟩, b) := by
  unfold openP
  simp only
  cases hn : nameP t with
  | none => rfl
  | some x =>
    obtain ⟨n, r⟩ := x
    simp only
    unfold finP
    cases he : endP (attrsP [] r).2 with
    | none => rfl
    | some b => rfl
theorem fin_stop {ats : List At} {D : List UInt8} (h : attrP D = none) : finP ats D = match endP D with
    | none => none
    | some b => some (ats, b) := by
  unfold finP
  rw [attrsP_none h]
theorem fin_step {ats : List At} {D r : List UInt8} {a : At} (h : attrP D = some (a, r)) : finP ats D = finP (addA ats a) r := by
  unfold finP
  rw [attrsP_some h]
theorem attr_none {D : List UInt8} (h : bl D = 0 ∨ nameP (D.drop (bl D)) = none) : attrP D = none := by
  unfold attrP
  by_cases h0 : bl D = 0
  · rw [if_pos h0]
  · rw [if_neg h0]
    rcases h with h | h
    · exact absurd h h0
    · rw [h]
theorem attr_some {D n r : List UInt8} (h0 : bl D ≠ 0) (h : nameP (D.drop (bl D)) = some (n, r)) : attrP D = some ((n, (valP r).1), (valP r).2) := by
  unfold attrP
  rw [if_neg h0, h]
/-- The end stands there. -/
theorem fin_end {l : List UInt8} {ats : List At} {a e : Nat} (he : e = a + bl (l.drop a)) (h : List.isPrefixOf [62] (l.drop e) = true) : finP ats (l.drop a) = some (ats, l.drop (e + 1)) := by
  have hd : (l.drop a).drop (bl (l.drop a)) = l.drop e := by rw [List.drop_drop, he]
  have hn : nameP ((l.drop a).drop (bl (l.drop a))) = none := by
    rw [hd]
    obtain ⟨r, hr⟩ := List.isPrefixOf_iff_prefix.1 h
    rw [← hr]
    exact nameP_zero (by show (if 20 < nm (62 :: r) then 0 else nm (62 :: r)) = 0; rw [nm_no r (by decide)]; rfl)
  rw [fin_stop (attr_none (.inr hn)), endP_at, ← he, if_pos h]
/-- No end, and no attribute: none. -/
theorem fin_bad {l : List UInt8} {ats : List At} {a e : Nat} (he : e = a + bl (l.drop a)) (h : List.isPrefixOf [62] (l.drop e) = false) (h2 : bl (l.drop a) = 0 ∨ nameP (l.drop e) = none) : finP ats (l.drop a) = none := by
  have hd : (l.drop a).drop (bl (l.drop a)) = l.drop e := by rw [List.drop_drop, he]
  rw [fin_stop (attr_none (by rw [hd]; exact h2)), endP_at, ← he, if_neg (by rw [h]; decide)]
/-- A sign of equality that begins no value: none. -/
theorem fin_eq {l : List UInt8} {ats : List At} {a : Nat} (h : List.isPrefixOf [61] (l.drop a) = true) : finP ats (l.drop a) = none := by
  obtain ⟨r, hr⟩ := List.isPrefixOf_iff_prefix.1 h
  have hb : bl (l.drop a) = 0 := by rw [← hr]; rfl
  refine fin_bad (e := a) (by rw [hb, Nat.add_zero]) ?_ (.inl hb)
  rw [← hr]
  rfl
theorem val_plain {r : List UInt8} (h : List.isPrefixOf [61, 34] r = false) : valP r = ([], r) := by
  unfold valP
  split
  · simp [List.isPrefixOf] at h
  · rfl
theorem val_open {l : List UInt8} {a : Nat} (h : List.isPrefixOf [61, 34] (l.drop a) = true) : valP (l.drop a) = if 34 ∈ l.drop (a + 2) then (tellL ((l.drop (a + 2)).takeWhile (· != 34)), (l.drop (a + 2)).drop (((l.drop (a + 2)).takeWhile (· != 34)).length + 1)) else ([], l.drop a) := by
  obtain ⟨r, hr⟩ := List.isPrefixOf_iff_prefix.1 h
  have e : l.drop (a + 2) = r := by rw [← List.drop_drop, ← hr]; rfl
  rw [← hr, e]
  rfl
/-- Where the quote is that ends a value. -/
theorem quote_at {q : List UInt8} {k : Nat} (h1 : ∀ (j : Nat) (c : UInt8), j < k → q[j]? = some c → c ≠ 34) (h2 : q[k]? = some 34) : 34 ∈ q ∧ (q.takeWhile (· != 34)) = q.take k := by
  refine ⟨List.mem_of_getElem? h2, ?_⟩
  induction q generalizing k with
  | nil => simp at h2
  | cons c t ih =>
    cases k with
    | zero =>
      obtain rfl : c = 34 := by simpa using h2
      rfl
    | succ k =>
      have hc : c ≠ 34 := h1 0 c (by omega) rfl
      have e := ih (k := k) (fun j d hj hd => h1 (j + 1) d (by omega) (by simpa using hd)) (by simpa using h2)
      rw [List.takeWhile_cons, if_pos (by simpa using hc), List.take_succ_cons, e]
theorem quote_no {q : List UInt8} (h1 : ∀ (j : Nat) (c : UInt8), j < q.length → q[j]? = some c → c ≠ 34) : ¬ 34 ∈ q := by
  intro h
  obtain ⟨j, hj⟩ := List.getElem?_of_mem h
  exact h1 j 34 (List.getElem?_eq_some_iff.1 hj).1 hj rfl
theorem addA_is {ats : List At} {a : At} (h : ats.any (fun b => b.1 == a.1) = true) : addA ats a = ats := by unfold addA; rw [if_pos h]
theorem addA_not {ats : List At} {a : At} (h : ats.any (fun b => b.1 == a.1) = false) : addA ats a = ats ++ [a] := by unfold addA; rw [if_neg (by rw [h]; decide)]
end Rt
end Go.Proofs.YteopighhhcikcaaGreatDoor
