/- token.Name. Conditions: the text has at most a million bytes. -/
import Derived.Test.YtdfcahdipalmkaaGreatDoorTokMath
import Derived.Test.YtdfcahdipalmkaaGreatDoorKt
import Derived.Test.YtdfcahdipalmkaaGreatDoorTokMath3
import Derived.Test.YtdfcahdipalmkaaGreatDoorRepK
import Derived.Lib.Case
/- token's isLetter, isInName, isBlank, behindBytes, countName, countBlanks over bytes that lie in memory. Conditions: the bytes lie in memory. -/
namespace Go.Proofs.YtdfcahdipalmkaaGreatDoor
open Go.ChangeShapes Go.WideShapes Go.ChangeAt Go.RowKit
namespace Tok
/-- Bytes lie in block g from o on. -/
def Lf (w : World) (g o : Nat) (l : List UInt8) : Prop := g < w.heap.size ∧ ∀ (j : Nat) (c : UInt8), l[j]? = some c → w.cell? ⟨g, o + j, none⟩ = some (bv c)
theorem Lf.next {w w' : World} {g o : Nat} {l : List UInt8} (h : Lf w g o l) (hb : Below w.heap.size w w') : Lf w' g o l :=
  ⟨Nat.lt_of_lt_of_le h.1 hb.size, fun j c hc => (hb.cell (p := ⟨g, o + j, none⟩) h.1).trans (h.2 j c hc)⟩
theorem Lf.drop {w : World} {g o : Nat} {l : List UInt8} (h : Lf w g o l) (n : Nat) : Lf w g (o + n) (l.drop n) :=
  ⟨h.1, fun j c hc => by rw [List.getElem?_drop] at hc; have := h.2 (n + j) c hc; rwa [← Nat.add_assoc] at this⟩
theorem Lf.nil {w : World} {g o : Nat} (h : g < w.heap.size) : Lf w g o [] := ⟨h, fun j c hc => by simp at hc⟩
theorem Lf.at_ {w : World} {g o : Nat} {l : List UInt8} (h : Lf w g o l) {j : Nat} (hj : j < l.length) : w.cell? ⟨g, o + j, none⟩ = some (.int .u8 (l[j].toNat : Int)) := h.2 j _ (List.getElem?_eq_getElem hj)
theorem u8_lt (c : UInt8) : (c.toNat : Int) < 256 := by have := c.toNat_lt; omega
theorem isL_nat (c : UInt8) : isL c = ((decide (97 ≤ (c.toNat : Int)) && decide ((c.toNat : Int) ≤ 122)) || (decide (65 ≤ (c.toNat : Int)) && decide ((c.toNat : Int) ≤ 90))) := by
  have h := fun (a : UInt8) => UInt8.le_iff_toNat_le (a := a) (b := c)
  have h2 := fun (a : UInt8) => UInt8.le_iff_toNat_le (a := c) (b := a)
  unfold isL
  rw [Bool.eq_iff_iff]
  simp only [Bool.or_eq_true, Bool.and_eq_true, decide_eq_true_iff, h, h2]
  have e1 : (97 : UInt8).toNat = 97 := rfl
  have e2 : (122 : UInt8).toNat = 122 := rfl
  have e3 : (65 : UInt8).toNat = 65 := rfl
  have e4 : (90 : UInt8).toNat = 90 := rfl
  rw [e1, e2, e3, e4]
  omega
theorem isN_nat (c : UInt8) : isN c = ((decide (48 ≤ (c.toNat : Int)) && decide ((c.toNat : Int) ≤ 57)) || ((c.toNat : Int) == 45)) := by
  have h := fun (a : UInt8) => UInt8.le_iff_toNat_le (a := a) (b := c)
  have h2 := fun (a : UInt8) => UInt8.le_iff_toNat_le (a := c) (b := a)
  unfold isN
  rw [Bool.eq_iff_iff]
  simp only [Bool.or_eq_true, Bool.and_eq_true, decide_eq_true_iff, h, h2, beq_iff_eq]
  have e1 : (48 : UInt8).toNat = 48 := rfl
  have e2 : (57 : UInt8).toNat = 57 := rfl
  have e3 : c = 45 ↔ c.toNat = 45 := ⟨fun e => by rw [e]; rfl, fun e => UInt8.toNat_inj.1 (by rw [e]; rfl)⟩
  rw [e1, e2, e3]
  omega
theorem isBlank_nat (c : UInt8) : isBlank c = ((c.toNat : Int) == 32 || (c.toNat : Int) == 9 || (c.toNat : Int) == 10 || (c.toNat : Int) == 13) := by
  have e := fun (a : UInt8) => (⟨fun e => by rw [e], fun e => UInt8.toNat_inj.1 e⟩ : c = a ↔ c.toNat = a.toNat)
  unfold isBlank
  rw [Bool.eq_iff_iff]
  simp only [Bool.or_eq_true, beq_iff_eq, e]
  have e1 : (32 : UInt8).toNat = 32 := rfl
  have e2 : (9 : UInt8).toNat = 9 := rfl
  have e3 : (10 : UInt8).toNat = 10 := rfl
  have e4 : (13 : UInt8).toNat = 13 := rfl
  rw [e1, e2, e3, e4]
  omega
theorem letter_any (c : UInt8) (w : World) : Calls Tryz.prog 202 #[.int .u8 (c.toNat : Int)] w fun e w' => e = .returned (.bool (isL c)) ∧ w = w' := by
  rw [isL_nat]
  have h1 := u8_lt c
  have h0 : (0 : Int) ≤ (c.toNat : Int) := Int.natCast_nonneg _
  generalize (c.toNat : Int) = x at *
  go_enter Tryz.func202, Tryz.ntmps202
  go_wp2
  all_goals
    go_ret
    simp_all <;> omega
theorem inName_any (c : UInt8) (w : World) : Calls Tryz.prog 203 #[.int .u8 (c.toNat : Int)] w fun e w' => e = .returned (.bool (isN c)) ∧ w = w' := by
  rw [isN_nat]
  have h1 := u8_lt c
  have h0 : (0 : Int) ≤ (c.toNat : Int) := Int.natCast_nonneg _
  generalize (c.toNat : Int) = x at *
  go_enter Tryz.func203, Tryz.ntmps203
  go_wp2
  all_goals
    go_ret
    simp_all <;> omega
set_option maxRecDepth 100000 in
set_option maxHeartbeats 4000000 in
/-- What is left behind n bytes: with no room at its end. -/
theorem behind_any (g o : Nat) (l : List UInt8) (cap n : Nat) (hn : n ≤ l.length) (hc : l.length ≤ cap) (w : World) (h : Lf w g o l) :
    Calls Tryz.prog 194 #[.slice (some ⟨g, o, none⟩) l.length cap, .int .i64 n] w fun e w' => (∃ o', e = .returned (.slice (some ⟨g, o', none⟩) (l.drop n).length (l.drop n).length) ∧ Lf w g o' (l.drop n)) ∧ w = w' := by
  obtain ⟨o', hsl, hL⟩ : ∃ o', (∀ w, (Instr.slice 91 (.slice (some ⟨g, o, none⟩) l.length cap) (some (.int .i64 n)) (some (.int .i64 l.length)) (some (.int .i64 l.length))).run Tryz.prog w = .ok (.slice (some ⟨g, o', none⟩) (l.drop n).length (l.drop n).length) w) ∧ Lf w g o' (l.drop n) := by
    have h1 := fun w => run_slice_lhm (P := Tryz.prog) (w := w) (t := 91) (a := some ⟨g, o, none⟩) (len := l.length) (cap := cap) Tryz.underlying91 .i64 .i64 .i64 n l.length l.length (by omega) (by omega) (by omega) (by omega)
    have hs : ∀ w, (sizeOf (Tryz.prog.elem 91)).run Tryz.prog w = .ok 1 w := fun w => by kernel_rfl
    by_cases e : l.length = n
    · refine ⟨o, fun w => ?_, ?_⟩
      · rw [h1, hs]
        simp [Result.andThen, sliced, e]
      · rw [List.drop_of_length_le (by omega)]
        exact Lf.nil h.1
    · refine ⟨o + n, fun w => ?_, h.drop n⟩
      rw [h1, hs]
      simp [Result.andThen, sliced, e, Addr.add]
  generalize (l.drop n).length = M at *
  have n0 : (0 : Int) ≤ (n : Int) := Int.natCast_nonneg _
  have n1 : (n : Int) ≤ (l.length : Int) := by omega
  go_enter Tryz.func194, Tryz.ntmps194
  go_wp2
  go_ret
  exact ⟨⟨o', rfl, hL⟩, rfl⟩
set_option maxRecDepth 100000 in
set_option maxHeartbeats 4000000 in
theorem countName_any (g o : Nat) (l : List UInt8) (cap : Nat) (hl : l.length ≤ maxLen) (w : World) (h : Lf w g o l) :
    Calls Tryz.prog 192 #[.slice (some ⟨g, o, none⟩) l.length cap] w fun e w' => e = .returned (.int .i64 (nm l : Nat)) ∧ w = w' := by
  have HL := Lib.hid hl
  clear hl
  go_enter Tryz.func192, Tryz.ntmps192
  go_wp2
  go_loop [3] (fun i => ∃ k : Nat, k ≤ l.length ∧ i = .int .i64 k ∧ Hid (∀ (j : Nat) (hj : j < k), inNm j (l[j]?.getD 0) = true)) (fun i => l.length - (intOf i).toNat)
  case atStart => exact ⟨0, Nat.zero_le _, rfl, fun j hj => absurd hj (Nat.not_lt_zero _)⟩
  case round =>
    obtain ⟨k, hk, rfl, HK⟩ := hrel
    by_cases hlt : k < l.length
    · have hc := h.at_ hlt
      have wk : IntKind.i64.wrap ((k : Int) + 1) = (k : Int) + 1 := IntWalk.i64_in _ (by have h1 := HL.out; unfold maxLen at h1; omega)
      obtain ⟨c, hce⟩ : ∃ c : UInt8, l[k] = c := ⟨_, rfl⟩
      rw [hce] at hc
      have hgc : l[k]?.getD 0 = c := by rw [List.getElem?_eq_getElem hlt, hce]; rfl
      have c1 := fun w => letter_any c w
      have c2 := fun w => inName_any c w
      have k0 : (0 : Int) ≤ (k : Int) := Int.natCast_nonneg _
      have k1 : (k : Int) < (l.length : Int) := by omega
      have HN : Hid (inNm k c = true → ∀ (j : Nat) (hj : j < k + 1), inNm j (l[j]?.getD 0) = true) := by
        intro hin j hj
        by_cases e : j = k
        · subst e; rw [hgc]; exact hin
        · exact HK.out j (by omega)
      have HE : Hid (inNm k c = false → k = nm l) := by
        intro hin
        refine nm_uniq l k hk (fun j hj => ?_) (fun _ => by rw [hce]; exact hin)
        have := HK.out j hj
        rwa [List.getElem?_eq_getElem (by omega)] at this
      clear hgc hce h
      cases hL : isL c
      · rw [hL] at c1
        by_cases hz : k = 0
        · have hin : inNm k c = false := by unfold inNm; rw [hL, decide_eq_false (by omega)]; rfl
          have HR := Lib.hid (HE.out hin)
          have kp : decide ((0 : Int) < (k : Int)) = false := decide_eq_false (by omega)
          have kp2 : decide (0 < k) = false := decide_eq_false (by omega)
          clear HE HN HK hin hz
          go_wp2_with (go_at_call 202; (with_reducible refine (c1 _).mono ?_); rintro e w' ⟨rfl, rfl⟩)
          go_ret
          exact ⟨ret_int (by rw [HR.out]), rfl⟩
        · have kp : (0 : Int) < (k : Int) := by omega
          have kp2 : 0 < k := by omega
          have hin : inNm k c = isN c := by unfold inNm; rw [hL, decide_eq_true (by omega)]; simp
          cases hN : isN c
          · rw [hN] at c2 hin
            have HR := Lib.hid (HE.out hin)
            clear HE HN HK hin
            go_wp2_with (first
              | (go_at_call 202; (with_reducible refine (c1 _).mono ?_); rintro e w' ⟨rfl, rfl⟩)
              | (go_at_call 203; (with_reducible refine (c2 _).mono ?_); rintro e w' ⟨rfl, rfl⟩))
            go_ret
            exact ⟨ret_int (by rw [HR.out]), rfl⟩
          · rw [hN] at c2 hin
            have HR := Lib.hid (HN.out hin)
            clear HE HN HK hin
            go_wp2_with (first
              | (go_at_call 202; (with_reducible refine (c1 _).mono ?_); rintro e w' ⟨rfl, rfl⟩)
              | (go_at_call 203; (with_reducible refine (c2 _).mono ?_); rintro e w' ⟨rfl, rfl⟩))
            go_round
            case rel => exact ⟨k + 1, by omega, by go_num, HR⟩
            case measure => simp [intOf]; omega
      · rw [hL] at c1
        have hin : inNm k c = true := by unfold inNm; rw [hL]; rfl
        have HR := Lib.hid (HN.out hin)
        clear HE HN HK hin
        go_wp2_with (go_at_call 202; (with_reducible refine (c1 _).mono ?_); rintro e w' ⟨rfl, rfl⟩)
        go_round
        case rel => exact ⟨k + 1, by omega, by go_num, HR⟩
        case measure => simp [intOf]; omega
    · have hR : k = nm l := by
        refine nm_uniq l k hk (fun j hj => ?_) (fun h => absurd h hlt)
        have := HK.out j hj
        rwa [List.getElem?_eq_getElem (by omega)] at this
      have HR := Lib.hid hR
      clear hR
      go_wp2
      go_ret
      exact ⟨ret_int (by rw [HR.out]), rfl⟩
end Tok
end Go.Proofs.YtdfcahdipalmkaaGreatDoor
/- token's readName, readBegin, readEnd, readValue, readAttr over bytes that lie in memory. Conditions: the bytes lie in memory, and are not too many. -/
namespace Go.Proofs.YtdfcahdipalmkaaGreatDoor
open Go.ChangeShapes Go.WideShapes Go.ChangeAt Go.RowKit
namespace Tok
open Rep (tellL)
/-- A slice value: bytes in block g. -/
def LfV (w : World) (g : Nat) (v : Value) (l : List UInt8) : Prop := ∃ o c, v = .slice (some ⟨g, o, none⟩) l.length c ∧ l.length ≤ c ∧ Lf w g o l
theorem LfV.next {w w' : World} {g : Nat} {v : Value} {l : List UInt8} (h : LfV w g v l) (hb : Below w.heap.size w w') : LfV w' g v l := by
  obtain ⟨o, c, h1, h2, h3⟩ := h
  exact ⟨o, c, h1, h2, h3.next hb⟩
/-- What readName and readBegin answer. -/
def NmV (w : World) (g : Nat) (x : Option (List UInt8 × List UInt8)) (e : Ending) : Prop := match x with
  | none => e = .returned (.tuple #[.string ⟨#[]⟩, .slice none 0 0, .bool false])
  | some (n, r) => ∃ v, e = .returned (.tuple #[.string (toB n), v, .bool true]) ∧ LfV w g v r
/-- What readEnd answers. -/
def EnV (w : World) (g : Nat) (x : Option (List UInt8)) (e : Ending) : Prop := match x with
  | none => e = .returned (.tuple #[.slice none 0 0, .bool false])
  | some r => ∃ v, e = .returned (.tuple #[v, .bool true]) ∧ LfV w g v r
theorem lowerB_lowC (l : List UInt8) : Lib.toLowerA l = lowL l := by
  unfold Lib.toLowerA lowL
  congr 1
  funext c
  unfold Lib.lowerB lowC Lib.isUpperB
  by_cases h : 65 ≤ c ∧ c ≤ 90
  · rw [if_pos h, if_pos (by simp [h])]
  · rw [if_neg h, if_neg (by simpa using h)]
theorem inNm_ascii (k : Nat) (c : UInt8) : inNm k c = true → c.toNat < 128 := by
  have : ∀ c : Fin 256, (isL (UInt8.ofNat c.val) || isN (UInt8.ofNat c.val)) = true → c.val < 128 := by decide +kernel
  intro h
  have h2 := this ⟨c.toNat, c.toNat_lt⟩
  simp only [UInt8.ofNat_toNat] at h2
  apply h2
  unfold inNm at h
  rw [Bool.or_eq_true] at h ⊢
  rcases h with h | h
  · exact .inl h
  · rw [Bool.and_eq_true] at h; exact .inr h.2
theorem behindV {w : World} {g : Nat} {v : Value} {l : List UInt8} (h : LfV w g v l) (n : Nat) (hn : n ≤ l.length) : Calls Tryz.prog 194 #[v, .int .i64 n] w fun e w' => (∃ v', e = .returned v' ∧ LfV w' g v' (l.drop n)) ∧ w = w' := by
  obtain ⟨o, c, rfl, hc, hL⟩ := h
  refine (behind_any g o l c n hn hc w hL).mono fun e w' h => ?_
  obtain ⟨⟨o', rfl, h2⟩, rfl⟩ := h
  exact ⟨⟨_, rfl, o', _, rfl, Nat.le_refl _, h2⟩, rfl⟩
/-- The text of the first n bytes. -/
theorem textV {w : World} {g o : Nat} {l : List UInt8} (h : Lf w g o l) (n cap : Nat) (hn : n ≤ l.length) : (convert 91 9 (.slice (some ⟨g, o, none⟩) n cap)).run Tryz.prog w = .ok (.string (toB (l.take n))) w := by
  have hz : (l.take n).length = n := by rw [List.length_take]; omega
  have := run_convert_bytes_back (P := Tryz.prog) w 91 9 5 ⟨g, o, none⟩ cap (l.take n) Tryz.underlying91 Tryz.underlying5 Tryz.underlying9 (fun j hj => by
    have hj' : j < l.length := by omega
    have h2 := h.at_ hj'
    rw [List.getElem_take]
    unfold Addr.add
    split
    · rename_i e; subst e; exact h2
    · exact h2)
  rw [hz] at this
  exact this
set_option maxRecDepth 100000 in
theorem cut_run (g o N cap n : Nat) (hn : n ≤ N) (hc : N ≤ cap) (w : World) : (Instr.slice 91 (.slice (some ⟨g, o, none⟩) N cap) none (some (.int .i64 n)) none).run Tryz.prog w = .ok (.slice (some ⟨g, o, none⟩) n cap) w := by
  have h1 := run_slice_h (P := Tryz.prog) (w := w) (t := 91) (a := some ⟨g, o, none⟩) (len := N) (cap := cap) Tryz.underlying91 .i64 n (by omega) (by omega)
  have hs : ∀ w, (sizeOf (Tryz.prog.elem 91)).run Tryz.prog w = .ok 1 w := fun w => by kernel_rfl
  rw [h1, hs]
  simp [Result.andThen, sliced, Addr.add]
set_option maxRecDepth 100000 in
set_option maxHeartbeats 4000000 in
theorem readName_any (g : Nat) (v : Value) (l : List UInt8) (hl : l.length ≤ maxLen) (w : World) (h : LfV w g v l) :
    Calls Tryz.prog 175 #[v] w fun e w' => NmV w' g (nameP l) e ∧ Below w.heap.size w w' := by
  obtain ⟨o, cap, rfl, hc, hL⟩ := h
  have c1 := countName_any g o l cap hl w hL
  clear hl
  have n0 : (0 : Int) ≤ (nm l : Int) := Int.natCast_nonneg _
  have hle := nm_le l
  by_cases hz : nm l = 0 ∨ 20 < nm l
  · have hP : nameP l = none := by unfold nameP; rw [if_pos hz]
    rw [hP]
    show Calls _ _ _ _ (fun e w' => e = _ ∧ _)
    rcases hz with hz | hz
    · rw [hz] at c1
      clear hz n0 hle hP
      go_enter Tryz.func175, Tryz.ntmps175
      go_wp2_with (go_at_call 192; (with_reducible refine c1.mono ?_); rintro e w' ⟨rfl, rfl⟩)
      go_ret3
      exact ⟨rfl, Below.refl _ _⟩
    · have z1 : ((nm l : Int) == 0) = false := by rw [beq_eq_false_iff_ne]; omega
      have z2 : (20 : Int) < (nm l : Int) := by omega
      clear hz hP
      go_enter Tryz.func175, Tryz.ntmps175
      go_wp2_with (go_at_call 192; (with_reducible refine c1.mono ?_); rintro e w' ⟨rfl, rfl⟩)
      go_ret3
      exact ⟨rfl, Below.refl _ _⟩
  · have hP : nameP l = some (lowL (l.take (nm l)), l.drop (nm l)) := by unfold nameP; rw [if_neg hz]
    rw [hP]
    have c2 := fun w (h : LfV w g (.slice (some ⟨g, o, none⟩) l.length cap) l) => behindV h (nm l) hle
    have hcut := fun w => cut_run g o l.length cap (nm l) hle hc w
    have htx := textV hL (nm l) cap hle
    have c3 := fun w => Tryz.strings_ToLower_ascii (toB (l.take (nm l))) w (by rw [toB_size, List.length_take]; omega) (by
      intro j b hb
      have hj : j < (l.take (nm l)).length := (List.getElem?_eq_some_iff.1 hb).1
      have e : (l.take (nm l))[j] = b := (List.getElem?_eq_some_iff.1 hb).2
      rw [List.getElem_take] at e
      rw [List.length_take] at hj
      have := nm_at l j (by omega)
      rw [e] at this
      exact inNm_ascii j b this)
    rw [show (toB (l.take (nm l))).data.toList = l.take (nm l) from rfl, lowerB_lowC] at c3
    generalize nm l = m at *
    have z1 : ((m : Int) == 0) = false := by rw [beq_eq_false_iff_ne]; omega
    have z2 : decide ((20 : Int) < (m : Int)) = false := decide_eq_false (by omega)
    generalize toB (l.take m) = tx at *
    obtain ⟨low, hlow⟩ : ∃ low, low = lowL (l.take m) := ⟨_, rfl⟩
    rw [← hlow] at c3 ⊢
    obtain ⟨rest, hrest⟩ : ∃ rest, rest = l.drop m := ⟨_, rfl⟩
    rw [← hrest] at c2 ⊢
    clear hlow hrest hP hz hle
    go_enter Tryz.func175, Tryz.ntmps175
    go_wp2_with (first
      | (go_at_call 192; (with_reducible refine c1.mono ?_); rintro e w' ⟨rfl, rfl⟩)
      | (go_at_call 193; (with_reducible refine (c3 _).mono ?_); rintro e w2 ⟨rfl, hb⟩
         have hL2 : LfV w2 g (.slice (some ⟨g, o, none⟩) l.length cap) l := ⟨o, cap, rfl, hc, hL.next hb⟩)
      | (go_at_call 194; (with_reducible refine (c2 _ hL2).mono ?_); rintro e w3 ⟨⟨v3, rfl, hv3⟩, rfl⟩))
    go_ret3
    exact ⟨⟨v3, rfl, hv3⟩, hb⟩
theorem run_bytes (p : List UInt8) (w : World) : ∃ w1 c, (convert 9 91 (.string (toB p))).run Tryz.prog w = .ok (.slice (some ⟨w.heap.size, 0, none⟩) p.length c) w1 ∧ p.length ≤ c ∧ Lf w1 w.heap.size 0 p ∧ Below w.heap.size w w1 ∧ w1.heap.size = w.heap.size + 1 := by
  have h := run_bytes_of_string (P := Tryz.prog) w 9 91 5 (toB p) Tryz.underlying9 Tryz.underlying91 Tryz.underlying5
  rw [toB_size] at h
  refine ⟨_, _, h, ?_, ⟨?_, ?_⟩, ?_, ?_⟩
  · rw [← toB_size p]; exact grownCap_ge _ _ _ _
  · rw [size_al]; exact Nat.lt_succ_self _
  · intro j c hc
    have hj : j < p.length := (List.getElem?_eq_some_iff.1 hc).1
    have hj' : j < (toB p).size := by rw [toB_size]; exact hj
    rw [Nat.zero_add]
    refine (World.cell?_alloc_mark w.drew _ _ _ j).trans ?_
    rw [bytesRow_at (toB p) _ j hj']
    have : (toB p).data[j] = c := by
      have := (List.getElem?_eq_some_iff.1 hc).2
      simpa [toB] using this
    rw [this]
    rfl
  · exact below_al (Below.refl _ _).drew _
  · rw [size_al]; rfl
end Tok
end Go.Proofs.YtdfcahdipalmkaaGreatDoor
namespace Go.Proofs.YtdfcahdipalmkaaGreatDoor
open Go.ChangeShapes Go.WideShapes Go.ChangeAt Go.RowKit
namespace Tok
theorem toB_beq2 (a b : List UInt8) : ((toB a).toList == (toB b).toList) = (a == b) := by rw [ByteArray.toList_eq, ByteArray.toList_eq]; rfl
theorem nameB_none {l : List UInt8} (h : nameP l = none) : nameB l = false := by unfold nameB; rw [h]; rfl
theorem nameB_some {l n r : List UInt8} (h : nameP l = some (n, r)) : nameB l = (n == l) := by
  unfold nameB
  rw [h]
  by_cases e : n = l
  · subst e
    have hr : r = [] := by
      unfold nameP at h
      split at h
      · cases h
      · injection h with h
        injection h with h1 h2
        have := congrArg List.length h1
        rw [low_len, List.length_take] at this
        rw [← h2]
        exact List.drop_of_length_le (by omega)
    subst hr
    simp
  · have : (n == l) = false := beq_eq_false_iff_ne.2 e
    rw [this]
    simp [e]
set_option maxRecDepth 100000 in
set_option maxHeartbeats 4000000 in
theorem name_any (l : List UInt8) (hl : l.length ≤ maxLen) (w : World) :
    Calls Tryz.prog 137 #[.string (toB l)] w fun e w' => e = .returned (.bool (nameB l)) ∧ Below w.heap.size w w' := by
  obtain ⟨E, c0, hrun, hc0, hL0, hB0, hz0⟩ := run_bytes l w
  have cn := readName_any w.heap.size (.slice (some ⟨w.heap.size, 0, none⟩) l.length c0) l hl E ⟨0, c0, rfl, hc0, hL0⟩
  have hb := fun n => toB_beq2 n l
  clear hl
  cases hn : nameP l with
  | none =>
    rw [hn] at cn
    have cn2 : Calls Tryz.prog 175 #[.slice (some ⟨w.heap.size, 0, none⟩) l.length c0] E fun e w' => e = .returned (.tuple #[.string ⟨#[]⟩, .slice none 0 0, .bool false]) ∧ Below E.heap.size E w' := cn
    rw [nameB_none hn]
    clear hn cn hL0 hb
    generalize toB l = s at *
    go_enter Tryz.func137, Tryz.ntmps137
    go_wp2_with (go_at_call 175; (with_reducible refine cn2.mono ?_); rintro e w2 ⟨rfl, hb2⟩)
    go_ret
    exact ⟨rfl, below_next hB0 hb2⟩
  | some x =>
    obtain ⟨n, r⟩ := x
    rw [hn] at cn
    have cn2 : Calls Tryz.prog 175 #[.slice (some ⟨w.heap.size, 0, none⟩) l.length c0] E fun e w' => (∃ v, e = .returned (.tuple #[.string (toB n), v, .bool true]) ∧ LfV w' w.heap.size v r) ∧ Below E.heap.size E w' := cn
    rw [nameB_some hn]
    have hb1 := hb n
    generalize (n == l) = R at *
    clear hn cn hL0 hb
    generalize toB l = s at *
    generalize toB n = t at *
    go_enter Tryz.func137, Tryz.ntmps137
    go_wp2_with (go_at_call 175; (with_reducible refine cn2.mono ?_); rintro e w2 ⟨⟨v, rfl, -⟩, hb2⟩)
    go_ret
    exact ⟨by rw [← hb1]; rfl, below_next hB0 hb2⟩
end Tok
end Go.Proofs.YtdfcahdipalmkaaGreatDoor
