/- What Go's own strconv.ParseUint answers, and readDigits, of package value. Conditions: the text is short; the error's variable holds an interface's value. -/
import Derived.Test.YtdfcahdipalmkaaGreatDoorValC
import Derived.Lib.Strings
import Derived.Lib.Walk
import Derived.Lib.ConvBytes
import Derived.Lib.AtoiErrMem
import Derived.Lib.Hide
import Derived.Laws.Strings3
import Derived.Laws.Closers25
import Derived.Laws.Closers25b
import Derived.WalkKit
import Derived.BigCall
import Derived.BigGuard
import Derived.Test.YtdfcahdipalmkaaGreatDoorShelf
import Derived.Test.YtdfcahdipalmkaaGreatDoorBlk
import Derived.Deep.QuietTactic
import Derived.BigQuiet
/- What Go's own internal/strconv.ParseUint answers, at bases 10 and 16 and bitSize 63. Conditions: the text has at most nine bytes. -/
namespace Go.Proofs.YtdfcahdipalmkaaGreatDoor
open Go.ChangeShapes Go.WideShapes Go.ChangeAt Go.RowKit
namespace Val
def loB (c : UInt8) : Int := bits .or .u8 (c.toNat : Int) 32
def dgv (b : Nat) (c : UInt8) : Option Nat := if 48 ≤ c.toNat ∧ c.toNat ≤ 57 then some (c.toNat - 48) else if 97 ≤ loB c ∧ loB c < 87 + b then some (loB c - 87).toNat else none
def puV (b : Nat) : List UInt8 → Nat → Option Nat
  | [], n => some n
  | c :: t, n => match dgv b c with
    | some d => puV b t (n * b + d)
    | none => none
theorem puV_some {b : Nat} {c : UInt8} {t : List UInt8} {n d : Nat} (h : dgv b c = some d) : puV b (c :: t) n = puV b t (n * b + d) := by rw [puV, h]
theorem puV_none {b : Nat} {c : UInt8} {t : List UInt8} {n : Nat} (h : dgv b c = none) : puV b (c :: t) n = none := by rw [puV, h]
theorem lower_any (c : Int) (w : World) : Calls Tryz.prog 207 #[.int .u8 c] w fun e w' => e = .returned (.int .u8 (bits .or .u8 c 32)) ∧ w = w' := by
  go_enter Tryz.func207, Tryz.ntmps207
  go_wp2
  go_ret
  exact ⟨rfl, rfl⟩
/-- The answer: a number and no error; or 0 and the error of the syntax. -/
def puT : Option Nat → Value
  | some n => .tuple #[.int .u64 (n : Int), .nilIface]
  | none => .tuple #[.int .u64 0, .iface 240 (.int .i64 2)]
def puF (b : Nat) (l : List UInt8) : Option Nat := if l = [] then none else puV b l 0
set_option maxRecDepth 100000 in
theorem pu_empty (b : Int) (w : World) : Calls Tryz.prog 198 #[.string ⟨#[]⟩, .int .i64 b, .int .i64 63] w fun e w' => e = .returned (puT none) ∧ w = w' := by
  go_enter Tryz.func198, Tryz.ntmps198
  go_wp2
  go_ret2
  exact ⟨rfl, rfl⟩
set_option maxHeartbeats 16000000 in
set_option maxRecDepth 100000 in
theorem pu_10 (t : ByteArray) (hne : t.size ≠ 0) (hmax : t.size ≤ 9) (w : World) :
    Calls Tryz.prog 198 #[.string t, .int .i64 10, .int .i64 63] w fun e w' => e = .returned (puT (puV 10 t.data.toList 0)) ∧ Below w.heap.size w w' := by
  have hemp : t.toList.isEmpty = false := by
    rw [← decide_eq_emptyBytes]
    exact decide_eq_false (fun h => hne (by rw [h]; rfl))
  have hcv := Lib.run_convert_string_bytes (P := Tryz.prog) w 9 91 5 t (u := .string) Tryz.underlying9 Tryz.underlying91 Tryz.underlying5
  have hB : ∀ j, j < t.size → (Lib.bytesWorld w 5 t).cell? ⟨w.heap.size, j, none⟩ = some (.int .u8 (t.data.toList.getD j 0).toNat) := fun j hj => Lib.bytesWorld_cell w 5 t j hj
  have hBb := Lib.bytesWorld_below w 5 t
  obtain ⟨W1, hW1⟩ : ∃ W1, W1 = Lib.bytesWorld w 5 t := ⟨_, rfl⟩
  rw [← hW1] at hcv hB hBb
  clear hW1
  obtain ⟨bs, hL⟩ : ∃ bs, bs = t.data.toList := ⟨_, rfl⟩
  have hLn : bs.length = t.size := by rw [hL, Lib.size_eq]
  rw [← hL] at hB ⊢
  clear hL
  have hmv : IntKind.u64.wrap (IntKind.u64.wrap 9223372036854775808 - 1) = 9223372036854775807 := by
    rw [IntKind.wrap_u64, IntKind.wrap_u64]
    decide
  obtain ⟨R, hR⟩ : ∃ R, R = puT (puV 10 bs 0) := ⟨_, rfl⟩
  rw [← hR]
  have HR := Lib.hid hR
  clear hR
  go_enter Tryz.func198, Tryz.ntmps198
  go_wp2
  go_loop [12, 13, 101] (fun vu vn vi => ∃ (k acc : Nat) (a : Int), vu = .bool false ∧ vn = .int .u64 a ∧ vi = .int .i64 k ∧ k ≤ t.size ∧ Hid (a = (acc : Int) ∧ acc < 10 ^ k ∧ puV 10 bs 0 = puV 10 (bs.drop k) acc)) (fun _ _ vi => t.size - (intOf vi).toNat)
  case atStart => exact ⟨0, 0, 0, rfl, rfl, rfl, by omega, rfl, by omega, rfl⟩
  case round =>
    obtain ⟨k, acc, a, rfl, rfl, rfl, hk, hh⟩ := hrel
    obtain ⟨ha, hacc, hdec⟩ := hh.out
    clear hh
    have hpow : 10 ^ k ≤ 10 ^ 9 := Nat.pow_le_pow_right (by omega) (by omega)
    have hacc2 : acc < 68719476736 := Nat.lt_of_lt_of_le (Nat.lt_of_lt_of_le hacc hpow) (by decide)
    have a0 : 0 ≤ a := by omega
    have a1 : a < 68719476736 := by omega
    clear hpow hacc2
    by_cases hkn : k < t.size
    · have hc := hB k hkn
      have hdrop : bs.drop k = bs[k]'(by omega) :: bs.drop (k + 1) := List.drop_eq_getElem_cons (by omega)
      have hget : bs.getD k 0 = bs[k]'(by omega) := by simp [List.getD, List.getElem?_eq_getElem (show k < bs.length by omega)]
      rw [hdrop] at hdec
      rw [hget] at hc
      generalize bs[k]'(by omega) = c at hc hdec
      have hc256 : c.toNat < 256 := c.toNat_lt
      clear hB hdrop hget
      by_cases hdig : 48 ≤ c.toNat ∧ c.toNat ≤ 57
      · have hF := puV_some (t := bs.drop (k + 1)) (n := acc) (show dgv 10 c = some (c.toNat - 48) by unfold dgv; rw [if_pos hdig])
        obtain ⟨hd0, hd1⟩ := hdig
        have HN : Hid (a * 10 + ((c.toNat : Int) - 48) = ((acc * 10 + (c.toNat - 48) : Nat) : Int) ∧ acc * 10 + (c.toNat - 48) < 10 ^ (k + 1) ∧ puV 10 bs 0 = puV 10 (bs.drop (k + 1)) (acc * 10 + (c.toNat - 48))) :=
          ⟨by omega, by rw [Nat.pow_succ]; omega, hdec.trans hF⟩
        clear hacc hF hdec ha
        go_wp2
        refine ⟨⟨k + 1, acc * 10 + (c.toNat - 48), a * 10 + ((c.toNat : Int) - 48), rfl, (by first | rfl | (congr 1; omega)), (by first | rfl | (congr 1; omega)), by omega, HN⟩, by simp [intOf]; omega⟩
      · have hv0 := bits_lo_u8 .or (c.toNat : Int) 32
        have hv1 := bits_hi_u8 .or (c.toNat : Int) 32
        by_cases h95 : c.toNat = 95
        · have hF := puV_none (t := bs.drop (k + 1)) (n := acc) (show dgv 10 c = none by
            unfold dgv loB
            rw [if_neg hdig, h95, if_neg (by decide)])
          obtain rfl : R = puT none := by rw [HR.out, hdec, hF]
          rw [h95] at hc
          have cl := fun w => lower_any 95 w
          rw [show bits .or .u8 95 32 = 127 from by decide] at cl
          clear hacc hF hdec ha HR hv0 hv1 hdig hc256 h95
          go_wp2_with (go_at_call 207; (with_reducible refine (cl _).mono ?_); rintro e w' ⟨rfl, rfl⟩)
          go_ret2
          exact ⟨rfl, hBb⟩
        have h95' : ((c.toNat : Int) == 95) = false := by simpa using (by omega : ¬ ((c.toNat : Int) = 95))
        clear h95
        have cl := fun w => lower_any (c.toNat : Int) w
        by_cases hlet : 97 ≤ loB c ∧ loB c < 87 + ((10 : Nat) : Int)
        · have hF := puV_some (t := bs.drop (k + 1)) (n := acc) (show dgv 10 c = some (loB c - 87).toNat by unfold dgv; rw [if_neg hdig, if_pos hlet])
          unfold loB at hlet hF
          generalize bits .or .u8 (c.toNat : Int) 32 = lo at *
          obtain ⟨hl0, hl1⟩ := hlet
          have HN : Hid (a * 10 + (lo - 97 + 10) = ((acc * 10 + (lo - 87).toNat : Nat) : Int) ∧ acc * 10 + (lo - 87).toNat < 10 ^ (k + 1) ∧ puV 10 bs 0 = puV 10 (bs.drop (k + 1)) (acc * 10 + (lo - 87).toNat)) :=
            ⟨by omega, by rw [Nat.pow_succ]; omega, hdec.trans hF⟩
          have hl2 : lo ≤ 122 := by omega
          have hl3 : lo < 87 + 10 := by omega
          clear hl1
          clear hacc hF hdec ha hv0 hv1
          go_wp2_with (go_at_call 207; (with_reducible refine (cl _).mono ?_); rintro e w' ⟨rfl, rfl⟩)
          all_goals first
            | omega
            | (refine ⟨⟨k + 1, acc * 10 + (lo - 87).toNat, a * 10 + (lo - 97 + 10), rfl, (by first | rfl | (congr 1; omega)), (by first | rfl | (congr 1; omega)), by omega, HN⟩, by simp [intOf]; omega⟩)
        · have hF := puV_none (t := bs.drop (k + 1)) (n := acc) (show dgv 10 c = none by unfold dgv; rw [if_neg hdig, if_neg hlet])
          obtain rfl : R = puT none := by rw [HR.out, hdec, hF]
          unfold loB at hlet
          generalize bits .or .u8 (c.toNat : Int) 32 = lo at *
          clear hacc hF hdec ha HR
          by_cases hl0 : 97 ≤ lo
          · have hl1 : 87 + 10 ≤ lo := by omega
            by_cases hl2 : lo ≤ 122
            · go_wp2_with (go_at_call 207; (with_reducible refine (cl _).mono ?_); rintro e w' ⟨rfl, rfl⟩)
              all_goals first
                | omega
                | (go_ret2; exact ⟨rfl, hBb⟩)
            · go_wp2_with (go_at_call 207; (with_reducible refine (cl _).mono ?_); rintro e w' ⟨rfl, rfl⟩)
              all_goals first
                | omega
                | (go_ret2; exact ⟨rfl, hBb⟩)
          · go_wp2_with (go_at_call 207; (with_reducible refine (cl _).mono ?_); rintro e w' ⟨rfl, rfl⟩)
            all_goals first
              | omega
              | (go_ret2; exact ⟨rfl, hBb⟩)
    · have hkk : k = t.size := by omega
      subst hkk
      have hF : puV 10 (bs.drop t.size) acc = some acc := by rw [List.drop_eq_nil_of_le (by omega)]; rfl
      rw [hF] at hdec
      obtain rfl : R = puT (some acc) := by rw [HR.out, hdec]
      subst ha
      clear hacc a0 a1 HR hdec hF hB
      go_wp2
      go_ret2
      exact ⟨rfl, hBb⟩
set_option maxHeartbeats 16000000 in
set_option maxRecDepth 100000 in
theorem pu_16 (t : ByteArray) (hne : t.size ≠ 0) (hmax : t.size ≤ 9) (w : World) :
    Calls Tryz.prog 198 #[.string t, .int .i64 16, .int .i64 63] w fun e w' => e = .returned (puT (puV 16 t.data.toList 0)) ∧ Below w.heap.size w w' := by
  have hemp : t.toList.isEmpty = false := by
    rw [← decide_eq_emptyBytes]
    exact decide_eq_false (fun h => hne (by rw [h]; rfl))
  have hcv := Lib.run_convert_string_bytes (P := Tryz.prog) w 9 91 5 t (u := .string) Tryz.underlying9 Tryz.underlying91 Tryz.underlying5
  have hB : ∀ j, j < t.size → (Lib.bytesWorld w 5 t).cell? ⟨w.heap.size, j, none⟩ = some (.int .u8 (t.data.toList.getD j 0).toNat) := fun j hj => Lib.bytesWorld_cell w 5 t j hj
  have hBb := Lib.bytesWorld_below w 5 t
  obtain ⟨W1, hW1⟩ : ∃ W1, W1 = Lib.bytesWorld w 5 t := ⟨_, rfl⟩
  rw [← hW1] at hcv hB hBb
  clear hW1
  obtain ⟨bs, hL⟩ : ∃ bs, bs = t.data.toList := ⟨_, rfl⟩
  have hLn : bs.length = t.size := by rw [hL, Lib.size_eq]
  rw [← hL] at hB ⊢
  clear hL
  have hmv : IntKind.u64.wrap (IntKind.u64.wrap 9223372036854775808 - 1) = 9223372036854775807 := by
    rw [IntKind.wrap_u64, IntKind.wrap_u64]
    decide
  obtain ⟨R, hR⟩ : ∃ R, R = puT (puV 16 bs 0) := ⟨_, rfl⟩
  rw [← hR]
  have HR := Lib.hid hR
  clear hR
  go_enter Tryz.func198, Tryz.ntmps198
  go_wp2
  go_loop [12, 13, 101] (fun vu vn vi => ∃ (k acc : Nat) (a : Int), vu = .bool false ∧ vn = .int .u64 a ∧ vi = .int .i64 k ∧ k ≤ t.size ∧ Hid (a = (acc : Int) ∧ acc < 16 ^ k ∧ puV 16 bs 0 = puV 16 (bs.drop k) acc)) (fun _ _ vi => t.size - (intOf vi).toNat)
  case atStart => exact ⟨0, 0, 0, rfl, rfl, rfl, by omega, rfl, by omega, rfl⟩
  case round =>
    obtain ⟨k, acc, a, rfl, rfl, rfl, hk, hh⟩ := hrel
    obtain ⟨ha, hacc, hdec⟩ := hh.out
    clear hh
    have hpow : 16 ^ k ≤ 16 ^ 9 := Nat.pow_le_pow_right (by omega) (by omega)
    have hacc2 : acc < 68719476736 := Nat.lt_of_lt_of_le (Nat.lt_of_lt_of_le hacc hpow) (by decide)
    have a0 : 0 ≤ a := by omega
    have a1 : a < 68719476736 := by omega
    clear hpow hacc2
    by_cases hkn : k < t.size
    · have hc := hB k hkn
      have hdrop : bs.drop k = bs[k]'(by omega) :: bs.drop (k + 1) := List.drop_eq_getElem_cons (by omega)
      have hget : bs.getD k 0 = bs[k]'(by omega) := by simp [List.getD, List.getElem?_eq_getElem (show k < bs.length by omega)]
      rw [hdrop] at hdec
      rw [hget] at hc
      generalize bs[k]'(by omega) = c at hc hdec
      have hc256 : c.toNat < 256 := c.toNat_lt
      clear hB hdrop hget
      by_cases hdig : 48 ≤ c.toNat ∧ c.toNat ≤ 57
      · have hF := puV_some (t := bs.drop (k + 1)) (n := acc) (show dgv 16 c = some (c.toNat - 48) by unfold dgv; rw [if_pos hdig])
        obtain ⟨hd0, hd1⟩ := hdig
        have HN : Hid (a * 16 + ((c.toNat : Int) - 48) = ((acc * 16 + (c.toNat - 48) : Nat) : Int) ∧ acc * 16 + (c.toNat - 48) < 16 ^ (k + 1) ∧ puV 16 bs 0 = puV 16 (bs.drop (k + 1)) (acc * 16 + (c.toNat - 48))) :=
          ⟨by omega, by rw [Nat.pow_succ]; omega, hdec.trans hF⟩
        clear hacc hF hdec ha
        go_wp2
        refine ⟨⟨k + 1, acc * 16 + (c.toNat - 48), a * 16 + ((c.toNat : Int) - 48), rfl, (by first | rfl | (congr 1; omega)), (by first | rfl | (congr 1; omega)), by omega, HN⟩, by simp [intOf]; omega⟩
      · have hv0 := bits_lo_u8 .or (c.toNat : Int) 32
        have hv1 := bits_hi_u8 .or (c.toNat : Int) 32
        by_cases h95 : c.toNat = 95
        · have hF := puV_none (t := bs.drop (k + 1)) (n := acc) (show dgv 16 c = none by
            unfold dgv loB
            rw [if_neg hdig, h95, if_neg (by decide)])
          obtain rfl : R = puT none := by rw [HR.out, hdec, hF]
          rw [h95] at hc
          have cl := fun w => lower_any 95 w
          rw [show bits .or .u8 95 32 = 127 from by decide] at cl
          clear hacc hF hdec ha HR hv0 hv1 hdig hc256 h95
          go_wp2_with (go_at_call 207; (with_reducible refine (cl _).mono ?_); rintro e w' ⟨rfl, rfl⟩)
          go_ret2
          exact ⟨rfl, hBb⟩
        have h95' : ((c.toNat : Int) == 95) = false := by simpa using (by omega : ¬ ((c.toNat : Int) = 95))
        clear h95
        have cl := fun w => lower_any (c.toNat : Int) w
        by_cases hlet : 97 ≤ loB c ∧ loB c < 87 + ((16 : Nat) : Int)
        · have hF := puV_some (t := bs.drop (k + 1)) (n := acc) (show dgv 16 c = some (loB c - 87).toNat by unfold dgv; rw [if_neg hdig, if_pos hlet])
          unfold loB at hlet hF
          generalize bits .or .u8 (c.toNat : Int) 32 = lo at *
          obtain ⟨hl0, hl1⟩ := hlet
          have HN : Hid (a * 16 + (lo - 97 + 10) = ((acc * 16 + (lo - 87).toNat : Nat) : Int) ∧ acc * 16 + (lo - 87).toNat < 16 ^ (k + 1) ∧ puV 16 bs 0 = puV 16 (bs.drop (k + 1)) (acc * 16 + (lo - 87).toNat)) :=
            ⟨by omega, by rw [Nat.pow_succ]; omega, hdec.trans hF⟩
          have hl2 : lo ≤ 122 := by omega
          have hl3 : lo < 87 + 16 := by omega
          clear hl1
          clear hacc hF hdec ha hv0 hv1
          go_wp2_with (go_at_call 207; (with_reducible refine (cl _).mono ?_); rintro e w' ⟨rfl, rfl⟩)
          all_goals first
            | omega
            | (refine ⟨⟨k + 1, acc * 16 + (lo - 87).toNat, a * 16 + (lo - 97 + 10), rfl, (by first | rfl | (congr 1; omega)), (by first | rfl | (congr 1; omega)), by omega, HN⟩, by simp [intOf]; omega⟩)
        · have hF := puV_none (t := bs.drop (k + 1)) (n := acc) (show dgv 16 c = none by unfold dgv; rw [if_neg hdig, if_neg hlet])
          obtain rfl : R = puT none := by rw [HR.out, hdec, hF]
          unfold loB at hlet
          generalize bits .or .u8 (c.toNat : Int) 32 = lo at *
          clear hacc hF hdec ha HR
          by_cases hl0 : 97 ≤ lo
          · have hl1 : 87 + 16 ≤ lo := by omega
            by_cases hl2 : lo ≤ 122
            · go_wp2_with (go_at_call 207; (with_reducible refine (cl _).mono ?_); rintro e w' ⟨rfl, rfl⟩)
              all_goals first
                | omega
                | (go_ret2; exact ⟨rfl, hBb⟩)
            · go_wp2_with (go_at_call 207; (with_reducible refine (cl _).mono ?_); rintro e w' ⟨rfl, rfl⟩)
              all_goals first
                | omega
                | (go_ret2; exact ⟨rfl, hBb⟩)
          · go_wp2_with (go_at_call 207; (with_reducible refine (cl _).mono ?_); rintro e w' ⟨rfl, rfl⟩)
            all_goals first
              | omega
              | (go_ret2; exact ⟨rfl, hBb⟩)
    · have hkk : k = t.size := by omega
      subst hkk
      have hF : puV 16 (bs.drop t.size) acc = some acc := by rw [List.drop_eq_nil_of_le (by omega)]; rfl
      rw [hF] at hdec
      obtain rfl : R = puT (some acc) := by rw [HR.out, hdec]
      subst ha
      clear hacc a0 a1 HR hdec hF hB
      go_wp2
      go_ret2
      exact ⟨rfl, hBb⟩
end Val
end Go.Proofs.YtdfcahdipalmkaaGreatDoor
namespace Go.Proofs.YtdfcahdipalmkaaGreatDoor
open Go.ChangeShapes Go.WideShapes Go.ChangeAt Go.RowKit
namespace Val
theorem Tabs.al {w : World} (h : Tabs w) (o : Obj) : Tabs (w.alloc o) := h.at_ (below_al (Below.refl _ _) o)
def pubP (r : Option Nat) (e : Ending) : Prop := match r with
  | some n => e = .returned (.tuple #[.int .u64 (n : Int), .nilIface])
  | none => ∃ tp p, e = .returned (.tuple #[.int .u64 0, .iface tp p])
theorem toError_any (s : ByteArray) (b : Int) (w : World) (hs : s.size ≤ 1000) (hT : Tabs w) : Calls Tryz.prog 199 #[.string ⟨#[80, 97, 114, 115, 101, 85, 105, 110, 116]⟩, .string s, .int .i64 b, .int .i64 63, .iface 240 (.int .i64 2)] w fun e w' => ∃ N : Nat, e = .returned (.iface 242 (.pointer (some ⟨N, 0, none⟩))) ∧ Below w.heap.size w w' := by
  obtain ⟨tp, p, hv⟩ := hT.err
  exact (Tryz.strconv_toError_syntax ⟨#[80, 97, 114, 115, 101, 85, 105, 110, 116]⟩ s b 63 _ w (by omega) hv (.inr ⟨tp, p, rfl⟩)).mono fun e w' ⟨N, h1, _, _, h4⟩ => ⟨N, h1, h4⟩
theorem emp_of {t : ByteArray} (h : t.size = 0) : t = ⟨#[]⟩ := by
  cases t with
  | mk d => congr 1; exact Array.eq_empty_of_size_eq_zero h
theorem pf_10 (t : ByteArray) (ht : t.size ≤ 9) (w : World) : Calls Tryz.prog 198 #[.string t, .int .i64 10, .int .i64 63] w fun e w' => e = .returned (puT (puF 10 t.data.toList)) ∧ Below w.heap.size w w' := by
  by_cases h0 : t.size = 0
  · obtain rfl := emp_of h0
    exact (pu_empty 10 w).mono fun e w' ⟨h1, h2⟩ => ⟨h1, by rw [← h2]; exact Below.refl _ _⟩
  · have : puF 10 t.data.toList = puV 10 t.data.toList 0 := by
      unfold puF
      rw [if_neg]
      intro e
      apply h0
      rw [Lib.size_eq, e]
      rfl
    rw [this]
    exact pu_10 t h0 ht w
set_option maxHeartbeats 4000000 in
theorem pub_10 (t : ByteArray) (ht : t.size ≤ 9) (w : World) (hT : Tabs w) : Calls Tryz.prog 182 #[.string t, .int .i64 10, .int .i64 63] w fun e w' => pubP (puF 10 t.data.toList) e ∧ Below w.heap.size w w' := by
  have c1 := fun w => pf_10 t ht w
  cases hr : puF 10 t.data.toList with
  | some n =>
    rw [hr] at c1
    unfold puT at c1
    go_enter Tryz.func182, Tryz.ntmps182
    go_wp2_with (go_at_call 198; (with_reducible refine (c1 _).mono ?_); rintro e w1 ⟨rfl, hb⟩)
    go_ret2
    exact ⟨rfl, hb⟩
  | none =>
    rw [hr] at c1
    unfold puT at c1
    have c2 := fun w hT => toError_any t 10 w (by omega) hT
    go_enter Tryz.func182, Tryz.ntmps182
    go_wp2_with (first
      | (go_at_call 198; (with_reducible refine (c1 _).mono ?_); rintro e w1 ⟨rfl, hb⟩
         have hT1 := hT.at_ hb)
      | (go_at_call 199; (with_reducible refine (c2 _ hT1).mono ?_); rintro e w2 ⟨N, rfl, hb2⟩))
    go_ret2
    exact ⟨⟨_, _, rfl⟩, below_next hb hb2⟩
theorem pf_16 (t : ByteArray) (ht : t.size ≤ 9) (w : World) : Calls Tryz.prog 198 #[.string t, .int .i64 16, .int .i64 63] w fun e w' => e = .returned (puT (puF 16 t.data.toList)) ∧ Below w.heap.size w w' := by
  by_cases h0 : t.size = 0
  · obtain rfl := emp_of h0
    exact (pu_empty 16 w).mono fun e w' ⟨h1, h2⟩ => ⟨h1, by rw [← h2]; exact Below.refl _ _⟩
  · have : puF 16 t.data.toList = puV 16 t.data.toList 0 := by
      unfold puF
      rw [if_neg]
      intro e
      apply h0
      rw [Lib.size_eq, e]
      rfl
    rw [this]
    exact pu_16 t h0 ht w
set_option maxHeartbeats 4000000 in
theorem pub_16 (t : ByteArray) (ht : t.size ≤ 9) (w : World) (hT : Tabs w) : Calls Tryz.prog 182 #[.string t, .int .i64 16, .int .i64 63] w fun e w' => pubP (puF 16 t.data.toList) e ∧ Below w.heap.size w w' := by
  have c1 := fun w => pf_16 t ht w
  cases hr : puF 16 t.data.toList with
  | some n =>
    rw [hr] at c1
    unfold puT at c1
    go_enter Tryz.func182, Tryz.ntmps182
    go_wp2_with (go_at_call 198; (with_reducible refine (c1 _).mono ?_); rintro e w1 ⟨rfl, hb⟩)
    go_ret2
    exact ⟨rfl, hb⟩
  | none =>
    rw [hr] at c1
    unfold puT at c1
    have c2 := fun w hT => toError_any t 16 w (by omega) hT
    go_enter Tryz.func182, Tryz.ntmps182
    go_wp2_with (first
      | (go_at_call 198; (with_reducible refine (c1 _).mono ?_); rintro e w1 ⟨rfl, hb⟩
         have hT1 := hT.at_ hb)
      | (go_at_call 199; (with_reducible refine (c2 _ hT1).mono ?_); rintro e w2 ⟨N, rfl, hb2⟩))
    go_ret2
    exact ⟨⟨_, _, rfl⟩, below_next hb hb2⟩
/-- What readDigits tells. -/
def rdF (most : Nat) (l : List UInt8) : Option Nat := if l.length ≤ most then puF 10 l else none
def rdV : Option Nat → Value
  | some n => .tuple #[.int .i64 (n : Int), .bool true]
  | none => .tuple #[.int .i64 0, .bool false]
theorem puV_lt {b : Nat} (_hb : 0 < b) : ∀ (l : List UInt8) (n m k : Nat), n < b ^ k → (∀ c d, dgv b c = some d → d < b) → puV b l n = some m → m < b ^ (k + l.length) := by
  intro l
  induction l with
  | nil => intro n m k h _ e; simp only [puV, Option.some.injEq] at e; subst e; simpa using h
  | cons c l ih =>
    intro n m k h hd e
    cases hc : dgv b c with
    | none => rw [puV_none hc] at e; cases e
    | some d =>
      rw [puV_some hc] at e
      have h1 := hd c d hc
      have := ih (n * b + d) m (k + 1) (by
        rw [Nat.pow_succ]
        have : (n + 1) * b ≤ b ^ k * b := Nat.mul_le_mul_right b h
        rw [Nat.succ_mul] at this
        omega) hd e
      rw [List.length_cons]
      rwa [show k + (l.length + 1) = k + 1 + l.length by omega]
theorem dgv_10 {c : UInt8} {d : Nat} (h : dgv 10 c = some d) : d < 10 := by
  unfold dgv at h
  split at h
  · injection h with h; omega
  · split at h
    · omega
    · cases h
theorem dgv_16 {c : UInt8} {d : Nat} (h : dgv 16 c = some d) : d < 16 := by
  unfold dgv at h
  split at h
  · injection h with h; omega
  · split at h
    · injection h with h; omega
    · cases h
theorem rd_lt {most : Nat} {l : List UInt8} {n : Nat} (h : rdF most l = some n) (hm : most ≤ 9) : n < 1000000000 := by
  unfold rdF at h
  split at h
  · rename_i hl
    unfold puF at h
    split at h
    · cases h
    · have := puV_lt (by omega) l 0 n 0 (by omega) (fun c d => dgv_10) h
      have h2 : 10 ^ (0 + l.length) ≤ 10 ^ 9 := Nat.pow_le_pow_right (by omega) (by omega)
      exact Nat.lt_of_lt_of_le this (Nat.le_trans h2 (by decide))
  · cases h
set_option maxHeartbeats 4000000 in
theorem readDigits_any (t : ByteArray) (most : Nat) (hm : most ≤ 9) (ht : t.size ≤ mostB) (w : World) (hT : Tabs w) : Calls Tryz.prog 183 #[.string t, .int .i64 most] w fun e w' => e = .returned (rdV (rdF most t.data.toList)) ∧ Below w.heap.size w w' := by
  unfold mostB at ht
  have hsz : t.data.toList.length = t.size := (Lib.size_eq t).symm
  by_cases hlt : most < t.size
  · have e : rdF most t.data.toList = none := by unfold rdF; rw [if_neg (by omega)]
    rw [e]
    unfold rdV
    go_enter Tryz.func183, Tryz.ntmps183
    go_wp2
    go_ret2
    exact ⟨rfl, Below.refl _ _⟩
  · have c1 := pub_10 t (by omega) w hT
    have e : rdF most t.data.toList = puF 10 t.data.toList := by unfold rdF; rw [if_pos (by omega)]
    have HL := fun n (h : puF 10 t.data.toList = some n) => rd_lt (e.trans h) hm
    rw [e]
    cases hr : puF 10 t.data.toList with
    | some n =>
      have hn := HL n hr
      rw [hr] at c1
      unfold rdV
      unfold pubP at c1
      have hn0 : (0 : Int) ≤ (n : Int) := Int.natCast_nonneg _
      have hn1 : (n : Int) < 1000000000 := by omega
      clear HL hn e hr
      go_enter Tryz.func183, Tryz.ntmps183
      go_wp2_with (go_at_call 182; (with_reducible refine c1.mono ?_); rintro e w1 ⟨rfl, hb⟩)
      go_quiet (fail)
      go_wp2
      go_ret2
      exact ⟨rfl, below_dr hb _⟩
    | none =>
      rw [hr] at c1
      unfold rdV
      unfold pubP at c1
      clear HL e hr
      go_enter Tryz.func183, Tryz.ntmps183
      go_wp2_with (go_at_call 182; (with_reducible refine c1.mono ?_); rintro e w1 ⟨⟨tp, p, rfl⟩, hb⟩)
      go_quiet (fail)
      go_wp2
      go_ret2
      exact ⟨rfl, below_dr hb _⟩
end Val
end Go.Proofs.YtdfcahdipalmkaaGreatDoor
