/- What Go's own internal/strconv.ParseUint answers, at bases 10 and 16 and bitSize 63. Conditions: the text has at most nine bytes. -/
import Derived.Test.YtcacabpcobmgoaaGreatDoorValC
import Derived.Lib.Strings
import Derived.Lib.Walk
import Derived.Lib.ConvBytes
import Derived.Lib.AtoiErrMem
import Derived.Lib.Hide
import Derived.Laws.Strings3
import Derived.Laws.Closers25
import Derived.Laws.Closers25b
import Derived.WalkKit
import Derived.BigCall
import Derived.BigGuard
namespace Go.Proofs.YtcacabpcobmgoaaGreatDoor
open Go.ChangeShapes Go.WideShapes Go.ChangeAt Go.RowKit
namespace Val
def loB (c : UInt8) : Int := bits .or .u8 (c.toNat : Int) 32
def dgv (b : Nat) (c : UInt8) : Option Nat := if 48 ≤ c.toNat ∧ c.toNat ≤ 57 then some (c.toNat - 48) else if 97 ≤ loB c ∧ loB c < 87 + b then some (loB c - 87).toNat else none
def puV (b : Nat) : List UInt8 → Nat → Option Nat
  | [], n => some n
  | c :: t, n => match dgv b c with
    | some d => puV b t (n * b + d)
    | none => none
theorem puV_some {b : Nat} {c : UInt8} {t : List UInt8} {n d : Nat} (h : dgv b c = some d) : puV b (c :: t) n = puV b t (n * b + d) := by rw [puV, h]
theorem puV_none {b : Nat} {c : UInt8} {t : List UInt8} {n : Nat} (h : dgv b c = none) : puV b (c :: t) n = none := by rw [puV, h]
theorem lower_any (c : Int) (w : World) : Calls Tryz.prog 105 #[.int .u8 c] w fun e w' => e = .returned (.int .u8 (bits .or .u8 c 32)) ∧ w = w' := by
  go_enter Tryz.func105, Tryz.ntmps105
  go_wp2
  go_ret
  exact ⟨rfl, rfl⟩
/-- The answer: a number and no error; or 0 and the error of the syntax. -/
def puT : Option Nat → Value
  | some n => .tuple #[.int .u64 (n : Int), .nilIface]
  | none => .tuple #[.int .u64 0, .iface 116 (.int .i64 2)]
def puF (b : Nat) (l : List UInt8) : Option Nat := if l = [] then none else puV b l 0
set_option maxRecDepth 100000 in
theorem pu_empty (b : Int) (w : World) : Calls Tryz.prog 85 #[.string ⟨#[]⟩, .int .i64 b, .int .i64 63] w fun e w' => e = .returned (puT none) ∧ w = w' := by
  go_enter Tryz.func85, Tryz.ntmps85
  go_wp2
  go_ret2
  exact ⟨rfl, rfl⟩
set_option maxHeartbeats 16000000 in
set_option maxRecDepth 100000 in
theorem pu_10 (t : ByteArray) (hne : t.size ≠ 0) (hmax : t.size ≤ 9) (w : World) :
    Calls Tryz.prog 85 #[.string t, .int .i64 10, .int .i64 63] w fun e w' => e = .returned (puT (puV 10 t.data.toList 0)) ∧ Below w.heap.size w w' := by
  have hemp : t.toList.isEmpty = false := by
    rw [← decide_eq_emptyBytes]
    exact decide_eq_false (fun h => hne (by rw [h]; rfl))
  have hcv := Lib.run_convert_string_bytes (P := Tryz.prog) w 9 53 5 t (u := .string) Tryz.underlying9 Tryz.underlying53 Tryz.underlying5
  have hB : ∀ j, j < t.size → (Lib.bytesWorld w 5 t).cell? ⟨w.heap.size, j, none⟩ = some (.int .u8 (t.data.toList.getD j 0).toNat) := fun j hj => Lib.bytesWorld_cell w 5 t j hj
  have hBb := Lib.bytesWorld_below w 5 t
  obtain ⟨W1, hW1⟩ : ∃ W1, W1 = Lib.bytesWorld w 5 t := ⟨_, rfl⟩
  rw [← hW1] at hcv hB hBb
  clear hW1
  obtain ⟨bs, hL⟩ : ∃ bs, bs = t.data.toList := ⟨_, rfl⟩
  have hLn : bs.length = t.size := by rw [hL, Lib.size_eq]
  rw [← hL] at hB ⊢
  clear hL
  have hmv : IntKind.u64.wrap (IntKind.u64.wrap 9223372036854775808 - 1) = 9223372036854775807 := by
    rw [IntKind.wrap_u64, IntKind.wrap_u64]
    decide
  obtain ⟨R, hR⟩ : ∃ R, R = puT (puV 10 bs 0) := ⟨_, rfl⟩
  rw [← hR]
  have HR := Lib.hid hR
  clear hR
  go_enter Tryz.func85, Tryz.ntmps85
  go_wp2
  go_loop [12, 13, 101] (fun vu vn vi => ∃ (k acc : Nat) (a : Int), vu = .bool false ∧ vn = .int .u64 a ∧ vi = .int .i64 k ∧ k ≤ t.size ∧ Hid (a = (acc : Int) ∧ acc < 10 ^ k ∧ puV 10 bs 0 = puV 10 (bs.drop k) acc)) (fun _ _ vi => t.size - (intOf vi).toNat)
  case atStart => exact ⟨0, 0, 0, rfl, rfl, rfl, by omega, rfl, by omega, rfl⟩
  case round =>
    obtain ⟨k, acc, a, rfl, rfl, rfl, hk, hh⟩ := hrel
    obtain ⟨ha, hacc, hdec⟩ := hh.out
    clear hh
    have hpow : 10 ^ k ≤ 10 ^ 9 := Nat.pow_le_pow_right (by omega) (by omega)
    have hacc2 : acc < 68719476736 := Nat.lt_of_lt_of_le (Nat.lt_of_lt_of_le hacc hpow) (by decide)
    have a0 : 0 ≤ a := by omega
    have a1 : a < 68719476736 := by omega
    clear hpow hacc2
    by_cases hkn : k < t.size
    · have hc := hB k hkn
      have hdrop : bs.drop k = bs[k]'(by omega) :: bs.drop (k + 1) := List.drop_eq_getElem_cons (by omega)
      have hget : bs.getD k 0 = bs[k]'(by omega) := by simp [List.getD, List.getElem?_eq_getElem (show k < bs.length by omega)]
      rw [hdrop] at hdec
      rw [hget] at hc
      generalize bs[k]'(by omega) = c at hc hdec
      have hc256 : c.toNat < 256 := c.toNat_lt
      clear hB hdrop hget
      by_cases hdig : 48 ≤ c.toNat ∧ c.toNat ≤ 57
      · have hF := puV_some (t := bs.drop (k + 1)) (n := acc) (show dgv 10 c = some (c.toNat - 48) by unfold dgv; rw [if_pos hdig])
        obtain ⟨hd0, hd1⟩ := hdig
        have HN : Hid (a * 10 + ((c.toNat : Int) - 48) = ((acc * 10 + (c.toNat - 48) : Nat) : Int) ∧ acc * 10 + (c.toNat - 48) < 10 ^ (k + 1) ∧ puV 10 bs 0 = puV 10 (bs.drop (k + 1)) (acc * 10 + (c.toNat - 48))) :=
          ⟨by omega, by rw [Nat.pow_succ]; omega, hdec.trans hF⟩
        clear hacc hF hdec ha
        go_wp2
        refine ⟨⟨k + 1, acc * 10 + (c.toNat - 48), a * 10 + ((c.toNat : Int) - 48), rfl, (by first | rfl | (congr 1; omega)), (by first | rfl | (congr 1; omega)), by omega, HN⟩, by simp [intOf]; omega⟩
      · have hv0 := bits_lo_u8 .or (c.toNat : Int) 32
        have hv1 := bits_hi_u8 .or (c.toNat : Int) 32
        by_cases h95 : c.toNat = 95
        · have hF := puV_none (t := bs.drop (k + 1)) (n := acc) (show dgv 10 c = none by
            unfold dgv loB
            rw [if_neg hdig, h95, if_neg (by decide)])
          obtain rfl : R = puT none := by rw [HR.out, hdec, hF]
          rw [h95] at hc
          have cl := fun w => lower_any 95 w
          rw [show bits .or .u8 95 32 = 127 from by decide] at cl
          clear hacc hF hdec ha HR hv0 hv1 hdig hc256 h95
          go_wp2_with (go_at_call 105; (with_reducible refine (cl _).mono ?_); rintro e w' ⟨rfl, rfl⟩)
          go_ret2
          exact ⟨rfl, hBb⟩
        have h95' : ((c.toNat : Int) == 95) = false := by simpa using (by omega : ¬ ((c.toNat : Int) = 95))
        clear h95
        have cl := fun w => lower_any (c.toNat : Int) w
        by_cases hlet : 97 ≤ loB c ∧ loB c < 87 + ((10 : Nat) : Int)
        · have hF := puV_some (t := bs.drop (k + 1)) (n := acc) (show dgv 10 c = some (loB c - 87).toNat by unfold dgv; rw [if_neg hdig, if_pos hlet])
          unfold loB at hlet hF
          generalize bits .or .u8 (c.toNat : Int) 32 = lo at *
          obtain ⟨hl0, hl1⟩ := hlet
          have HN : Hid (a * 10 + (lo - 97 + 10) = ((acc * 10 + (lo - 87).toNat : Nat) : Int) ∧ acc * 10 + (lo - 87).toNat < 10 ^ (k + 1) ∧ puV 10 bs 0 = puV 10 (bs.drop (k + 1)) (acc * 10 + (lo - 87).toNat)) :=
            ⟨by omega, by rw [Nat.pow_succ]; omega, hdec.trans hF⟩
          have hl2 : lo ≤ 122 := by omega
          have hl3 : lo < 87 + 10 := by omega
          clear hl1
          clear hacc hF hdec ha hv0 hv1
          go_wp2_with (go_at_call 105; (with_reducible refine (cl _).mono ?_); rintro e w' ⟨rfl, rfl⟩)
          all_goals first
            | omega
            | (refine ⟨⟨k + 1, acc * 10 + (lo - 87).toNat, a * 10 + (lo - 97 + 10), rfl, (by first | rfl | (congr 1; omega)), (by first | rfl | (congr 1; omega)), by omega, HN⟩, by simp [intOf]; omega⟩)
        · have hF := puV_none (t := bs.drop (k + 1)) (n := acc) (show dgv 10 c = none by unfold dgv; rw [if_neg hdig, if_neg hlet])
          obtain rfl : R = puT none := by rw [HR.out, hdec, hF]
          unfold loB at hlet
          generalize bits .or .u8 (c.toNat : Int) 32 = lo at *
          clear hacc hF hdec ha HR
          by_cases hl0 : 97 ≤ lo
          · have hl1 : 87 + 10 ≤ lo := by omega
            by_cases hl2 : lo ≤ 122
            · go_wp2_with (go_at_call 105; (with_reducible refine (cl _).mono ?_); rintro e w' ⟨rfl, rfl⟩)
              all_goals first
                | omega
                | (go_ret2; exact ⟨rfl, hBb⟩)
            · go_wp2_with (go_at_call 105; (with_reducible refine (cl _).mono ?_); rintro e w' ⟨rfl, rfl⟩)
              all_goals first
                | omega
                | (go_ret2; exact ⟨rfl, hBb⟩)
          · go_wp2_with (go_at_call 105; (with_reducible refine (cl _).mono ?_); rintro e w' ⟨rfl, rfl⟩)
            all_goals first
              | omega
              | (go_ret2; exact ⟨rfl, hBb⟩)
    · have hkk : k = t.size := by omega
      subst hkk
      have hF : puV 10 (bs.drop t.size) acc = some acc := by rw [List.drop_eq_nil_of_le (by omega)]; rfl
      rw [hF] at hdec
      obtain rfl : R = puT (some acc) := by rw [HR.out, hdec]
      subst ha
      clear hacc a0 a1 HR hdec hF hB
      go_wp2
      go_ret2
      exact ⟨rfl, hBb⟩
set_option maxHeartbeats 16000000 in
set_option maxRecDepth 100000 in
theorem pu_16 (t : ByteArray) (hne : t.size ≠ 0) (hmax : t.size ≤ 9) (w : World) :
    Calls Tryz.prog 85 #[.string t, .int .i64 16, .int .i64 63] w fun e w' => e = .returned (puT (puV 16 t.data.toList 0)) ∧ Below w.heap.size w w' := by
  have hemp : t.toList.isEmpty = false := by
    rw [← decide_eq_emptyBytes]
    exact decide_eq_false (fun h => hne (by rw [h]; rfl))
  have hcv := Lib.run_convert_string_bytes (P := Tryz.prog) w 9 53 5 t (u := .string) Tryz.underlying9 Tryz.underlying53 Tryz.underlying5
  have hB : ∀ j, j < t.size → (Lib.bytesWorld w 5 t).cell? ⟨w.heap.size, j, none⟩ = some (.int .u8 (t.data.toList.getD j 0).toNat) := fun j hj => Lib.bytesWorld_cell w 5 t j hj
  have hBb := Lib.bytesWorld_below w 5 t
  obtain ⟨W1, hW1⟩ : ∃ W1, W1 = Lib.bytesWorld w 5 t := ⟨_, rfl⟩
  rw [← hW1] at hcv hB hBb
  clear hW1
  obtain ⟨bs, hL⟩ : ∃ bs, bs = t.data.toList := ⟨_, rfl⟩
  have hLn : bs.length = t.size := by rw [hL, Lib.size_eq]
  rw [← hL] at hB ⊢
  clear hL
  have hmv : IntKind.u64.wrap (IntKind.u64.wrap 9223372036854775808 - 1) = 9223372036854775807 := by
    rw [IntKind.wrap_u64, IntKind.wrap_u64]
    decide
  obtain ⟨R, hR⟩ : ∃ R, R = puT (puV 16 bs 0) := ⟨_, rfl⟩
  rw [← hR]
  have HR := Lib.hid hR
  clear hR
  go_enter Tryz.func85, Tryz.ntmps85
  go_wp2
  go_loop [12, 13, 101] (fun vu vn vi => ∃ (k acc : Nat) (a : Int), vu = .bool false ∧ vn = .int .u64 a ∧ vi = .int .i64 k ∧ k ≤ t.size ∧ Hid (a = (acc : Int) ∧ acc < 16 ^ k ∧ puV 16 bs 0 = puV 16 (bs.drop k) acc)) (fun _ _ vi => t.size - (intOf vi).toNat)
  case atStart => exact ⟨0, 0, 0, rfl, rfl, rfl, by omega, rfl, by omega, rfl⟩
  case round =>
    obtain ⟨k, acc, a, rfl, rfl, rfl, hk, hh⟩ := hrel
    obtain ⟨ha, hacc, hdec⟩ := hh.out
    clear hh
    have hpow : 16 ^ k ≤ 16 ^ 9 := Nat.pow_le_pow_right (by omega) (by omega)
    have hacc2 : acc < 68719476736 := Nat.lt_of_lt_of_le (Nat.lt_of_lt_of_le hacc hpow) (by decide)
    have a0 : 0 ≤ a := by omega
    have a1 : a < 68719476736 := by omega
    clear hpow hacc2
    by_cases hkn : k < t.size
    · have hc := hB k hkn
      have hdrop : bs.drop k = bs[k]'(by omega) :: bs.drop (k + 1) := List.drop_eq_getElem_cons (by omega)
      have hget : bs.getD k 0 = bs[k]'(by omega) := by simp [List.getD, List.getElem?_eq_getElem (show k < bs.length by omega)]
      rw [hdrop] at hdec
      rw [hget] at hc
      generalize bs[k]'(by omega) = c at hc hdec
      have hc256 : c.toNat < 256 := c.toNat_lt
      clear hB hdrop hget
      by_cases hdig : 48 ≤ c.toNat ∧ c.toNat ≤ 57
      · have hF := puV_some (t := bs.drop (k + 1)) (n := acc) (show dgv 16 c = some (c.toNat - 48) by unfold dgv; rw [if_pos hdig])
        obtain ⟨hd0, hd1⟩ := hdig
        have HN : Hid (a * 16 + ((c.toNat : Int) - 48) = ((acc * 16 + (c.toNat - 48) : Nat) : Int) ∧ acc * 16 + (c.toNat - 48) < 16 ^ (k + 1) ∧ puV 16 bs 0 = puV 16 (bs.drop (k + 1)) (acc * 16 + (c.toNat - 48))) :=
          ⟨by omega, by rw [Nat.pow_succ]; omega, hdec.trans hF⟩
        clear hacc hF hdec ha
        go_wp2
        refine ⟨⟨k + 1, acc * 16 + (c.toNat - 48), a * 16 + ((c.toNat : Int) - 48), rfl, (by first | rfl | (congr 1; omega)), (by first | rfl | (congr 1; omega)), by omega, HN⟩, by simp [intOf]; omega⟩
      · have hv0 := bits_lo_u8 .or (c.toNat : Int) 32
        have hv1 := bits_hi_u8 .or (c.toNat : Int) 32
        by_cases h95 : c.toNat = 95
        · have hF := puV_none (t := bs.drop (k + 1)) (n := acc) (show dgv 16 c = none by
            unfold dgv loB
            rw [if_neg hdig, h95, if_neg (by decide)])
          obtain rfl : R = puT none := by rw [HR.out, hdec, hF]
          rw [h95] at hc
          have cl := fun w => lower_any 95 w
          rw [show bits .or .u8 95 32 = 127 from by decide] at cl
          clear hacc hF hdec ha HR hv0 hv1 hdig hc256 h95
          go_wp2_with (go_at_call 105; (with_reducible refine (cl _).mono ?_); rintro e w' ⟨rfl, rfl⟩)
          go_ret2
          exact ⟨rfl, hBb⟩
        have h95' : ((c.toNat : Int) == 95) = false := by simpa using (by omega : ¬ ((c.toNat : Int) = 95))
        clear h95
        have cl := fun w => lower_any (c.toNat : Int) w
        by_cases hlet : 97 ≤ loB c ∧ loB c < 87 + ((16 : Nat) : Int)
        · have hF := puV_some (t := bs.drop (k + 1)) (n := acc) (show dgv 16 c = some (loB c - 87).toNat by unfold dgv; rw [if_neg hdig, if_pos hlet])
          unfold loB at hlet hF
          generalize bits .or .u8 (c.toNat : Int) 32 = lo at *
          obtain ⟨hl0, hl1⟩ := hlet
          have HN : Hid (a * 16 + (lo - 97 + 10) = ((acc * 16 + (lo - 87).toNat : Nat) : Int) ∧ acc * 16 + (lo - 87).toNat < 16 ^ (k + 1) ∧ puV 16 bs 0 = puV 16 (bs.drop (k + 1)) (acc * 16 + (lo - 87).toNat)) :=
            ⟨by omega, by rw [Nat.pow_succ]; omega, hdec.trans hF⟩
          have hl2 : lo ≤ 122 := by omega
          have hl3 : lo < 87 + 16 := by omega
          clear hl1
          clear hacc hF hdec ha hv0 hv1
          go_wp2_with (go_at_call 105; (with_reducible refine (cl _).mono ?_); rintro e w' ⟨rfl, rfl⟩)
          all_goals first
            | omega
            | (refine ⟨⟨k + 1, acc * 16 + (lo - 87).toNat, a * 16 + (lo - 97 + 10), rfl, (by first | rfl | (congr 1; omega)), (by first | rfl | (congr 1; omega)), by omega, HN⟩, by simp [intOf]; omega⟩)
        · have hF := puV_none (t := bs.drop (k + 1)) (n := acc) (show dgv 16 c = none by unfold dgv; rw [if_neg hdig, if_neg hlet])
          obtain rfl : R = puT none := by rw [HR.out, hdec, hF]
          unfold loB at hlet
          generalize bits .or .u8 (c.toNat : Int) 32 = lo at *
          clear hacc hF hdec ha HR
          by_cases hl0 : 97 ≤ lo
          · have hl1 : 87 + 16 ≤ lo := by omega
            by_cases hl2 : lo ≤ 122
            · go_wp2_with (go_at_call 105; (with_reducible refine (cl _).mono ?_); rintro e w' ⟨rfl, rfl⟩)
              all_goals first
                | omega
                | (go_ret2; exact ⟨rfl, hBb⟩)
            · go_wp2_with (go_at_call 105; (with_reducible refine (cl _).mono ?_); rintro e w' ⟨rfl, rfl⟩)
              all_goals first
                | omega
                | (go_ret2; exact ⟨rfl, hBb⟩)
          · go_wp2_with (go_at_call 105; (with_reducible refine (cl _).mono ?_); rintro e w' ⟨rfl, rfl⟩)
            all_goals first
              | omega
              | (go_ret2; exact ⟨rfl, hBb⟩)
    · have hkk : k = t.size := by omega
      subst hkk
      have hF : puV 16 (bs.drop t.size) acc = some acc := by rw [List.drop_eq_nil_of_le (by omega)]; rfl
      rw [hF] at hdec
      obtain rfl : R = puT (some acc) := by rw [HR.out, hdec]
      subst ha
      clear hacc a0 a1 HR hdec hF hB
      go_wp2
      go_ret2
      exact ⟨rfl, hBb⟩
end Val
end Go.Proofs.YtcacabpcobmgoaaGreatDoor
