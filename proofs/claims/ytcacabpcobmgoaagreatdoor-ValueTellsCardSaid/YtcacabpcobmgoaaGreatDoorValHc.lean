/- What printColor answers; Print, whole. Conditions: the number is a color's; the tables are laid. -/
import Derived.Test.YtcacabpcobmgoaaGreatDoorValPn
import Derived.Lib.EndianBits
import Derived.Lib.TrailingZeros
/- How Go's own strconv.FormatInt writes a number by sixteen. Conditions: the number is small; the tables are laid. -/
namespace Go.Proofs.YtcacabpcobmgoaaGreatDoor
open Go.ChangeShapes Go.WideShapes Go.ChangeAt Go.RowKit
namespace Val
def hexT (n : Nat) : List UInt8 := if n < 16 then [hexC n] else hexT (n / 16) ++ [hexC (n % 16)]
termination_by n
decreasing_by omega
theorem hexT_lt {n : Nat} (h : n < 16) : hexT n = [hexC n] := by rw [hexT, if_pos h]
theorem hexT_ge {n : Nat} (h : 16 ≤ n) : hexT n = hexT (n / 16) ++ [hexC (n % 16)] := by
  conv => lhs; rw [hexT, if_neg (by omega)]
theorem hex6_is {n : Nat} (h : n < 16777216) : hex6 n = List.replicate (6 - (hexT n).length) 48 ++ hexT n ∧ 1 ≤ (hexT n).length ∧ (hexT n).length ≤ 6 :=
  pad_gen (b := 16) (by omega) hexC hexT (fun _ h => hexT_lt h) (fun _ h => hexT_ge h) 5 n h
def digs : ByteArray := ⟨#[48, 49, 50, 51, 52, 53, 54, 55, 56, 57, 97, 98, 99, 100, 101, 102, 103, 104, 105, 106, 107, 108, 109, 110, 111, 112, 113, 114, 115, 116, 117, 118, 119, 120, 121, 122]⟩
set_option maxRecDepth 100000 in
theorem digit_at (d : Nat) (hd : d < 16) (w : World) : (Instr.index 9 (.string ⟨#[48, 49, 50, 51, 52, 53, 54, 55, 56, 57, 97, 98, 99, 100, 101, 102, 103, 104, 105, 106, 107, 108, 109, 110, 111, 112, 113, 114, 115, 116, 117, 118, 119, 120, 121, 122]⟩) (.int .u64 d)).run Tryz.prog w = .ok (.int .u8 ((hexC d).toNat : Int)) w := by
  match d, hd with
  | 0, _ => rfl
  | 1, _ => rfl
  | 2, _ => rfl
  | 3, _ => rfl
  | 4, _ => rfl
  | 5, _ => rfl
  | 6, _ => rfl
  | 7, _ => rfl
  | 8, _ => rfl
  | 9, _ => rfl
  | 10, _ => rfl
  | 11, _ => rfl
  | 12, _ => rfl
  | 13, _ => rfl
  | 14, _ => rfl
  | 15, _ => rfl
  | n + 16, h => exact absurd h (by omega)
theorem pow2_any (w : World) : Calls Tryz.prog 116 #[.int .i64 16] w fun e w' => e = .returned (.bool true) ∧ w = w' := by
  have hb : bits .and .i64 16 15 = 0 := by decide +kernel
  go_enter Tryz.func116, Tryz.ntmps116
  go_wp2
  go_ret
  exact ⟨rfl, rfl⟩
theorem ctz64_any (w : World) (hT : Tabs w) : Calls Tryz.prog 130 #[.int .u64 16] w fun e w' => e = .returned (.int .i64 4) ∧ w = w' := by
  have hb : bits .and .u64 16 (IntKind.u64.wrap (-16)) = 16 := by decide +kernel
  have hm : IntKind.u64.wrap 4573923408821661840 = 4573923408821661840 := by decide +kernel
  have hc := hT.bru.cell (g := 7) (by kernel_rfl) 15 (by decide)
  rw [show bruT.getD 15 0 = 4 from by decide] at hc
  go_enter Tryz.func130, Tryz.ntmps130
  go_wp2
  go_ret
  exact ⟨rfl, rfl⟩
theorem ctz_any (w : World) (hT : Tabs w) : Calls Tryz.prog 117 #[.int .u64 16] w fun e w' => e = .returned (.int .i64 4) ∧ w = w' := by
  go_enter Tryz.func117, Tryz.ntmps117
  go_wp2_with (go_at_call 130; (with_reducible refine (ctz64_any _ hT).mono ?_); rintro e w1 ⟨rfl, rfl⟩)
  go_ret
  exact ⟨rfl, rfl⟩
end Val
end Go.Proofs.YtcacabpcobmgoaaGreatDoor
/- Go's own formatBits at sixteen. Conditions: the number is small; the tables are laid. -/
namespace Go.Proofs.YtcacabpcobmgoaaGreatDoor
open Go.ChangeShapes Go.WideShapes Go.ChangeAt Go.RowKit
namespace Val
abbrev z65 : Array Value := (List.replicate 65 (Value.int .u8 0)).toArray
theorem zero65 (w : World) : (zeroValue 126).run Tryz.prog w = .ok (.agg z65) w := by kernel_rfl
/-- The last digits stand in the buffer, from q on. -/
def Dig (cs : Array Value) (q : Nat) (L : List UInt8) : Prop := cs.size = 65 ∧ ∀ t c, L[t]? = some c → cs[q + t]? = some (.int .u8 (c.toNat : Int))
theorem Dig.put {cs : Array Value} {q : Nat} {L : List UInt8} (h : Dig cs (q + 1) L) (hq : q < 65) (d : UInt8) : Dig (cs.setIfInBounds q (.int .u8 (d.toNat : Int))) q (d :: L) := by
  refine ⟨by simpa using h.1, fun t c ht => ?_⟩
  cases t with
  | zero =>
    simp only [List.getElem?_cons_zero, Option.some.injEq] at ht
    subst ht
    rw [Nat.add_zero, Array.getElem?_setIfInBounds_self_of_lt (by rw [h.1]; exact hq)]
  | succ t =>
    simp only [List.getElem?_cons_succ] at ht
    rw [Array.getElem?_setIfInBounds_ne (by omega)]
    have := h.2 t c ht
    rwa [show q + 1 + t = q + (t + 1) by omega] at this
theorem Dig.at_ {cs : Array Value} {q : Nat} {L : List UInt8} (h : Dig cs q L) {i : Nat} (hi : i < 65) : ∃ u, cs[i]? = some u := ⟨cs[i]'(by rw [h.1]; exact hi), Array.getElem?_eq_getElem (by rw [h.1]; exact hi)⟩
theorem slice65 (w : World) (g p : Nat) (hp : p < 65) : (Instr.sliceAt 126 (.pointer (some ⟨g, 0, none⟩)) (some (.int .i64 (p : Int))) none none).run Tryz.prog w = .ok (.slice (some ⟨g, p, none⟩) (65 - p) (65 - p)) w := by
  have hl : Tryz.prog.arrayLen 126 = 65 := by kernel_rfl
  have hs : (sizeOf (Tryz.prog.elem 126)).run Tryz.prog w = .ok 1 w := by kernel_rfl
  rw [run_sliceAt_array_l w 126 ⟨g, 0, none⟩ (by kernel_rfl) .i64 (p : Int) (by omega) (by rw [hl]; omega), hs]
  have e : slicedAt ⟨g, 0, none⟩ (p : Int).toNat 65 65 1 = .slice (some ⟨g, p, none⟩) (65 - p) (65 - p) := by
    unfold slicedAt
    rw [Int.toNat_natCast, if_neg (by omega)]
    have : (⟨g, 0, none⟩ : Addr).add (p * 1) = ⟨g, p, none⟩ := by rw [Nat.mul_one]; unfold Addr.add; split <;> simp_all
    rw [this]
  simp only [Result.andThen_ok, hl, e]
set_option maxRecDepth 100000 in
set_option maxHeartbeats 16000000 in
theorem bits16_any (n : Nat) (hn : n < 16777216) (w : World) (hT : Tabs w) : Calls Tryz.prog 93 #[.slice none 0 0, .int .u64 n, .int .i64 16, .bool false, .bool false] w fun e w' => e = .returned (.tuple #[.slice none 0 0, .string (toB (hexT n))]) ∧ Below w.heap.size w w' := by
  obtain ⟨_, _, hlen⟩ := hex6_is hn
  obtain ⟨R, hR⟩ : ∃ R, R = hexT n := ⟨_, rfl⟩
  rw [← hR] at hlen ⊢
  have HR0 : Hid (hexT n ++ [] = R) := by show hexT n ++ [] = R; rw [List.append_nil, hR]
  clear hR
  have c1 := fun w => pow2_any w
  have c2 := fun w hT => ctz_any w hT
  have hz := zero65
  have K0 : Blk (w.alloc (.cells z65 126)) w.heap.size 126 z65 := Blk.new w _ _
  have D0 : Dig z65 65 [] := ⟨by decide, fun t c h => by cases h⟩
  have hB0 := below_al (Below.refl w.heap.size w) (.cells z65 126)
  go_enter Tryz.func93, Tryz.ntmps93
  go_wp2_with (first
    | (go_at_call 116; (with_reducible refine (c1 _).mono ?_); rintro e w1 ⟨rfl, rfl⟩)
    | (go_at_call 117; (with_reducible refine (c2 _ (hT.al _)).mono ?_); rintro e w2 ⟨rfl, rfl⟩))
  go_loopw [1, 13] (fun u i wr => ∃ (v q : Nat) (L : List UInt8) (cs : Array Value), u = .int .u64 v ∧ i = .int .i64 q ∧ v < 16777216 ∧ q + L.length = 65 ∧ Hid (hexT v ++ L = R) ∧ Hid (Dig cs q L) ∧ Blk wr w.heap.size 126 cs ∧ Below w.heap.size w wr) (fun u _ _ => (intOf u).toNat)
  case atStart => exact ⟨n, 65, [], z65, rfl, rfl, hn, rfl, HR0, D0, K0, hB0⟩
  case round =>
    obtain ⟨v, q, L, cs, rfl, rfl, hv, hq, HR, HD, K, hB⟩ := hrel
    clear K0 D0 hB0 HR0
    have hlv : 1 ≤ (hexT v).length := (hex6_is hv).2.1
    have hlr : (hexT v).length + L.length = R.length := by rw [← HR.out, List.length_append]
    obtain ⟨p, rfl⟩ : ∃ p, q = p + 1 := ⟨q - 1, by omega⟩
    have p0 : (0 : Int) ≤ (p : Int) := Int.natCast_nonneg _
    have p1 : (p : Int) < 65 := by omega
    have v0 : (0 : Int) ≤ (v : Int) := Int.natCast_nonneg _
    have v1 : (v : Int) < 16777216 := by omega
    obtain ⟨old, ho⟩ := HD.out.at_ (i := p) (by omega)
    have hc := (K.cell p).trans ho
    have hf := K.frozen p
    by_cases hge : 16 ≤ v
    · have hg2 : (16 : Int) ≤ (v : Int) := by omega
      have hand : bits .and .u64 (v : Int) 15 = ((v % 16 : Nat) : Int) := by
        have := bits_mask .u64 64 (by decide) wraps_u64 4 (by decide) (v : Int) v0 (by omega)
        rw [show ((v % 16 : Nat) : Int) = (v : Int) % 16 by omega]
        simpa using this
      have hd := fun w => digit_at (v % 16) (Nat.mod_lt _ (by omega)) w
      have HR1 : Hid (hexT (v / 16) ++ (hexC (v % 16) :: L) = R) := by
        show hexT (v / 16) ++ (hexC (v % 16) :: L) = R
        rw [← HR.out, hexT_ge hge, List.append_assoc]
        rfl
      have HD1 := Lib.hid (HD.out.put (by omega) (hexC (v % 16)))
      have K1 := K.set_ p (.int .u8 ((hexC (v % 16)).toNat : Int))
      have hB1 := below_set hB (p := ⟨w.heap.size, p, none⟩) (Nat.le_refl _) (.int .u8 ((hexC (v % 16)).toNat : Int))
      generalize hexC (v % 16) = d at *
      clear hlv hlr HR HD
      generalize v % 16 = r at *
      go_wp2
      go_roundw
      case rel => exact ⟨v / 16, p, d :: L, _, by go_num, by go_num, by omega, by simp only [List.length_cons]; omega, HR1, HD1, K1, hB1⟩
      case measure => simp [intOf]; omega
    · have hg2 : ¬ (16 : Int) ≤ (v : Int) := by omega
      have hd := fun w => digit_at v (by omega) w
      have HR1 : Hid (hexC v :: L = R) := by
        show hexC v :: L = R
        rw [← HR.out, hexT_lt (by omega)]
        rfl
      have HD1 := HD.out.put (by omega) (hexC v)
      have K1 := K.set_ p (.int .u8 ((hexC v).toNat : Int))
      have hB1 := below_set hB (p := ⟨w.heap.size, p, none⟩) (Nat.le_refl _) (.int .u8 ((hexC v).toNat : Int))
      have hcv := fun cap => run_convert_bytes_back (P := Tryz.prog) (wr.setCell ⟨w.heap.size, p, none⟩ (.int .u8 ((hexC v).toNat : Int))) 53 9 5 ⟨w.heap.size, p, none⟩ cap (hexC v :: L) Tryz.underlying53 Tryz.underlying5 Tryz.underlying9 (fun j hj => by
        have h := HD1.2 j _ (List.getElem?_eq_getElem hj)
        rw [← K1.cell] at h
        have e : (⟨w.heap.size, p, none⟩ : Addr).add j = ⟨w.heap.size, p + j, none⟩ := by unfold Addr.add; split <;> simp_all
        rw [e, h])
      have hL1 : L.length + 1 = 65 - p := by omega
      rw [HR1.out] at hcv
      have hRl : R.length = 65 - p := by rw [← HR1.out, List.length_cons]; omega
      rw [hRl] at hcv
      have hsl := fun W => slice65 W w.heap.size p (by omega)
      clear HR1 HD1
      generalize hexC v = d at *
      clear hlv hlr HR HD
      go_wp2
      go_ret2
      exact ⟨rfl, hB1⟩
end Val
end Go.Proofs.YtcacabpcobmgoaaGreatDoor
namespace Go.Proofs.YtcacabpcobmgoaaGreatDoor
open Go.ChangeShapes Go.WideShapes Go.ChangeAt Go.RowKit
namespace Val
set_option maxHeartbeats 4000000 in
theorem fmtI16_any (n : Nat) (hn : n < 16777216) (w : World) (hT : Tabs w) : Calls Tryz.prog 77 #[.int .i64 n, .int .i64 16] w fun e w' => e = .returned (.string (toB (hexT n))) ∧ Below w.heap.size w w' := by
  have c := bits16_any n hn w hT
  have n0 : (0 : Int) ≤ (n : Int) := Int.natCast_nonneg _
  have n1 : (n : Int) < 16777216 := by omega
  have n2 : ¬ (n : Int) < 0 := by omega
  generalize toB (hexT n) = t at *
  go_enter Tryz.func77, Tryz.ntmps77
  go_wp2_with (go_at_call 93; (with_reducible refine c.mono ?_); rintro e w1 ⟨rfl, hb⟩)
  go_ret
  exact ⟨rfl, hb⟩
theorem fmt16_any (n : Nat) (hn : n < 16777216) (w : World) (hT : Tabs w) : Calls Tryz.prog 55 #[.int .i64 n, .int .i64 16] w fun e w' => e = .returned (.string (toB (hexT n))) ∧ Below w.heap.size w w' := by
  have c := fmtI16_any n hn w hT
  generalize toB (hexT n) = t at *
  go_enter Tryz.func55, Tryz.ntmps55
  go_wp2_with (go_at_call 77; (with_reducible refine c.mono ?_); rintro e w1 ⟨rfl, hb⟩)
  go_ret
  exact ⟨rfl, hb⟩
theorem color_any : ColorC := by
  intro n w h0 h1 hT
  obtain ⟨m, rfl⟩ : ∃ m : Nat, n = (m : Int) := ⟨n.toNat, by omega⟩
  have hm : m < 16777216 := by omega
  rw [Int.toNat_natCast]
  obtain ⟨e6, _, l6⟩ := hex6_is hm
  have c := padded_any (m : Int) 16 (toB (hexT m)) (by rw [toB_size]; exact l6) (fun w hT => fmt16_any m hm w hT) w hT
  rw [toB_size, toB_cat, ← e6] at c
  have hl : (toB (hex6 m)).size = 6 := by rw [toB_size]; unfold hex6; simp
  have hR : ⟨#[35]⟩ ++ toB (hex6 m) = toB (35 :: hex6 m) := toB_cat [35] (hex6 m)
  rw [← hR]
  clear hR e6 l6
  generalize toB (hex6 m) = t at *
  go_enter Tryz.func36, Tryz.ntmps36
  go_wp2_with (go_at_call 57; (with_reducible refine c.mono ?_); rintro e w1 ⟨rfl, hb⟩)
  go_ret
  exact ⟨rfl, hb⟩
end Val
end Go.Proofs.YtcacabpcobmgoaaGreatDoor
