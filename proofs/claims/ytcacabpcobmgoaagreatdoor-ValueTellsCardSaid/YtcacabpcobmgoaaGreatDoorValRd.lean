/- What Go's own strconv.ParseUint answers, and readDigits, of package value. Conditions: the text is short; the error's variable holds an interface's value. -/
import Derived.Test.YtcacabpcobmgoaaGreatDoorValPu
import Derived.Test.YtcacabpcobmgoaaGreatDoorShelf
import Derived.Test.YtcacabpcobmgoaaGreatDoorBlk
import Derived.Deep.QuietTactic
import Derived.BigQuiet
namespace Go.Proofs.YtcacabpcobmgoaaGreatDoor
open Go.ChangeShapes Go.WideShapes Go.ChangeAt Go.RowKit
namespace Val
theorem Tabs.al {w : World} (h : Tabs w) (o : Obj) : Tabs (w.alloc o) := h.at_ (below_al (Below.refl _ _) o)
def pubP (r : Option Nat) (e : Ending) : Prop := match r with
  | some n => e = .returned (.tuple #[.int .u64 (n : Int), .nilIface])
  | none => ∃ tp p, e = .returned (.tuple #[.int .u64 0, .iface tp p])
theorem toError_any (s : ByteArray) (b : Int) (w : World) (hs : s.size ≤ 1000) (hT : Tabs w) : Calls Tryz.prog 86 #[.string ⟨#[80, 97, 114, 115, 101, 85, 105, 110, 116]⟩, .string s, .int .i64 b, .int .i64 63, .iface 116 (.int .i64 2)] w fun e w' => ∃ N : Nat, e = .returned (.iface 118 (.pointer (some ⟨N, 0, none⟩))) ∧ Below w.heap.size w w' := by
  obtain ⟨tp, p, hv⟩ := hT.err
  exact (Tryz.strconv_toError_syntax ⟨#[80, 97, 114, 115, 101, 85, 105, 110, 116]⟩ s b 63 _ w (by omega) hv (.inr ⟨tp, p, rfl⟩)).mono fun e w' ⟨N, h1, _, _, h4⟩ => ⟨N, h1, h4⟩
theorem emp_of {t : ByteArray} (h : t.size = 0) : t = ⟨#[]⟩ := by
  cases t with
  | mk d => congr 1; exact Array.eq_empty_of_size_eq_zero h
theorem pf_10 (t : ByteArray) (ht : t.size ≤ 9) (w : World) : Calls Tryz.prog 85 #[.string t, .int .i64 10, .int .i64 63] w fun e w' => e = .returned (puT (puF 10 t.data.toList)) ∧ Below w.heap.size w w' := by
  by_cases h0 : t.size = 0
  · obtain rfl := emp_of h0
    exact (pu_empty 10 w).mono fun e w' ⟨h1, h2⟩ => ⟨h1, by rw [← h2]; exact Below.refl _ _⟩
  · have : puF 10 t.data.toList = puV 10 t.data.toList 0 := by
      unfold puF
      rw [if_neg]
      intro e
      apply h0
      rw [Lib.size_eq, e]
      rfl
    rw [this]
    exact pu_10 t h0 ht w
set_option maxHeartbeats 4000000 in
theorem pub_10 (t : ByteArray) (ht : t.size ≤ 9) (w : World) (hT : Tabs w) : Calls Tryz.prog 69 #[.string t, .int .i64 10, .int .i64 63] w fun e w' => pubP (puF 10 t.data.toList) e ∧ Below w.heap.size w w' := by
  have c1 := fun w => pf_10 t ht w
  cases hr : puF 10 t.data.toList with
  | some n =>
    rw [hr] at c1
    unfold puT at c1
    go_enter Tryz.func69, Tryz.ntmps69
    go_wp2_with (go_at_call 85; (with_reducible refine (c1 _).mono ?_); rintro e w1 ⟨rfl, hb⟩)
    go_ret2
    exact ⟨rfl, hb⟩
  | none =>
    rw [hr] at c1
    unfold puT at c1
    have c2 := fun w hT => toError_any t 10 w (by omega) hT
    go_enter Tryz.func69, Tryz.ntmps69
    go_wp2_with (first
      | (go_at_call 85; (with_reducible refine (c1 _).mono ?_); rintro e w1 ⟨rfl, hb⟩
         have hT1 := hT.at_ hb)
      | (go_at_call 86; (with_reducible refine (c2 _ hT1).mono ?_); rintro e w2 ⟨N, rfl, hb2⟩))
    go_ret2
    exact ⟨⟨_, _, rfl⟩, below_next hb hb2⟩
theorem pf_16 (t : ByteArray) (ht : t.size ≤ 9) (w : World) : Calls Tryz.prog 85 #[.string t, .int .i64 16, .int .i64 63] w fun e w' => e = .returned (puT (puF 16 t.data.toList)) ∧ Below w.heap.size w w' := by
  by_cases h0 : t.size = 0
  · obtain rfl := emp_of h0
    exact (pu_empty 16 w).mono fun e w' ⟨h1, h2⟩ => ⟨h1, by rw [← h2]; exact Below.refl _ _⟩
  · have : puF 16 t.data.toList = puV 16 t.data.toList 0 := by
      unfold puF
      rw [if_neg]
      intro e
      apply h0
      rw [Lib.size_eq, e]
      rfl
    rw [this]
    exact pu_16 t h0 ht w
set_option maxHeartbeats 4000000 in
theorem pub_16 (t : ByteArray) (ht : t.size ≤ 9) (w : World) (hT : Tabs w) : Calls Tryz.prog 69 #[.string t, .int .i64 16, .int .i64 63] w fun e w' => pubP (puF 16 t.data.toList) e ∧ Below w.heap.size w w' := by
  have c1 := fun w => pf_16 t ht w
  cases hr : puF 16 t.data.toList with
  | some n =>
    rw [hr] at c1
    unfold puT at c1
    go_enter Tryz.func69, Tryz.ntmps69
    go_wp2_with (go_at_call 85; (with_reducible refine (c1 _).mono ?_); rintro e w1 ⟨rfl, hb⟩)
    go_ret2
    exact ⟨rfl, hb⟩
  | none =>
    rw [hr] at c1
    unfold puT at c1
    have c2 := fun w hT => toError_any t 16 w (by omega) hT
    go_enter Tryz.func69, Tryz.ntmps69
    go_wp2_with (first
      | (go_at_call 85; (with_reducible refine (c1 _).mono ?_); rintro e w1 ⟨rfl, hb⟩
         have hT1 := hT.at_ hb)
      | (go_at_call 86; (with_reducible refine (c2 _ hT1).mono ?_); rintro e w2 ⟨N, rfl, hb2⟩))
    go_ret2
    exact ⟨⟨_, _, rfl⟩, below_next hb hb2⟩
/-- What readDigits tells. -/
def rdF (most : Nat) (l : List UInt8) : Option Nat := if l.length ≤ most then puF 10 l else none
def rdV : Option Nat → Value
  | some n => .tuple #[.int .i64 (n : Int), .bool true]
  | none => .tuple #[.int .i64 0, .bool false]
theorem puV_lt {b : Nat} (_hb : 0 < b) : ∀ (l : List UInt8) (n m k : Nat), n < b ^ k → (∀ c d, dgv b c = some d → d < b) → puV b l n = some m → m < b ^ (k + l.length) := by
  intro l
  induction l with
  | nil => intro n m k h _ e; simp only [puV, Option.some.injEq] at e; subst e; simpa using h
  | cons c l ih =>
    intro n m k h hd e
    cases hc : dgv b c with
    | none => rw [puV_none hc] at e; cases e
    | some d =>
      rw [puV_some hc] at e
      have h1 := hd c d hc
      have := ih (n * b + d) m (k + 1) (by
        rw [Nat.pow_succ]
        have : (n + 1) * b ≤ b ^ k * b := Nat.mul_le_mul_right b h
        rw [Nat.succ_mul] at this
        omega) hd e
      rw [List.length_cons]
      rwa [show k + (l.length + 1) = k + 1 + l.length by omega]
theorem dgv_10 {c : UInt8} {d : Nat} (h : dgv 10 c = some d) : d < 10 := by
  unfold dgv at h
  split at h
  · injection h with h; omega
  · split at h
    · omega
    · cases h
theorem dgv_16 {c : UInt8} {d : Nat} (h : dgv 16 c = some d) : d < 16 := by
  unfold dgv at h
  split at h
  · injection h with h; omega
  · split at h
    · injection h with h; omega
    · cases h
theorem rd_lt {most : Nat} {l : List UInt8} {n : Nat} (h : rdF most l = some n) (hm : most ≤ 9) : n < 1000000000 := by
  unfold rdF at h
  split at h
  · rename_i hl
    unfold puF at h
    split at h
    · cases h
    · have := puV_lt (by omega) l 0 n 0 (by omega) (fun c d => dgv_10) h
      have h2 : 10 ^ (0 + l.length) ≤ 10 ^ 9 := Nat.pow_le_pow_right (by omega) (by omega)
      exact Nat.lt_of_lt_of_le this (Nat.le_trans h2 (by decide))
  · cases h
set_option maxHeartbeats 4000000 in
theorem readDigits_any (t : ByteArray) (most : Nat) (hm : most ≤ 9) (ht : t.size ≤ mostB) (w : World) (hT : Tabs w) : Calls Tryz.prog 71 #[.string t, .int .i64 most] w fun e w' => e = .returned (rdV (rdF most t.data.toList)) ∧ Below w.heap.size w w' := by
  unfold mostB at ht
  have hsz : t.data.toList.length = t.size := (Lib.size_eq t).symm
  by_cases hlt : most < t.size
  · have e : rdF most t.data.toList = none := by unfold rdF; rw [if_neg (by omega)]
    rw [e]
    unfold rdV
    go_enter Tryz.func71, Tryz.ntmps71
    go_wp2
    go_ret2
    exact ⟨rfl, Below.refl _ _⟩
  · have c1 := pub_10 t (by omega) w hT
    have e : rdF most t.data.toList = puF 10 t.data.toList := by unfold rdF; rw [if_pos (by omega)]
    have HL := fun n (h : puF 10 t.data.toList = some n) => rd_lt (e.trans h) hm
    rw [e]
    cases hr : puF 10 t.data.toList with
    | some n =>
      have hn := HL n hr
      rw [hr] at c1
      unfold rdV
      unfold pubP at c1
      have hn0 : (0 : Int) ≤ (n : Int) := Int.natCast_nonneg _
      have hn1 : (n : Int) < 1000000000 := by omega
      clear HL hn e hr
      go_enter Tryz.func71, Tryz.ntmps71
      go_wp2_with (go_at_call 69; (with_reducible refine c1.mono ?_); rintro e w1 ⟨rfl, hb⟩)
      go_quiet (fail)
      go_wp2
      go_ret2
      exact ⟨rfl, below_dr hb _⟩
    | none =>
      rw [hr] at c1
      unfold rdV
      unfold pubP at c1
      clear HL e hr
      go_enter Tryz.func71, Tryz.ntmps71
      go_wp2_with (go_at_call 69; (with_reducible refine c1.mono ?_); rintro e w1 ⟨⟨tp, p, rfl⟩, hb⟩)
      go_quiet (fail)
      go_wp2
      go_ret2
      exact ⟨rfl, below_dr hb _⟩
end Val
end Go.Proofs.YtcacabpcobmgoaaGreatDoor
