/- ValueUnits' walk, from what value's functions answer. Conditions: those answers. -/
import Derived.Test.YtfamhjmdffaphaaGreatDoorValAwake
namespace Go.Proofs.YtfamhjmdffaphaaGreatDoor
open Go.ChangeShapes Go.WideShapes Go.ChangeAt Go.RowKit
namespace valueUnits
theorem ix0 (w : World) : (Instr.index 36 (.agg #[.string ⟨#[]⟩, .string ⟨#[46, 50, 53]⟩, .string ⟨#[46, 53, 48]⟩, .string ⟨#[46, 55, 53]⟩]) (.int .i64 0)).run Tryz.prog w = .ok (.string ⟨#[]⟩) w := by
  kernel_rfl
theorem ix1 (w : World) : (Instr.index 36 (.agg #[.string ⟨#[]⟩, .string ⟨#[46, 50, 53]⟩, .string ⟨#[46, 53, 48]⟩, .string ⟨#[46, 55, 53]⟩]) (.int .i64 1)).run Tryz.prog w = .ok (.string ⟨#[46, 50, 53]⟩) w := by
  kernel_rfl
theorem ix2 (w : World) : (Instr.index 36 (.agg #[.string ⟨#[]⟩, .string ⟨#[46, 50, 53]⟩, .string ⟨#[46, 53, 48]⟩, .string ⟨#[46, 55, 53]⟩]) (.int .i64 2)).run Tryz.prog w = .ok (.string ⟨#[46, 53, 48]⟩) w := by
  kernel_rfl
theorem ix3 (w : World) : (Instr.index 36 (.agg #[.string ⟨#[]⟩, .string ⟨#[46, 50, 53]⟩, .string ⟨#[46, 53, 48]⟩, .string ⟨#[46, 55, 53]⟩]) (.int .i64 3)).run Tryz.prog w = .ok (.string ⟨#[46, 55, 53]⟩) w := by
  kernel_rfl
def lone : Value → Nat
  | .string b => if b.size = 0 then 1 else 0
  | _ => 0
theorem toB_beq' (l : List UInt8) : ((toB l).toList == []) = l.isEmpty := by
  rw [ByteArray.toList_eq]
  show (l == []) = l.isEmpty
  cases l <;> rfl
theorem dec_step (m : Nat) : Lib.decDigits m = (if m < 10 then [] else Lib.decDigits (m / 10)) ++ [UInt8.ofNat (48 + m % 10)] := by
  by_cases h : m < 10
  · rw [Lib.decDigits, dif_pos h, if_pos h, Nat.mod_eq_of_lt h]; rfl
  · rw [Lib.decDigits, dif_neg h, if_neg h]
/-- What was written of n, and what is left of it. -/
def Left (n : Nat) (l : List UInt8) (m : Nat) : Prop := (l = [] ∧ m = n) ∨ (l ≠ [] ∧ (if m = 0 then [] else Lib.decDigits m) ++ l = Lib.decDigits n)
theorem Left.next {n m : Nat} {l : List UInt8} (h : Left n l m) (hm : l = [] ∨ m ≠ 0) : Left n ([UInt8.ofNat (48 + m % 10)] ++ l) (m / 10) := by
  refine .inr ⟨by simp, ?_⟩
  have e : (if m / 10 = 0 then [] else Lib.decDigits (m / 10)) = (if m < 10 then [] else Lib.decDigits (m / 10)) := by
    by_cases h1 : m < 10
    · rw [if_pos h1, if_pos (by omega)]
    · rw [if_neg h1, if_neg (by omega)]
  rw [e, ← List.append_assoc, ← dec_step]
  rcases h with ⟨rfl, rfl⟩ | ⟨h1, h2⟩
  · exact List.append_nil _
  · rw [if_neg (hm.resolve_left h1)] at h2
    exact h2
theorem Left.done {n : Nat} {l : List UInt8} (h : Left n l 0) (hl : l ≠ []) : l = Lib.decDigits n := by
  rcases h with ⟨h1, _⟩ | ⟨_, h2⟩
  · exact absurd h1 hl
  · simpa using h2
theorem Left.len {n m : Nat} {l : List UInt8} (h : Left n l m) (hn : n < 1000000000) : l.length ≤ 9 := by
  rcases h with ⟨rfl, _⟩ | ⟨_, h2⟩
  · exact Nat.zero_le _
  · have h3 := congrArg List.length h2
    have h4 := Lib.decDigits_length n
    have h5 := nDigits_le 8 n hn
    rw [List.length_append] at h3
    omega
set_option maxHeartbeats 8000000 in
set_option maxRecDepth 100000 in
theorem walk (cAwake : ∀ w, Val.Tabs w → Calls Tryz.prog 7 #[] w fun e w' => e = .returned (.bool true) ∧ Below w.heap.size w w') (cRead : Val.ReadC)
    (n q : Int) (w : World) (hT : Val.Tabs w) :
    Calls Tryz.prog 6 #[.int .i64 n, .int .i64 q] w fun e w' => e = .returned (.bool true) ∧ Below w.heap.size w w' := by
  by_cases h1 : n < 0
  · go_enter Tryz.func6, Tryz.ntmps6
    go_wp2_with (go_at_call 7; refine (cAwake _ (hT.at_ (by first | with_reducible assumption | with_reducible exact below_al (by with_reducible assumption) _ | with_reducible exact below_al (below_al (by with_reducible assumption) _) _ | with_reducible exact below_al (below_al (below_al (by with_reducible assumption) _) _) _ | with_reducible exact Below.refl _ _ | with_reducible exact below_al (Below.refl _ _) _ | with_reducible exact below_al (below_al (Below.refl _ _) _) _))).mono ?_; rintro e w1 ⟨rfl, hb⟩)
    go_ret
    exact ⟨rfl, hb⟩
  have h1' : 0 ≤ n := by omega
  clear h1
  by_cases h2 : 999999999 < n
  · go_enter Tryz.func6, Tryz.ntmps6
    go_wp2_with (go_at_call 7; refine (cAwake _ (hT.at_ (by first | with_reducible assumption | with_reducible exact below_al (by with_reducible assumption) _ | with_reducible exact below_al (below_al (by with_reducible assumption) _) _ | with_reducible exact below_al (below_al (below_al (by with_reducible assumption) _) _) _ | with_reducible exact Below.refl _ _ | with_reducible exact below_al (Below.refl _ _) _ | with_reducible exact below_al (below_al (Below.refl _ _) _) _))).mono ?_; rintro e w1 ⟨rfl, hb⟩)
    go_ret
    exact ⟨rfl, hb⟩
  have h2' : n ≤ 999999999 := by omega
  clear h2
  by_cases h3 : q < 0
  · go_enter Tryz.func6, Tryz.ntmps6
    go_wp2_with (go_at_call 7; refine (cAwake _ (hT.at_ (by first | with_reducible assumption | with_reducible exact below_al (by with_reducible assumption) _ | with_reducible exact below_al (below_al (by with_reducible assumption) _) _ | with_reducible exact below_al (below_al (below_al (by with_reducible assumption) _) _) _ | with_reducible exact Below.refl _ _ | with_reducible exact below_al (Below.refl _ _) _ | with_reducible exact below_al (below_al (Below.refl _ _) _) _))).mono ?_; rintro e w1 ⟨rfl, hb⟩)
    go_ret
    exact ⟨rfl, hb⟩
  have h3' : 0 ≤ q := by omega
  clear h3
  by_cases h4 : 3 < q
  · go_enter Tryz.func6, Tryz.ntmps6
    go_wp2_with (go_at_call 7; refine (cAwake _ (hT.at_ (by first | with_reducible assumption | with_reducible exact below_al (by with_reducible assumption) _ | with_reducible exact below_al (below_al (by with_reducible assumption) _) _ | with_reducible exact below_al (below_al (below_al (by with_reducible assumption) _) _) _ | with_reducible exact Below.refl _ _ | with_reducible exact below_al (Below.refl _ _) _ | with_reducible exact below_al (below_al (Below.refl _ _) _) _))).mono ?_; rintro e w1 ⟨rfl, hb⟩)
    go_ret
    exact ⟨rfl, hb⟩
  have h4' : q ≤ 3 := by omega
  clear h4
  obtain ⟨n, rfl⟩ : ∃ m : Nat, n = (m : Int) := ⟨n.toNat, by omega⟩
  go_enter Tryz.func6, Tryz.ntmps6
  go_wp2_with (go_at_call 7; refine (cAwake _ (hT.at_ (by first | with_reducible assumption | with_reducible exact below_al (by with_reducible assumption) _ | with_reducible exact below_al (below_al (by with_reducible assumption) _) _ | with_reducible exact below_al (below_al (below_al (by with_reducible assumption) _) _) _ | with_reducible exact Below.refl _ _ | with_reducible exact below_al (Below.refl _ _) _ | with_reducible exact below_al (below_al (Below.refl _ _) _) _))).mono ?_; rintro e w1 ⟨rfl, hB⟩)
  go_loop [5, 6] (fun sv mv => ∃ (l : List UInt8) (m : Nat), sv = .string (toB l) ∧ mv = .int .i64 m ∧ m ≤ n ∧ Hid (Left n l m) ∧ l.length ≤ 9) (fun sv mv => 2 * (intOf mv).toNat + lone sv)
  case atStart => exact ⟨[], n, rfl, rfl, Nat.le_refl _, .inl ⟨rfl, rfl⟩, Nat.zero_le _⟩
  case round =>
    obtain ⟨l, m, rfl, rfl, hm, HL, hll⟩ := hrel
    have zl : (toB l).size ≤ 9 := by rw [toB_size]; exact hll
    have zc : (toB [UInt8.ofNat (48 + m % 10)]).size ≤ 1 := by rw [toB_size]; exact Nat.le_refl 1
    have hsl : ∀ w, (Instr.slice 9 (.string ⟨#[48, 49, 50, 51, 52, 53, 54, 55, 56, 57]⟩) (some (.int .i64 ((m : Int) % 10))) (some (.int .i64 ((m : Int) % 10 + 1))) none).run Tryz.prog w = .ok (.string (toB [UInt8.ofNat (48 + m % 10)])) w := by
      intro w
      have hz : ((⟨#[48, 49, 50, 51, 52, 53, 54, 55, 56, 57]⟩ : ByteArray).size : Int) = 10 := rfl
      have := run_slice_string (P := Tryz.prog) w 9 ⟨#[48, 49, 50, 51, 52, 53, 54, 55, 56, 57]⟩ .i64 .i64 ((m : Int) % 10) ((m : Int) % 10 + 1) Tryz.underlying9 (by omega) (by omega) (by omega)
      rw [this]
      have t1 : ((m : Int) % 10).toNat = m % 10 := by omega
      have t2 : ((m : Int) % 10 + 1).toNat = m % 10 + 1 := by omega
      rw [t1, t2]
      have key : ∀ d : Fin 10, (⟨#[48, 49, 50, 51, 52, 53, 54, 55, 56, 57]⟩ : ByteArray).extract d.val (d.val + 1) = toB [UInt8.ofNat (48 + d.val)] := by decide +kernel
      rw [key ⟨m % 10, Nat.mod_lt _ (by omega)⟩]
    have q1 : toB [UInt8.ofNat (48 + m % 10)] ++ toB l = toB ([UInt8.ofNat (48 + m % 10)] ++ l) := toB_cat _ _
    by_cases h0 : 0 < m
    · have hcond : l = [] ∨ m ≠ 0 := .inr (by omega)
      have HN : Hid (Left n ([UInt8.ofNat (48 + m % 10)] ++ l) (m / 10)) := HL.out.next hcond
      have hlen := HN.out.len (by omega)
      have hmeas : 2 * (intOf (.int .i64 ((m : Int) / 10))).toNat + lone (.string (toB ([UInt8.ofNat (48 + m % 10)] ++ l))) < 2 * (intOf (.int .i64 (m : Int))).toNat + lone (.string (toB l)) := by
        have : lone (.string (toB ([UInt8.ofNat (48 + m % 10)] ++ l))) = 0 := by
          show (if (toB ([UInt8.ofNat (48 + m % 10)] ++ l)).size = 0 then 1 else 0) = 0
          rw [toB_size, if_neg (by simp)]
        rw [this]
        simp only [intOf]
        rcases hcond with h | h
        · subst h
          have : lone (.string (toB [])) = 1 := rfl
          omega
        · omega
      have HM := Lib.hid hmeas
      have HLn := Lib.hid hlen
      clear hmeas hlen HL hll hcond
      generalize hS1 : toB ([UInt8.ofNat (48 + m % 10)] ++ l) = S1 at *
      have HS1 := Lib.hid hS1
      clear hS1
      generalize toB [UInt8.ofNat (48 + m % 10)] = c1 at *
      generalize toB l = S0 at *
      go_wp2
      go_round
      case rel => exact ⟨[UInt8.ofNat (48 + m % 10)] ++ l, m / 10, congrArg Value.string HS1.out.symm, by go_num, by omega, HN, HLn.out⟩
      case measure => exact HM.out
    · by_cases hl : l = []
      · have hcond : l = [] ∨ m ≠ 0 := .inl hl
        have HN : Hid (Left n ([UInt8.ofNat (48 + m % 10)] ++ l) (m / 10)) := HL.out.next hcond
        have hlen := HN.out.len (by omega)
        have hmeas : 2 * (intOf (.int .i64 ((m : Int) / 10))).toNat + lone (.string (toB ([UInt8.ofNat (48 + m % 10)] ++ l))) < 2 * (intOf (.int .i64 (m : Int))).toNat + lone (.string (toB l)) := by
          have : lone (.string (toB ([UInt8.ofNat (48 + m % 10)] ++ l))) = 0 := by
            show (if (toB ([UInt8.ofNat (48 + m % 10)] ++ l)).size = 0 then 1 else 0) = 0
            rw [toB_size, if_neg (by simp)]
          rw [this]
          simp only [intOf]
          rcases hcond with h | h
          · subst h
            have : lone (.string (toB [])) = 1 := rfl
            omega
          · omega
        have HM := Lib.hid hmeas
        have HLn := Lib.hid hlen
        have e0 : ((toB l).toList == []) = true := by rw [toB_beq', hl]; rfl
        clear hl
        clear hmeas hlen HL hll hcond
        generalize hS1 : toB ([UInt8.ofNat (48 + m % 10)] ++ l) = S1 at *
        have HS1 := Lib.hid hS1
        clear hS1
        generalize toB [UInt8.ofNat (48 + m % 10)] = c1 at *
        generalize toB l = S0 at *
        go_wp2
        go_round
        case rel => exact ⟨[UInt8.ofNat (48 + m % 10)] ++ l, m / 10, congrArg Value.string HS1.out.symm, by go_num, by omega, HN, HLn.out⟩
        case measure => exact HM.out
      · obtain rfl : m = 0 := by omega
        have hdone := HL.out.done hl
        have e0 : ((toB l).toList == []) = false := by
          rw [toB_beq']
          cases l with
          | nil => exact absurd rfl hl
          | cons _ _ => rfl
        subst hdone
        clear HL hsl q1 zc hm hl h0
        have hqq : q = 0 ∨ q = 1 ∨ q = 2 ∨ q = 3 := by omega
        rcases hqq with rfl | rfl | rfl | rfl
        · have hix : ∀ w, (Instr.index 36 (.agg #[.string ⟨#[]⟩, .string ⟨#[46, 50, 53]⟩, .string ⟨#[46, 53, 48]⟩, .string ⟨#[46, 55, 53]⟩]) (.int .i64 0)).run Tryz.prog w = .ok (.string ⟨#[]⟩) w := ix0
          obtain ⟨u1, u2, u3⟩ := units_read (n := n) (q := 0) (by omega) (by omega)
          have ez : ((n * 64 + 0 * 16 : Nat) : Int) = (n : Int) * 64 := by omega
          rw [ez] at u1 u2 u3
          have lD : (Lib.decDigits n).length ≤ 9 := hll
          have lU : (unitsL n 0).length ≤ 12 := by
            unfold unitsL
            rw [List.length_append]
            have : (quarterL 0).length ≤ 3 := by decide
            omega
          have c1 := fun w => cRead 25 (toB (unitsL n 0 ++ [112, 120])) w (by rw [toB_size, List.length_append]; unfold mostB; simp only [List.length_cons, List.length_nil]; omega)
          rw [show (toB (unitsL n 0 ++ [112, 120])).data.toList = unitsL n 0 ++ [112, 120] from rfl, u1] at c1
          have c2 := fun w => cRead 25 (toB (45 :: (unitsL n 0 ++ [112, 120]))) w (by rw [toB_size, List.length_cons, List.length_append]; unfold mostB; simp only [List.length_cons, List.length_nil]; omega)
          rw [show (toB (45 :: (unitsL n 0 ++ [112, 120]))).data.toList = 45 :: (unitsL n 0 ++ [112, 120]) from rfl, u2] at c2
          have c3 := fun w => cRead 3 (toB (unitsL n 0 ++ [37])) w (by rw [toB_size, List.length_append]; unfold mostB; simp only [List.length_cons, List.length_nil]; omega)
          rw [show (toB (unitsL n 0 ++ [37])).data.toList = unitsL n 0 ++ [37] from rfl, u3] at c3
          simp only [vO, Option.isSome_some] at c1 c2 c3
          unfold vV at *
          have p0 : toB (Lib.decDigits n) ++ (⟨#[]⟩ : ByteArray) = toB (unitsL n 0) := toB_cat _ []
          have p1 : toB (unitsL n 0) ++ (⟨#[112, 120]⟩ : ByteArray) = toB (unitsL n 0 ++ [112, 120]) := toB_cat _ [112, 120]
          have p2 : (⟨#[45]⟩ : ByteArray) ++ toB (unitsL n 0) = toB (45 :: unitsL n 0) := toB_cat [45] _
          have p3 : toB (45 :: unitsL n 0) ++ (⟨#[112, 120]⟩ : ByteArray) = toB (45 :: (unitsL n 0 ++ [112, 120])) := toB_cat _ [112, 120]
          have p4 : toB (unitsL n 0) ++ (⟨#[37]⟩ : ByteArray) = toB (unitsL n 0 ++ [37]) := toB_cat _ [37]
          have y0 : (toB (Lib.decDigits n)).size ≤ 9 := by rw [toB_size]; exact lD
          have y1 : (toB (unitsL n 0)).size ≤ 12 := by rw [toB_size]; exact lU
          have y2 : (toB (45 :: unitsL n 0)).size ≤ 13 := by rw [toB_size, List.length_cons]; omega
          clear u1 u2 u3 ez lD lU hll zl
          generalize toB (45 :: (unitsL n 0 ++ [112, 120])) = P2 at *
          generalize toB (unitsL n 0 ++ [112, 120]) = P1 at *
          generalize toB (unitsL n 0 ++ [37]) = P3 at *
          generalize toB (45 :: unitsL n 0) = M1 at *
          generalize toB (unitsL n 0) = U1 at *
          generalize toB (Lib.decDigits n) = D0 at *
          go_wp2_with (first
            | (go_at_call 8; (with_reducible refine (c1 _ (hT.at_ (by first | with_reducible assumption | with_reducible exact below_al (by with_reducible assumption) _ | with_reducible exact below_al (below_al (by with_reducible assumption) _) _ | with_reducible exact below_al (below_al (below_al (by with_reducible assumption) _) _) _ | with_reducible exact Below.refl _ _ | with_reducible exact below_al (Below.refl _ _) _ | with_reducible exact below_al (below_al (Below.refl _ _) _) _))).mono ?_); rintro e w1 ⟨rfl, hb⟩
               have hB1 := below_next hB hb
               clear hb)
            | (go_at_call 8; (with_reducible refine (c2 _ (hT.at_ (by first | with_reducible assumption | with_reducible exact below_al (by with_reducible assumption) _ | with_reducible exact below_al (below_al (by with_reducible assumption) _) _ | with_reducible exact below_al (below_al (below_al (by with_reducible assumption) _) _) _ | with_reducible exact Below.refl _ _ | with_reducible exact below_al (Below.refl _ _) _ | with_reducible exact below_al (below_al (Below.refl _ _) _) _))).mono ?_); rintro e w2 ⟨rfl, hb⟩
               have hB2 := below_next (below_al hB1 _) hb
               have Kv2 := (Blk.new w1 23 #[.int .i64 2, .int .i64 ((n : Int) * 64)]).next hb
               obtain ⟨kv0, kv1⟩ := blk2 Kv2
               have zv := Kv2.lt
               have nv := Nat.ne_of_lt zv
               clear hb)
            | (go_at_call 8; (with_reducible refine (c3 _ (hT.at_ (by first | with_reducible assumption | with_reducible exact below_al (by with_reducible assumption) _ | with_reducible exact below_al (below_al (by with_reducible assumption) _) _ | with_reducible exact below_al (below_al (below_al (by with_reducible assumption) _) _) _ | with_reducible exact Below.refl _ _ | with_reducible exact below_al (Below.refl _ _) _ | with_reducible exact below_al (below_al (Below.refl _ _) _) _))).mono ?_); rintro e w3 ⟨rfl, hb⟩
               have hB3 := below_next (below_al hB2 _) hb
               have Kv3 := (Kv2.alloc _).next hb
               clear kv0 kv1 zv nv
               have Kw3 := (Blk.new w2 23 #[.int .i64 2, .int .i64 (-((n : Int) * 64))]).next hb
               obtain ⟨kv0, kv1⟩ := blk2 Kv3
               have zv := Kv3.lt
               have nv := Nat.ne_of_lt zv
               obtain ⟨kw0, kw1⟩ := blk2 Kw3
               have zw := Kw3.lt
               have nw := Nat.ne_of_lt zw
               clear hb))
          go_ret
          exact ⟨rfl, below_al hB3 _⟩
        · have hix : ∀ w, (Instr.index 36 (.agg #[.string ⟨#[]⟩, .string ⟨#[46, 50, 53]⟩, .string ⟨#[46, 53, 48]⟩, .string ⟨#[46, 55, 53]⟩]) (.int .i64 1)).run Tryz.prog w = .ok (.string ⟨#[46, 50, 53]⟩) w := ix1
          obtain ⟨u1, u2, u3⟩ := units_read (n := n) (q := 1) (by omega) (by omega)
          have ez : ((n * 64 + 1 * 16 : Nat) : Int) = (n : Int) * 64 + 16 := by omega
          rw [ez] at u1 u2 u3
          have lD : (Lib.decDigits n).length ≤ 9 := hll
          have lU : (unitsL n 1).length ≤ 12 := by
            unfold unitsL
            rw [List.length_append]
            have : (quarterL 1).length ≤ 3 := by decide
            omega
          have c1 := fun w => cRead 25 (toB (unitsL n 1 ++ [112, 120])) w (by rw [toB_size, List.length_append]; unfold mostB; simp only [List.length_cons, List.length_nil]; omega)
          rw [show (toB (unitsL n 1 ++ [112, 120])).data.toList = unitsL n 1 ++ [112, 120] from rfl, u1] at c1
          have c2 := fun w => cRead 25 (toB (45 :: (unitsL n 1 ++ [112, 120]))) w (by rw [toB_size, List.length_cons, List.length_append]; unfold mostB; simp only [List.length_cons, List.length_nil]; omega)
          rw [show (toB (45 :: (unitsL n 1 ++ [112, 120]))).data.toList = 45 :: (unitsL n 1 ++ [112, 120]) from rfl, u2] at c2
          have c3 := fun w => cRead 3 (toB (unitsL n 1 ++ [37])) w (by rw [toB_size, List.length_append]; unfold mostB; simp only [List.length_cons, List.length_nil]; omega)
          rw [show (toB (unitsL n 1 ++ [37])).data.toList = unitsL n 1 ++ [37] from rfl, u3] at c3
          simp only [vO, Option.isSome_some] at c1 c2 c3
          unfold vV at *
          have p0 : toB (Lib.decDigits n) ++ (⟨#[46, 50, 53]⟩ : ByteArray) = toB (unitsL n 1) := toB_cat _ [46, 50, 53]
          have p1 : toB (unitsL n 1) ++ (⟨#[112, 120]⟩ : ByteArray) = toB (unitsL n 1 ++ [112, 120]) := toB_cat _ [112, 120]
          have p2 : (⟨#[45]⟩ : ByteArray) ++ toB (unitsL n 1) = toB (45 :: unitsL n 1) := toB_cat [45] _
          have p3 : toB (45 :: unitsL n 1) ++ (⟨#[112, 120]⟩ : ByteArray) = toB (45 :: (unitsL n 1 ++ [112, 120])) := toB_cat _ [112, 120]
          have p4 : toB (unitsL n 1) ++ (⟨#[37]⟩ : ByteArray) = toB (unitsL n 1 ++ [37]) := toB_cat _ [37]
          have y0 : (toB (Lib.decDigits n)).size ≤ 9 := by rw [toB_size]; exact lD
          have y1 : (toB (unitsL n 1)).size ≤ 12 := by rw [toB_size]; exact lU
          have y2 : (toB (45 :: unitsL n 1)).size ≤ 13 := by rw [toB_size, List.length_cons]; omega
          clear u1 u2 u3 ez lD lU hll zl
          generalize toB (45 :: (unitsL n 1 ++ [112, 120])) = P2 at *
          generalize toB (unitsL n 1 ++ [112, 120]) = P1 at *
          generalize toB (unitsL n 1 ++ [37]) = P3 at *
          generalize toB (45 :: unitsL n 1) = M1 at *
          generalize toB (unitsL n 1) = U1 at *
          generalize toB (Lib.decDigits n) = D0 at *
          go_wp2_with (first
            | (go_at_call 8; (with_reducible refine (c1 _ (hT.at_ (by first | with_reducible assumption | with_reducible exact below_al (by with_reducible assumption) _ | with_reducible exact below_al (below_al (by with_reducible assumption) _) _ | with_reducible exact below_al (below_al (below_al (by with_reducible assumption) _) _) _ | with_reducible exact Below.refl _ _ | with_reducible exact below_al (Below.refl _ _) _ | with_reducible exact below_al (below_al (Below.refl _ _) _) _))).mono ?_); rintro e w1 ⟨rfl, hb⟩
               have hB1 := below_next hB hb
               clear hb)
            | (go_at_call 8; (with_reducible refine (c2 _ (hT.at_ (by first | with_reducible assumption | with_reducible exact below_al (by with_reducible assumption) _ | with_reducible exact below_al (below_al (by with_reducible assumption) _) _ | with_reducible exact below_al (below_al (below_al (by with_reducible assumption) _) _) _ | with_reducible exact Below.refl _ _ | with_reducible exact below_al (Below.refl _ _) _ | with_reducible exact below_al (below_al (Below.refl _ _) _) _))).mono ?_); rintro e w2 ⟨rfl, hb⟩
               have hB2 := below_next (below_al hB1 _) hb
               have Kv2 := (Blk.new w1 23 #[.int .i64 2, .int .i64 ((n : Int) * 64 + 16)]).next hb
               obtain ⟨kv0, kv1⟩ := blk2 Kv2
               have zv := Kv2.lt
               have nv := Nat.ne_of_lt zv
               clear hb)
            | (go_at_call 8; (with_reducible refine (c3 _ (hT.at_ (by first | with_reducible assumption | with_reducible exact below_al (by with_reducible assumption) _ | with_reducible exact below_al (below_al (by with_reducible assumption) _) _ | with_reducible exact below_al (below_al (below_al (by with_reducible assumption) _) _) _ | with_reducible exact Below.refl _ _ | with_reducible exact below_al (Below.refl _ _) _ | with_reducible exact below_al (below_al (Below.refl _ _) _) _))).mono ?_); rintro e w3 ⟨rfl, hb⟩
               have hB3 := below_next (below_al hB2 _) hb
               have Kv3 := (Kv2.alloc _).next hb
               clear kv0 kv1 zv nv
               have Kw3 := (Blk.new w2 23 #[.int .i64 2, .int .i64 (-((n : Int) * 64 + 16))]).next hb
               obtain ⟨kv0, kv1⟩ := blk2 Kv3
               have zv := Kv3.lt
               have nv := Nat.ne_of_lt zv
               obtain ⟨kw0, kw1⟩ := blk2 Kw3
               have zw := Kw3.lt
               have nw := Nat.ne_of_lt zw
               clear hb))
          go_ret
          exact ⟨rfl, below_al hB3 _⟩
        · have hix : ∀ w, (Instr.index 36 (.agg #[.string ⟨#[]⟩, .string ⟨#[46, 50, 53]⟩, .string ⟨#[46, 53, 48]⟩, .string ⟨#[46, 55, 53]⟩]) (.int .i64 2)).run Tryz.prog w = .ok (.string ⟨#[46, 53, 48]⟩) w := ix2
          obtain ⟨u1, u2, u3⟩ := units_read (n := n) (q := 2) (by omega) (by omega)
          have ez : ((n * 64 + 2 * 16 : Nat) : Int) = (n : Int) * 64 + 32 := by omega
          rw [ez] at u1 u2 u3
          have lD : (Lib.decDigits n).length ≤ 9 := hll
          have lU : (unitsL n 2).length ≤ 12 := by
            unfold unitsL
            rw [List.length_append]
            have : (quarterL 2).length ≤ 3 := by decide
            omega
          have c1 := fun w => cRead 25 (toB (unitsL n 2 ++ [112, 120])) w (by rw [toB_size, List.length_append]; unfold mostB; simp only [List.length_cons, List.length_nil]; omega)
          rw [show (toB (unitsL n 2 ++ [112, 120])).data.toList = unitsL n 2 ++ [112, 120] from rfl, u1] at c1
          have c2 := fun w => cRead 25 (toB (45 :: (unitsL n 2 ++ [112, 120]))) w (by rw [toB_size, List.length_cons, List.length_append]; unfold mostB; simp only [List.length_cons, List.length_nil]; omega)
          rw [show (toB (45 :: (unitsL n 2 ++ [112, 120]))).data.toList = 45 :: (unitsL n 2 ++ [112, 120]) from rfl, u2] at c2
          have c3 := fun w => cRead 3 (toB (unitsL n 2 ++ [37])) w (by rw [toB_size, List.length_append]; unfold mostB; simp only [List.length_cons, List.length_nil]; omega)
          rw [show (toB (unitsL n 2 ++ [37])).data.toList = unitsL n 2 ++ [37] from rfl, u3] at c3
          simp only [vO, Option.isSome_some] at c1 c2 c3
          unfold vV at *
          have p0 : toB (Lib.decDigits n) ++ (⟨#[46, 53, 48]⟩ : ByteArray) = toB (unitsL n 2) := toB_cat _ [46, 53, 48]
          have p1 : toB (unitsL n 2) ++ (⟨#[112, 120]⟩ : ByteArray) = toB (unitsL n 2 ++ [112, 120]) := toB_cat _ [112, 120]
          have p2 : (⟨#[45]⟩ : ByteArray) ++ toB (unitsL n 2) = toB (45 :: unitsL n 2) := toB_cat [45] _
          have p3 : toB (45 :: unitsL n 2) ++ (⟨#[112, 120]⟩ : ByteArray) = toB (45 :: (unitsL n 2 ++ [112, 120])) := toB_cat _ [112, 120]
          have p4 : toB (unitsL n 2) ++ (⟨#[37]⟩ : ByteArray) = toB (unitsL n 2 ++ [37]) := toB_cat _ [37]
          have y0 : (toB (Lib.decDigits n)).size ≤ 9 := by rw [toB_size]; exact lD
          have y1 : (toB (unitsL n 2)).size ≤ 12 := by rw [toB_size]; exact lU
          have y2 : (toB (45 :: unitsL n 2)).size ≤ 13 := by rw [toB_size, List.length_cons]; omega
          clear u1 u2 u3 ez lD lU hll zl
          generalize toB (45 :: (unitsL n 2 ++ [112, 120])) = P2 at *
          generalize toB (unitsL n 2 ++ [112, 120]) = P1 at *
          generalize toB (unitsL n 2 ++ [37]) = P3 at *
          generalize toB (45 :: unitsL n 2) = M1 at *
          generalize toB (unitsL n 2) = U1 at *
          generalize toB (Lib.decDigits n) = D0 at *
          go_wp2_with (first
            | (go_at_call 8; (with_reducible refine (c1 _ (hT.at_ (by first | with_reducible assumption | with_reducible exact below_al (by with_reducible assumption) _ | with_reducible exact below_al (below_al (by with_reducible assumption) _) _ | with_reducible exact below_al (below_al (below_al (by with_reducible assumption) _) _) _ | with_reducible exact Below.refl _ _ | with_reducible exact below_al (Below.refl _ _) _ | with_reducible exact below_al (below_al (Below.refl _ _) _) _))).mono ?_); rintro e w1 ⟨rfl, hb⟩
               have hB1 := below_next hB hb
               clear hb)
            | (go_at_call 8; (with_reducible refine (c2 _ (hT.at_ (by first | with_reducible assumption | with_reducible exact below_al (by with_reducible assumption) _ | with_reducible exact below_al (below_al (by with_reducible assumption) _) _ | with_reducible exact below_al (below_al (below_al (by with_reducible assumption) _) _) _ | with_reducible exact Below.refl _ _ | with_reducible exact below_al (Below.refl _ _) _ | with_reducible exact below_al (below_al (Below.refl _ _) _) _))).mono ?_); rintro e w2 ⟨rfl, hb⟩
               have hB2 := below_next (below_al hB1 _) hb
               have Kv2 := (Blk.new w1 23 #[.int .i64 2, .int .i64 ((n : Int) * 64 + 32)]).next hb
               obtain ⟨kv0, kv1⟩ := blk2 Kv2
               have zv := Kv2.lt
               have nv := Nat.ne_of_lt zv
               clear hb)
            | (go_at_call 8; (with_reducible refine (c3 _ (hT.at_ (by first | with_reducible assumption | with_reducible exact below_al (by with_reducible assumption) _ | with_reducible exact below_al (below_al (by with_reducible assumption) _) _ | with_reducible exact below_al (below_al (below_al (by with_reducible assumption) _) _) _ | with_reducible exact Below.refl _ _ | with_reducible exact below_al (Below.refl _ _) _ | with_reducible exact below_al (below_al (Below.refl _ _) _) _))).mono ?_); rintro e w3 ⟨rfl, hb⟩
               have hB3 := below_next (below_al hB2 _) hb
               have Kv3 := (Kv2.alloc _).next hb
               clear kv0 kv1 zv nv
               have Kw3 := (Blk.new w2 23 #[.int .i64 2, .int .i64 (-((n : Int) * 64 + 32))]).next hb
               obtain ⟨kv0, kv1⟩ := blk2 Kv3
               have zv := Kv3.lt
               have nv := Nat.ne_of_lt zv
               obtain ⟨kw0, kw1⟩ := blk2 Kw3
               have zw := Kw3.lt
               have nw := Nat.ne_of_lt zw
               clear hb))
          go_ret
          exact ⟨rfl, below_al hB3 _⟩
        · have hix : ∀ w, (Instr.index 36 (.agg #[.string ⟨#[]⟩, .string ⟨#[46, 50, 53]⟩, .string ⟨#[46, 53, 48]⟩, .string ⟨#[46, 55, 53]⟩]) (.int .i64 3)).run Tryz.prog w = .ok (.string ⟨#[46, 55, 53]⟩) w := ix3
          obtain ⟨u1, u2, u3⟩ := units_read (n := n) (q := 3) (by omega) (by omega)
          have ez : ((n * 64 + 3 * 16 : Nat) : Int) = (n : Int) * 64 + 48 := by omega
          rw [ez] at u1 u2 u3
          have lD : (Lib.decDigits n).length ≤ 9 := hll
          have lU : (unitsL n 3).length ≤ 12 := by
            unfold unitsL
            rw [List.length_append]
            have : (quarterL 3).length ≤ 3 := by decide
            omega
          have c1 := fun w => cRead 25 (toB (unitsL n 3 ++ [112, 120])) w (by rw [toB_size, List.length_append]; unfold mostB; simp only [List.length_cons, List.length_nil]; omega)
          rw [show (toB (unitsL n 3 ++ [112, 120])).data.toList = unitsL n 3 ++ [112, 120] from rfl, u1] at c1
          have c2 := fun w => cRead 25 (toB (45 :: (unitsL n 3 ++ [112, 120]))) w (by rw [toB_size, List.length_cons, List.length_append]; unfold mostB; simp only [List.length_cons, List.length_nil]; omega)
          rw [show (toB (45 :: (unitsL n 3 ++ [112, 120]))).data.toList = 45 :: (unitsL n 3 ++ [112, 120]) from rfl, u2] at c2
          have c3 := fun w => cRead 3 (toB (unitsL n 3 ++ [37])) w (by rw [toB_size, List.length_append]; unfold mostB; simp only [List.length_cons, List.length_nil]; omega)
          rw [show (toB (unitsL n 3 ++ [37])).data.toList = unitsL n 3 ++ [37] from rfl, u3] at c3
          simp only [vO, Option.isSome_some] at c1 c2 c3
          unfold vV at *
          have p0 : toB (Lib.decDigits n) ++ (⟨#[46, 55, 53]⟩ : ByteArray) = toB (unitsL n 3) := toB_cat _ [46, 55, 53]
          have p1 : toB (unitsL n 3) ++ (⟨#[112, 120]⟩ : ByteArray) = toB (unitsL n 3 ++ [112, 120]) := toB_cat _ [112, 120]
          have p2 : (⟨#[45]⟩ : ByteArray) ++ toB (unitsL n 3) = toB (45 :: unitsL n 3) := toB_cat [45] _
          have p3 : toB (45 :: unitsL n 3) ++ (⟨#[112, 120]⟩ : ByteArray) = toB (45 :: (unitsL n 3 ++ [112, 120])) := toB_cat _ [112, 120]
          have p4 : toB (unitsL n 3) ++ (⟨#[37]⟩ : ByteArray) = toB (unitsL n 3 ++ [37]) := toB_cat _ [37]
          have y0 : (toB (Lib.decDigits n)).size ≤ 9 := by rw [toB_size]; exact lD
          have y1 : (toB (unitsL n 3)).size ≤ 12 := by rw [toB_size]; exact lU
          have y2 : (toB (45 :: unitsL n 3)).size ≤ 13 := by rw [toB_size, List.length_cons]; omega
          clear u1 u2 u3 ez lD lU hll zl
          generalize toB (45 :: (unitsL n 3 ++ [112, 120])) = P2 at *
          generalize toB (unitsL n 3 ++ [112, 120]) = P1 at *
          generalize toB (unitsL n 3 ++ [37]) = P3 at *
          generalize toB (45 :: unitsL n 3) = M1 at *
          generalize toB (unitsL n 3) = U1 at *
          generalize toB (Lib.decDigits n) = D0 at *
          go_wp2_with (first
            | (go_at_call 8; (with_reducible refine (c1 _ (hT.at_ (by first | with_reducible assumption | with_reducible exact below_al (by with_reducible assumption) _ | with_reducible exact below_al (below_al (by with_reducible assumption) _) _ | with_reducible exact below_al (below_al (below_al (by with_reducible assumption) _) _) _ | with_reducible exact Below.refl _ _ | with_reducible exact below_al (Below.refl _ _) _ | with_reducible exact below_al (below_al (Below.refl _ _) _) _))).mono ?_); rintro e w1 ⟨rfl, hb⟩
               have hB1 := below_next hB hb
               clear hb)
            | (go_at_call 8; (with_reducible refine (c2 _ (hT.at_ (by first | with_reducible assumption | with_reducible exact below_al (by with_reducible assumption) _ | with_reducible exact below_al (below_al (by with_reducible assumption) _) _ | with_reducible exact below_al (below_al (below_al (by with_reducible assumption) _) _) _ | with_reducible exact Below.refl _ _ | with_reducible exact below_al (Below.refl _ _) _ | with_reducible exact below_al (below_al (Below.refl _ _) _) _))).mono ?_); rintro e w2 ⟨rfl, hb⟩
               have hB2 := below_next (below_al hB1 _) hb
               have Kv2 := (Blk.new w1 23 #[.int .i64 2, .int .i64 ((n : Int) * 64 + 48)]).next hb
               obtain ⟨kv0, kv1⟩ := blk2 Kv2
               have zv := Kv2.lt
               have nv := Nat.ne_of_lt zv
               clear hb)
            | (go_at_call 8; (with_reducible refine (c3 _ (hT.at_ (by first | with_reducible assumption | with_reducible exact below_al (by with_reducible assumption) _ | with_reducible exact below_al (below_al (by with_reducible assumption) _) _ | with_reducible exact below_al (below_al (below_al (by with_reducible assumption) _) _) _ | with_reducible exact Below.refl _ _ | with_reducible exact below_al (Below.refl _ _) _ | with_reducible exact below_al (below_al (Below.refl _ _) _) _))).mono ?_); rintro e w3 ⟨rfl, hb⟩
               have hB3 := below_next (below_al hB2 _) hb
               have Kv3 := (Kv2.alloc _).next hb
               clear kv0 kv1 zv nv
               have Kw3 := (Blk.new w2 23 #[.int .i64 2, .int .i64 (-((n : Int) * 64 + 48))]).next hb
               obtain ⟨kv0, kv1⟩ := blk2 Kv3
               have zv := Kv3.lt
               have nv := Nat.ne_of_lt zv
               obtain ⟨kw0, kw1⟩ := blk2 Kw3
               have zw := Kw3.lt
               have nw := Nat.ne_of_lt zw
               clear hb))
          go_ret
          exact ⟨rfl, below_al hB3 _⟩
end valueUnits
end Go.Proofs.YtfamhjmdffaphaaGreatDoor
