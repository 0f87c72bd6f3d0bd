/- What the document's own Strip of layer 7 answers. Conditions: the text is not too long. -/
import Derived.Test.YthkofdleoigajaaDoorRx7Trim
namespace Go.Proofs.YthkofdleoigajaaDoor
open Go.ChangeShapes Go.WideShapes Go.ChangeAt Go.RowKit
/-- Does a list begin with two bytes? -/
def pre2 (x y : UInt8) : List UInt8 → Bool
  | a :: b :: _ => decide (a = x ∧ b = y)
  | _ => false
theorem has_pre (s : ByteArray) (k : Nat) (x y : UInt8) (h : k + 2 ≤ s.size) : ((s.extract k (k + 2)).toList == (⟨#[x, y]⟩ : ByteArray).toList) = pre2 x y (s.data.toList.drop k) := by
  rw [ByteArray.toList_eq, ByteArray.toList_eq, extract_list]
  have hl : k + 2 ≤ s.data.toList.length := by rw [size_list]; exact h
  have e : (s.data.toList.take (k + 2)).drop k = (s.data.toList.drop k).take 2 := by rw [List.drop_take]; congr 1; omega
  rw [e]
  generalize hd : s.data.toList.drop k = d
  have hdl : 2 ≤ d.length := by rw [← hd, List.length_drop]; omega
  match d, hdl with
  | a :: b :: t, _ =>
    show ([a, b] == [x, y]) = decide (a = x ∧ b = y)
    by_cases h1 : a = x <;> by_cases h2 : b = y <;> simp [h1, h2]
theorem rpre_short (s : ByteArray) (k : Nat) (x y : UInt8) (h : s.size < k + 2) : pre2 x y (s.data.toList.drop k) = false := by
  have hl : (s.data.toList.drop k).length < 2 := by rw [List.length_drop, size_list]; omega
  generalize s.data.toList.drop k = d at hl
  match d, hl with
  | [], _ => rfl
  | [_], _ => rfl
set_option maxHeartbeats 1000000 in
theorem rhas2_any (s : ByteArray) (k : Nat) (x y : UInt8) (w : World) (hs : s.size ≤ mostB) (hk : k ≤ s.size) :
    Calls Tryd.prog 27 #[.string s, .int .i64 k, .string ⟨#[x, y]⟩] w fun e w' => e = .returned (.bool (pre2 x y (s.data.toList.drop k))) ∧ w = w' := by
  unfold mostB at hs
  by_cases h : k + 2 ≤ s.size
  · have hp := has_pre s k x y h
    generalize pre2 x y (s.data.toList.drop k) = p at hp ⊢
    have h2 : (⟨#[x, y]⟩ : ByteArray).size = 2 := rfl
    generalize (⟨#[x, y]⟩ : ByteArray) = t at *
    have h' : (k : Int) + 2 ≤ s.size := by omega
    have hsl : ∀ w, (Instr.slice 9 (.string s) (some (.int .i64 k)) (some (.int .i64 ((k : Int) + 2))) none).run Tryd.prog w = .ok (.string (s.extract k (k + 2))) w := by
      intro w
      have := run_slice_string (P := Tryd.prog) w 9 s .i64 .i64 k ((k : Int) + 2) Tryd.underlying9 (by omega) (by omega) h'
      rwa [show ((k : Int) + 2).toNat = k + 2 by omega, Int.toNat_natCast] at this
    generalize s.extract k (k + 2) = q at hp hsl
    cases p
    all_goals
      go_enter Tryd.func27, Tryd.ntmps27
      go_wp2
      go_ret
      exact ⟨rfl, rfl⟩
  · rw [rpre_short s k x y (by omega)]
    have h2 : (⟨#[x, y]⟩ : ByteArray).size = 2 := rfl
    generalize (⟨#[x, y]⟩ : ByteArray) = t at *
    have h' : ¬ (k : Int) + 2 ≤ s.size := by omega
    have h3 : decide ((k : Int) + 2 ≤ s.size) = false := decide_eq_false h'
    clear h h'
    go_enter Tryd.func27, Tryd.ntmps27
    go_wp2
    go_ret
    exact ⟨rfl, rfl⟩
/-! ### the reference's loops -/
theorem pre2_yes {x y : UInt8} {l : List UInt8} (h : pre2 x y l = true) : ∃ t, l = x :: y :: t := by
  match l, h with
  | a :: b :: t, h =>
    obtain ⟨rfl, rfl⟩ := of_decide_eq_true h
    exact ⟨t, rfl⟩
theorem strip_here {l t : List UInt8} (h : l = 47 :: 42 :: t) : stripL l = 32 :: stripL (behind t) := by rw [h, stripL_remark]
theorem strip_step {a : UInt8} {t : List UInt8} (h : pre2 47 42 (a :: t) = false) : stripL (a :: t) = a :: stripL t := by
  match t with
  | [] => rw [stripL_one, stripL_nil]
  | b :: t => exact stripL_other t (of_decide_eq_false h)
theorem behind_here {l t : List UInt8} (h : l = 42 :: 47 :: t) : behind l = t := by rw [h]; unfold behind; rw [if_pos ⟨rfl, rfl⟩]
theorem behind_step {a : UInt8} {t : List UInt8} (h : pre2 42 47 (a :: t) = false) : behind (a :: t) = behind t := by
  match t with
  | [] => rfl
  | b :: t => 
    have h' : ¬ (a = 42 ∧ b = 47) := of_decide_eq_false h
    conv => lhs; unfold behind
    rw [if_neg h']
theorem drop_at (s : ByteArray) (k : Nat) (h : k < s.size) : s.data.toList.drop k = s[k] :: s.data.toList.drop (k + 1) := List.drop_eq_getElem_cons (by rw [size_list]; exact h)
set_option maxHeartbeats 4000000 in
theorem rstrip_any (s : ByteArray) (w : World) (hs : s.size ≤ mostB) :
    Calls Tryd.prog 11 #[.string s] w fun e w' => e = .returned (.string (onB stripL s)) ∧ Below w.heap.size w w' := by
  have ch := fun k x y w hk => rhas2_any s k x y w hs hk
  unfold mostB at hs
  obtain ⟨R, hR⟩ : ∃ R, onB stripL s = R := ⟨_, rfl⟩
  rw [hR]
  have HR := Lib.hid hR
  clear hR
  have hB0 := below_al (Below.refl w.heap.size w) (.cells #[] 5)
  have hY0 := Bys.nil w w.heap.size (Nat.le_refl _)
  go_enter Tryd.func11, Tryd.ntmps11
  go_wp2
  go_loopw [3, 4] (fun v i wr => ∃ (k : Nat) (l : List UInt8), k ≤ s.size + 2 ∧ l.length ≤ k ∧ i = .int .i64 k ∧ Bys wr w.heap.size v l ∧ Hid (stripL s.data.toList = l ++ stripL (s.data.toList.drop k)) ∧ Below w.heap.size w wr) (fun _ i _ => s.size - (intOf i).toNat)
  case atStart => exact ⟨0, [], Nat.zero_le _, Nat.le_refl _, rfl, hY0, rfl, hB0⟩
  case round =>
    obtain ⟨k, l, hk, hlk, rfl, hY, HS, hB⟩ := hrel
    clear hB0 hY0
    have hle := hB.size
    by_cases hlt : k < s.size
    · have hd := drop_at s k hlt
      have c1 := fun w => ch k 47 42 w (by omega)
      cases hp : pre2 47 42 (s.data.toList.drop k)
      · have HS' : Hid (stripL s.data.toList = (l ++ [s[k]]) ++ stripL (s.data.toList.drop (k + 1))) := by
          show stripL s.data.toList = _
          rw [HS.out, List.append_assoc, hd]
          rw [hd] at hp
          rw [strip_step hp]
          rfl
        have HV : Hid (bv s[k] = .int .u8 (s[k].toNat : Int)) := rfl
        rw [hp] at c1
        clear hd hp ch
        go_wp2_with (first
          | (go_at_call 27; (with_reducible refine (c1 _).mono ?_); rintro e w' ⟨rfl, rfl⟩)
          | (at_builtin; refine wpList_pushU wr rfl (.tmp 14) (.tmp 18) rfl w.heap.size _ _ (s[k]) _ HV _ rfl hY rfl (by omega) hle ?_; intro v' w' hY' hg
             have hB' := below_pushU hB hY hg
             clear hg))
        go_roundw
        case rel => exact ⟨k + 1, _, by omega, by simp; omega, by go_num, hY', HS', hB'⟩
        case measure => simp [intOf]; omega
      · obtain ⟨t, ht⟩ := pre2_yes hp
        have hk2 : k + 2 ≤ s.size := by
          have := congrArg List.length ht
          rw [List.length_drop, size_list] at this
          simp only [List.length_cons] at this
          omega
        have htd : t = s.data.toList.drop (k + 2) := by
          have := congrArg (List.drop 2) ht
          rw [List.drop_drop] at this
          exact this.symm
        have HS' : Hid (stripL s.data.toList = (l ++ [32]) ++ stripL (behind (s.data.toList.drop (k + 2)))) := by
          show stripL s.data.toList = _
          rw [HS.out, List.append_assoc, strip_here ht, htd]
          rfl
        have HV : Hid (bv 32 = .int .u8 32) := rfl
        rw [hp] at c1
        clear hd hp ht htd
        go_wp2_with (first
          | (go_at_call 27; (with_reducible refine (c1 _).mono ?_); rintro e w' ⟨rfl, rfl⟩)
          | (at_builtin; refine wpList_pushU wr rfl (.tmp 22) (.tmp 23) rfl w.heap.size _ _ 32 _ HV _ rfl hY rfl (by omega) hle ?_; intro v' w' hY' hg
             have hB' := below_pushU hB hY hg
             clear hg))
        clear hY hB
        go_loop [4] (fun i => ∃ j : Nat, j ≤ s.size ∧ k + 2 ≤ j ∧ i = .int .i64 j ∧ Hid (behind (s.data.toList.drop (k + 2)) = behind (s.data.toList.drop j))) (fun i => s.size - (intOf i).toNat)
        case atStart => exact ⟨k + 2, hk2, Nat.le_refl _, by go_num, rfl⟩
        case round =>
          obtain ⟨j, hj, hkj, rfl, HJ⟩ := hrel
          have last : Hid (behind (s.data.toList.drop j) = s.data.toList.drop (j + 2)) → ∃ (k' : Nat) (l' : List UInt8), k' ≤ s.size + 2 ∧ l'.length ≤ k' ∧ Value.int .i64 ((j : Int) + 2) = .int .i64 k' ∧ Bys w' w.heap.size v' l' ∧ Hid (stripL s.data.toList = l' ++ stripL (s.data.toList.drop k')) ∧ Below w.heap.size w w' ∧ k < k' := by
            intro hb
            refine ⟨j + 2, l ++ [32], by omega, by simp; omega, by go_num, hY', ?_, hB', by omega⟩
            show stripL s.data.toList = _
            rw [HS'.out, HJ.out, hb.out]
          by_cases hlj : j < s.size
          · have c2 := fun w => ch j 42 47 w (by omega)
            have hdj := drop_at s j hlj
            cases hq : pre2 42 47 (s.data.toList.drop j)
            · have HJ' : Hid (behind (s.data.toList.drop (k + 2)) = behind (s.data.toList.drop (j + 1))) := by
                show behind (s.data.toList.drop (k + 2)) = _
                rw [HJ.out, hdj]
                rw [hdj] at hq
                exact behind_step hq
              rw [hq] at c2
              clear hdj hq ch c1 last
              go_wp2_with (go_at_call 27; (with_reducible refine (c2 _).mono ?_); rintro e w'' ⟨rfl, rfl⟩)
              go_round
              case rel => exact ⟨j + 1, by omega, by omega, by go_num, HJ'⟩
              case measure => simp [intOf]; omega
            · obtain ⟨t2, ht2⟩ := pre2_yes hq
              have hb : Hid (behind (s.data.toList.drop j) = s.data.toList.drop (j + 2)) := by
                show behind _ = _
                rw [behind_here ht2]
                have := congrArg (List.drop 2) ht2
                rw [List.drop_drop] at this
                exact this.symm
              obtain ⟨k', l', r1, r2, r3, r4, r5, r6, r7⟩ := last hb
              have R := Lib.hid r3
              rw [hq] at c2
              clear hdj hq ch c1 ht2 hb r3
              go_wp2_with (go_at_call 27; (with_reducible refine (c2 _).mono ?_); rintro e w'' ⟨rfl, rfl⟩)
              go_roundw
              case rel => exact ⟨k', l', r1, r2, R.out, r4, r5, r6⟩
              case measure => simp [intOf]; omega
          · have hb : Hid (behind (s.data.toList.drop j) = s.data.toList.drop (j + 2)) := by
              show behind _ = _
              rw [List.drop_of_length_le (by rw [size_list]; omega), List.drop_of_length_le (by rw [size_list]; omega)]
              rfl
            obtain ⟨k', l', r1, r2, r3, r4, r5, r6, r7⟩ := last hb
            have R := Lib.hid r3
            have d1 : decide ((j : Int) < s.size) = false := decide_eq_false (by omega)
            clear ch c1 hb r3
            go_wp2
            go_roundw
            case rel => exact ⟨k', l', r1, r2, R.out, r4, r5, r6⟩
            case measure => simp [intOf]; omega
    · have hdr : s.data.toList.drop k = [] := List.drop_of_length_le (by rw [size_list]; omega)
      have HE : Hid ((⟨l.toArray⟩ : ByteArray) = R) := by
        show (⟨l.toArray⟩ : ByteArray) = R
        rw [← HR.out]
        unfold onB
        rw [HS.out, hdr, stripL_nil, List.append_nil]
      have hcv := bys_text hY
      generalize (⟨l.toArray⟩ : ByteArray) = r at hcv HE
      clear ch hdr
      go_wp2
      go_ret
      obtain rfl := HE.out
      exact ⟨rfl, hB⟩
end Go.Proofs.YthkofdleoigajaaDoor
