/- What the document's own Blocks of layer 7 answers. Conditions: the text is not too long. -/
import Derived.Test.YthkofdleoigajaaDoorRx7Split
namespace Go.Proofs.YthkofdleoigajaaDoor
open Go.ChangeShapes Go.WideShapes Go.ChangeAt Go.RowKit
def Bks (w : World) (base : Nat) (v : Value) (l : List (List UInt8 × List UInt8)) : Prop := w.ownsRow base 28 2 v l.length (flatB l)
theorem flatB_len (l : List (List UInt8 × List UInt8)) : (flatB l).length = l.length * 2 := by
  induction l with
  | nil => rfl
  | cons b t ih => unfold flatB at ih ⊢; rw [List.flatMap_cons, List.length_append, ih]; simp only [List.length_cons, List.length_nil]; omega
theorem flatB_snoc (l : List (List UInt8 × List UInt8)) (b : List UInt8 × List UInt8) : flatB (l ++ [b]) = flatB l ++ [.string (toB b.1), .string (toB b.2)] := by
  unfold flatB; rw [List.flatMap_append]; rfl
theorem blk_info : (Tryd.prog.info? 28).map (fun i => (i.zero, i.size, i.bytes)) = some (some (.agg #[.string ⟨#[]⟩, .string ⟨#[]⟩]), 2, 32) := by kernel_rfl
theorem Bks.nil (w : World) (base : Nat) (h : base ≤ w.heap.size) : Bks (w.alloc (.cells #[] 28)) base (.slice (some ⟨w.heap.size, 0, none⟩) 0 0) [] := World.ownsRow_made w #[] 0 h (Nat.zero_le _) rfl
theorem step_block {ops : Array Oper} {o : Oper} {a : Act} {K : Act → World → Prop} {Q : Exit → Act → World → Prop} {E : Prop} (w : World) (hgd : o.guard = none) (s x : Operand)
    (ho : o.op = .call { callee := .builtin .append, args := #[s, x], argTypes := #[25, 25] })
    (base : Nat) (v : Value) (l : List (List UInt8 × List UInt8)) (h b : List UInt8) (hs : a.eval s = v) (hown : Bks w base v l) (cp : Nat) (hx : a.eval x = .slice (some ⟨w.heap.size, 0, none⟩) 1 cp) (hl : l.length < 4000000000) (hbase : base ≤ w.heap.size)
    (hk : ∀ v' w', Bks w' base v' (l ++ [(h, b)]) → (w.alloc (.cells #[.string (toB h), .string (toB b)] 28)).grownBy w' v.ownBlock → K (a.put o.dst v') w') :
    if Region.wanted o (yielded ops a.tmps) = true then Oper.wp Tryd.prog o a (w.alloc (.cells #[.string (toB h), .string (toB b)] 28)) K Q else E := by
  obtain ⟨i0, hi0, hz0, hz1, hz2⟩ := info_parts blk_info
  refine step_append_any _ hgd s x _ ho base 28 i0 _ 2 32 Tryd.underlying25 hi0 hz0 hz1 hz2 rfl (by omega) v l.length (flatB l) hs (World.ownsRow.alloc hown _) (w.heap.size + 1) (some ⟨w.heap.size, 0, none⟩) 1 cp [.string (toB h), .string (toB b)] hx ?_ ?_ (by simp only [maxLen]; omega) (by omega) (by rw [size_al]; omega) ?_
  · refine ⟨rfl, fun _ => ⟨_, rfl, Nat.lt_succ_self _, fun j u hu => ?_⟩⟩
    have hc := Blk.new w 28 #[.string (toB h), .string (toB b)]
    rw [add_zero_, hc.cell j]
    match j, hu with
    | 0, hu => exact hu
    | 1, hu => exact hu
  · intro u hu
    simp only [List.mem_cons, List.not_mem_nil, or_false] at hu
    rcases hu with rfl | rfl <;> rfl
  · intro v' w' h2 h3 _
    refine hk v' w' ?_ h3
    show w'.ownsRow base 28 2 v' (l ++ [(h, b)]).length (flatB (l ++ [(h, b)]))
    rw [flatB_snoc, List.length_append]
    exact h2
theorem ext_snoc (s : ByteArray) (f k : Nat) (hf : f ≤ k) (hk : k < s.size) : (s.extract f (k + 1)).data.toList = (s.extract f k).data.toList ++ [s[k]] := by
  rw [extract_list, extract_list, List.take_succ_eq_append_getElem (by rw [size_list]; exact hk), List.drop_append_of_le_length (by rw [List.length_take, size_list]; omega)]
  rfl
theorem ext_none (s : ByteArray) (k : Nat) : (s.extract k k).data.toList = [] := by
  rw [extract_list]
  exact List.drop_of_length_le (List.length_take_le _ _)
def bfold (s : ByteArray) (k : Nat) : Bst := (s.data.toList.take k).foldl bstep ⟨[], [], none⟩
theorem bfold_next (s : ByteArray) (k : Nat) (hk : k < s.size) : bfold s (k + 1) = bstep (bfold s k) s[k] := by
  unfold bfold
  rw [List.take_succ_eq_append_getElem (by rw [size_list]; exact hk), List.foldl_append]
  rfl
theorem bstep_close {o : List (List UInt8 × List UInt8)} {h b : List UInt8} : bstep ⟨o, h, some b⟩ 125 = ⟨o ++ [(trimL h, trimL b)], [], none⟩ := rfl
theorem bstep_drop {o : List (List UInt8 × List UInt8)} {h : List UInt8} : bstep ⟨o, h, none⟩ 125 = ⟨o, [], none⟩ := rfl
theorem bstep_open {o : List (List UInt8 × List UInt8)} {h : List UInt8} : bstep ⟨o, h, none⟩ 123 = ⟨o, h, some []⟩ := rfl
theorem bstep_body {o : List (List UInt8 × List UInt8)} {h b : List UInt8} {c : UInt8} (hc : ¬ c = 125) : bstep ⟨o, h, some b⟩ c = ⟨o, h, some (b ++ [c])⟩ := by unfold bstep; rw [if_neg hc]
theorem bstep_head {o : List (List UInt8 × List UInt8)} {h : List UInt8} {c : UInt8} (hc : ¬ c = 125) (hd : ¬ c = 123) : bstep ⟨o, h, none⟩ c = ⟨o, h ++ [c], none⟩ := by unfold bstep; rw [if_neg hc]; show (if c = 123 then _ else _) = _; rw [if_neg hd]
theorem byte_is {c d : UInt8} : ((c.toNat : Int) == (d.toNat : Int)) = decide (c = d) := by
  by_cases h : c = d
  · subst h; simp
  · rw [decide_eq_false h, beq_eq_false_iff_ne]
    exact fun e => h (UInt8.toNat_inj.1 (by omega))
/-- How far a round of Blocks has come. -/
def BRel (s : ByteArray) (k f : Nat) (op : Option Nat) (o : List (List UInt8 × List UInt8)) : Prop := match op with
  | none => f ≤ k ∧ bfold s k = ⟨o, (s.extract f k).data.toList, none⟩
  | some p => f ≤ p ∧ p < k ∧ bfold s k = ⟨o, (s.extract f p).data.toList, some (s.extract (p + 1) k).data.toList⟩
def opV : Option Nat → Value
  | none => .int .i64 (-1)
  | some p => .int .i64 p
theorem r_open {s : ByteArray} {k f : Nat} {o} (h : BRel s k f none o) (hk : k < s.size) (hc : s[k] = 123) : BRel s (k + 1) f (some k) o := by
  obtain ⟨h1, h2⟩ := h
  exact ⟨h1, Nat.lt_succ_self _, by rw [bfold_next s k hk, h2, hc, bstep_open, ext_none]⟩
theorem r_head {s : ByteArray} {k f : Nat} {o} (h : BRel s k f none o) (hk : k < s.size) (hc : ¬ s[k] = 125) (hd : ¬ s[k] = 123) : BRel s (k + 1) f none o := by
  obtain ⟨h1, h2⟩ := h
  exact ⟨by omega, by rw [bfold_next s k hk, h2, bstep_head hc hd, ext_snoc s f k h1 hk]⟩
theorem r_drop {s : ByteArray} {k f : Nat} {o} (h : BRel s k f none o) (hk : k < s.size) (hc : s[k] = 125) : BRel s (k + 1) (k + 1) none o := by
  obtain ⟨h1, h2⟩ := h
  exact ⟨Nat.le_refl _, by rw [bfold_next s k hk, h2, hc, bstep_drop, ext_none]⟩
theorem r_close {s : ByteArray} {k f p : Nat} {o} (h : BRel s k f (some p) o) (hk : k < s.size) (hc : s[k] = 125) :
    BRel s (k + 1) (k + 1) none (o ++ [(trimL (s.extract f p).data.toList, trimL (s.extract (p + 1) k).data.toList)]) := by
  obtain ⟨h1, h2, h3⟩ := h
  exact ⟨Nat.le_refl _, by rw [bfold_next s k hk, h3, hc, bstep_close, ext_none]⟩
theorem r_body {s : ByteArray} {k f p : Nat} {o} (h : BRel s k f (some p) o) (hk : k < s.size) (hc : ¬ s[k] = 125) : BRel s (k + 1) f (some p) o := by
  obtain ⟨h1, h2, h3⟩ := h
  exact ⟨h1, by omega, by rw [bfold_next s k hk, h3, bstep_body hc, ext_snoc s (p + 1) k (by omega) hk]⟩
theorem r_all {s : ByteArray} {k f : Nat} {op} {o} (h : BRel s k f op o) (hk : s.size ≤ k) : blocksF s.data.toList = o := by
  have e : bfold s k = (s.data.toList.foldl bstep ⟨[], [], none⟩) := by unfold bfold; rw [List.take_of_length_le (by rw [size_list]; omega)]
  unfold blocksF
  rw [← e]
  cases op with
  | none => rw [h.2]
  | some p => rw [h.2.2]
set_option maxHeartbeats 8000000 in
theorem rblocks_any (s : ByteArray) (w : World) (hs : s.size ≤ mostB) :
    Calls Tryd.prog 9 #[.string s] w fun e w' => ∃ A n c, e = .returned (.slice A n c) ∧ Reads w' w'.heap.size 2 A n (flatB (blocksF s.data.toList)) ∧ Below w.heap.size w w' := by
  have hs' : s.size ≤ 1000000 := hs
  have ct := fun (q : ByteArray) (hq : q.size ≤ s.size) w => rtrim_any q w (by unfold maxLen; omega)
  have hB0 := below_al (Below.refl w.heap.size w) (.cells #[] 28)
  have hY0 := Bks.nil w w.heap.size (Nat.le_refl _)
  have hI0 : Hid (BRel s 0 0 none []) := ⟨Nat.le_refl _, by rw [ext_none]; rfl⟩
  go_enter Tryd.func9, Tryd.ntmps9
  go_wp2
  go_loopw [3, 4, 5, 6] (fun v fr opn i wr => ∃ (k f : Nat) (op : Option Nat) (out : List (List UInt8 × List UInt8)), k ≤ s.size ∧ i = .int .i64 k ∧ fr = .int .i64 f ∧ opn = opV op ∧ Hid (BRel s k f op out) ∧ out.length ≤ k ∧ Bks wr w.heap.size v out ∧ Below w.heap.size w wr) (fun _ _ _ i _ => s.size - (intOf i).toNat)
  case atStart => exact ⟨0, 0, none, [], Nat.zero_le _, rfl, rfl, rfl, hI0, Nat.le_refl _, hY0, hB0⟩
  case round =>
    obtain ⟨k, f, op, out, hk, rfl, rfl, rfl, HI, hok, hY, hB⟩ := hrel
    clear hB0 hY0 hI0
    have hle := hB.size
    by_cases hkl : k < s.size
    · have b1 : ((s[k].toNat : Int) == 125) = decide (s[k] = 125) := byte_is (d := 125)
      have b2 : ((s[k].toNat : Int) == 123) = decide (s[k] = 123) := byte_is (d := 123)
      cases op with
      | none =>
        unfold opV
        by_cases hc : s[k] = 123
        · have HN := Lib.hid (r_open HI.out hkl hc)
          have hd : ¬ s[k] = 125 := by rw [hc]; decide
          rw [decide_eq_true hc] at b2
          rw [decide_eq_false hd] at b1
          clear hc hd HI ct
          go_wp2
          go_roundw
          case rel => exact ⟨k + 1, f, some k, out, by omega, by go_num, rfl, rfl, HN, by omega, hY, hB⟩
          case measure => simp [intOf]; omega
        · by_cases hd : s[k] = 125
          · have HN := Lib.hid (r_drop HI.out hkl hd)
            rw [decide_eq_false hc] at b2
            rw [decide_eq_true hd] at b1
            clear hc hd HI ct
            go_wp2
            go_roundw
            case rel => exact ⟨k + 1, k + 1, none, out, by omega, by go_num, by go_num, rfl, HN, by omega, hY, hB⟩
            case measure => simp [intOf]; omega
          · have HN := Lib.hid (r_head HI.out hkl hd hc)
            rw [decide_eq_false hc] at b2
            rw [decide_eq_false hd] at b1
            clear hc hd HI ct
            go_wp2
            go_roundw
            case rel => exact ⟨k + 1, f, none, out, by omega, by go_num, rfl, rfl, HN, by omega, hY, hB⟩
            case measure => simp [intOf]; omega
      | some p =>
        unfold opV
        obtain ⟨p1, p2, -⟩ := HI.out
        by_cases hd : s[k] = 125
        · have HN := Lib.hid (r_close HI.out hkl hd)
          have c1 := fun w => ct (s.extract f p) (by rw [ByteArray.size_extract]; omega) w
          have c2 := fun w => ct (s.extract (p + 1) k) (by rw [ByteArray.size_extract]; omega) w
          have hsl1 : ∀ w, (Instr.slice 9 (.string s) (some (.int .i64 f)) (some (.int .i64 p)) none).run Tryd.prog w = .ok (.string (s.extract f p)) w := by
            intro w
            have := run_slice_string (P := Tryd.prog) w 9 s .i64 .i64 f p Tryd.underlying9 (by omega) (by omega) (by omega)
            rwa [Int.toNat_natCast, Int.toNat_natCast] at this
          have hsl2 : ∀ w, (Instr.slice 9 (.string s) (some (.int .i64 ((p : Int) + 1))) (some (.int .i64 k)) none).run Tryd.prog w = .ok (.string (s.extract (p + 1) k)) w := by
            intro w
            have := run_slice_string (P := Tryd.prog) w 9 s .i64 .i64 ((p : Int) + 1) k Tryd.underlying9 (by omega) (by omega) (by omega)
            rwa [show ((p : Int) + 1).toNat = p + 1 by omega, Int.toNat_natCast] at this
          have s1 : IntKind.i64.wrap ((p : Int) + 1) = (p : Int) + 1 := IntWalk.i64_in _ (by omega)
          rw [onB_toB] at c1 c2
          have hc : ¬ s[k] = 123 := by rw [hd]; decide
          rw [decide_eq_false hc] at b2
          rw [decide_eq_true hd] at b1
          generalize trimL (s.extract f p).data.toList = x at *
          generalize trimL (s.extract (p + 1) k).data.toList = y at *
          generalize s.extract f p = q1 at *
          generalize s.extract (p + 1) k = q2 at *
          clear hc hd HI ct
          have hol : out.length < 4000000000 := by omega
          go_wp2
          go_region_law (first
            | (refine step_block wr.drew (by rfl) (.tmp 29) (.tmp 42) (by rfl) w.heap.size _ out x y (by rfl) hY _ (by rfl) hol hle ?_; intro v' w' hY' hg)
            | (go_simp; go_at_call 13; (first | (with_reducible refine (c1 _).mono ?_) | (with_reducible refine (c2 _).mono ?_)); rintro e w1 ⟨rfl, rfl⟩))
          all_goals
            have hb2 := below_al hB.drew (.cells #[.string (toB x), .string (toB y)] 28)
            have hB' : Below w.heap.size w w' := hb2.grown hg hb2.size (fun k hk => (World.ownsRow.lt hY k hk).1)
            clear hg hb2 hY c1 c2 hsl1 hsl2
            go_wp2
            go_roundw
            case rel => exact ⟨k + 1, k + 1, none, out ++ [(x, y)], by omega, by go_num, by go_num, rfl, HN, by simp; omega, hY', hB'⟩
            case measure => simp [intOf]; omega
        · have HN := Lib.hid (r_body HI.out hkl hd)
          rw [decide_eq_false hd] at b1
          clear hd HI ct
          cases b3 : decide (s[k] = 123)
          all_goals
            rw [b3] at b2
            clear b3
            go_wp2
            go_roundw
            case rel => exact ⟨k + 1, f, some p, out, by omega, by go_num, rfl, rfl, HN, by omega, hY, hB⟩
            case measure => simp [intOf]; omega
    · have HA := Lib.hid (r_all HI.out (by omega))
      obtain ⟨A, c, rfl⟩ := own_form' hY
      have hR : Reads wr wr.heap.size 2 A out.length (flatB out) := Reads.of_own hY
      have HR : Hid (Reads wr wr.heap.size 2 A out.length (flatB (blocksF s.data.toList))) := by
        show Reads _ _ _ _ _ _
        rw [HA.out]; exact hR
      clear hR hY HI HA ct
      go_wp2
      go_ret
      exact ⟨A, _, c, rfl, HR.out, hB⟩
end Go.Proofs.YthkofdleoigajaaDoor
