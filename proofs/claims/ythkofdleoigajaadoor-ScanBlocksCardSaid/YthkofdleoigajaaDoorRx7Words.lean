/- What the document's own Words of layer 7 answers. Conditions: the text is not too long. -/
import Derived.Test.YthkofdleoigajaaDoorRx7Trim
import Derived.Test.YthkofdleoigajaaDoorTexts
namespace Go.Proofs.YthkofdleoigajaaDoor
open Go.ChangeShapes Go.WideShapes Go.ChangeAt Go.RowKit
theorem partsAt_ne (p : UInt8 → Bool) (l : List UInt8) : partsAt p l ≠ [] := by
  cases l with
  | nil => exact List.cons_ne_nil _ _
  | cons c t =>
    unfold partsAt
    split
    · exact List.cons_ne_nil _ _
    · split <;> exact List.cons_ne_nil _ _
/-- The words of what was begun, and of the rest. -/
def wfin (word rest : List UInt8) : List (List UInt8) := match partsAt isBlank rest with
  | [] => []
  | h :: r => ((word ++ h) :: r).filter fun w => !w.isEmpty
theorem wfin_all (l : List UInt8) : wordsF l = wfin [] l := by
  unfold wordsF wfin
  cases h : partsAt isBlank l with
  | nil => rfl
  | cons a r => rfl
theorem wfin_more {c : UInt8} (word t : List UInt8) (h : isBlank c = false) : wfin word (c :: t) = wfin (word ++ [c]) t := by
  unfold wfin
  rw [partsAt, if_neg (by rw [h]; decide)]
  cases hp : partsAt isBlank t with
  | nil => exact absurd hp (partsAt_ne _ _)
  | cons a r =>
    show ((word ++ (c :: a)) :: r).filter _ = (((word ++ [c]) ++ a) :: r).filter _
    rw [List.append_assoc]; rfl
theorem wfin_blank {c : UInt8} (word t : List UInt8) (h : isBlank c = true) : wfin word (c :: t) = (if word.isEmpty then [] else [word]) ++ wfin [] t := by
  have e := wfin_all t
  unfold wordsF at e
  rw [← e]
  unfold wfin
  rw [partsAt, if_pos h]
  show ((word ++ []) :: partsAt isBlank t).filter _ = _
  rw [List.append_nil, List.filter_cons]
  cases word.isEmpty <;> rfl
theorem wfin_end (word : List UInt8) : wfin word [] = (if word.isEmpty then [] else [word]) := by
  unfold wfin
  show ((word ++ []) :: []).filter _ = _
  rw [List.append_nil, List.filter_cons]
  cases word.isEmpty <;> rfl
theorem cat_one (word : List UInt8) (s : ByteArray) (k : Nat) (h : k < s.size) : toB word ++ s.extract k (k + 1) = toB (word ++ [s[k]]) := by
  refine bytes_inj ?_
  show ((toB word) ++ (s.extract k (k + 1))).data.toList = word ++ [s[k]]
  rw [ByteArray.data_append, Array.toList_append, extract_list]
  have : (s.data.toList.take (k + 1)).drop k = [s[k]] := by
    rw [List.drop_take, List.drop_eq_getElem_cons (l := s.data.toList) (i := k) (by rw [size_list]; exact h)]
    show List.take (k + 1 - k) _ = _
    rw [show k + 1 - k = 1 by omega]
    rfl
  rw [this]
  rfl
theorem toB_size (l : List UInt8) : (toB l).size = l.length := by show (toB l).data.size = _; simp [toB]
theorem toB_beq (l : List UInt8) : ((toB l).toList == []) = l.isEmpty := by
  rw [ByteArray.toList_eq]
  show (l == []) = l.isEmpty
  cases l <;> rfl
set_option maxHeartbeats 4000000 in
theorem rwords_any (s : ByteArray) (w : World) (hs : s.size ≤ mostB) :
    Calls Tryd.prog 18 #[.string s] w fun e w' => ∃ A n c, e = .returned (.slice A n c) ∧ Reads w' w'.heap.size 1 A n (strs (wordsF s.data.toList)) ∧ Below w.heap.size w w' := by
  unfold mostB at hs
  have hB0 := below_al (Below.refl w.heap.size w) (.cells #[] 9)
  have hY0 := Txs.nil w w.heap.size (Nat.le_refl _)
  have hW := wfin_all s.data.toList
  go_enter Tryd.func18, Tryd.ntmps18
  go_wp2
  go_loopw [3, 4, 5] (fun v u i wr => ∃ (k : Nat) (out : List (List UInt8)) (word : List UInt8), k ≤ s.size + 1 ∧ i = .int .i64 k ∧ u = .string (toB word) ∧ word.length ≤ k ∧ out.length ≤ k ∧ Txs wr w.heap.size v out ∧ Below w.heap.size w wr ∧
    Hid (if k ≤ s.size then wordsF s.data.toList = out ++ wfin word (s.data.toList.drop k) else wordsF s.data.toList = out)) (fun _ _ i _ => s.size + 1 - (intOf i).toNat)
  case atStart => exact ⟨0, [], [], Nat.zero_le _, rfl, rfl, Nat.le_refl _, Nat.le_refl _, hY0, hB0, by show ite _ _ _; rw [if_pos (Nat.zero_le _)]; exact hW⟩
  case round =>
    obtain ⟨k, out, word, hk, rfl, rfl, hwk, hok, hY, hB, HI⟩ := hrel
    clear hB0 hY0 hW
    have hle := hB.size
    by_cases hkl : k < s.size
    · have HI' : wordsF s.data.toList = out ++ wfin word (s.data.toList.drop k) := by
        have := HI.out
        rwa [if_pos (by omega)] at this
      rw [List.drop_eq_getElem_cons (l := s.data.toList) (i := k) (by rw [size_list]; exact hkl)] at HI'
      have c1 := fun w => rblank_any s[k] w
      cases hbl : isBlank s[k]
      · have HN : Hid (if k + 1 ≤ s.size then wordsF s.data.toList = out ++ wfin (word ++ [s[k]]) (s.data.toList.drop (k + 1)) else wordsF s.data.toList = out) := by
          show ite _ _ _
          rw [if_pos (by omega), HI']
          congr 1
          exact wfin_more _ _ hbl
        have hsl : ∀ w, (Instr.slice 9 (.string s) (some (.int .i64 k)) (some (.int .i64 ((k : Int) + 1))) none).run Tryd.prog w = .ok (.string (s.extract k (k + 1))) w := by
          intro w
          have := run_slice_string (P := Tryd.prog) w 9 s .i64 .i64 k ((k : Int) + 1) Tryd.underlying9 (by omega) (by omega) (by omega)
          rwa [show ((k : Int) + 1).toNat = k + 1 by omega, Int.toNat_natCast] at this
        have hcat := cat_one word s k hkl
        have z1 : (toB word).size ≤ 1000001 := by rw [toB_size]; omega
        have z2 : (s.extract k (k + 1)).size ≤ 1 := by rw [ByteArray.size_extract]; omega
        rw [hbl] at c1
        have hl2 : (word ++ [s[k]]).length ≤ k + 1 := by simp; omega
        clear HI HI' hbl
        generalize s.extract k (k + 1) = q at *
        generalize hw2 : word ++ [s[k]] = word2 at *
        clear hw2
        generalize toB word = bw at *
        go_wp2_with (go_at_call 29; (with_reducible refine (c1 _).mono ?_); rintro e w' ⟨rfl, rfl⟩)
        go_roundw
        case rel => exact ⟨k + 1, out, word2, by omega, by go_num, rfl, hl2, by omega, hY, hB, HN⟩
        case measure => simp [intOf]; omega
      · have HF : Hid (if k + 1 ≤ s.size then wordsF s.data.toList = (out ++ if word.isEmpty then [] else [word]) ++ wfin [] (s.data.toList.drop (k + 1)) else wordsF s.data.toList = out ++ if word.isEmpty then [] else [word]) := by
          show ite _ _ _
          rw [if_pos (by omega), HI', List.append_assoc]
          congr 1
          exact wfin_blank _ _ hbl
        rw [hbl] at c1
        clear HI HI' hbl
        cases hem : word.isEmpty
        · have e0 : ((toB word).toList == []) = false := by rw [toB_beq]; exact hem
          have HN : Hid (if k + 1 ≤ s.size then wordsF s.data.toList = (out ++ [word]) ++ wfin [] (s.data.toList.drop (k + 1)) else wordsF s.data.toList = out ++ [word]) := by
            have := HF.out
            rw [hem] at this
            exact this
          have HU : Hid (Value.string (toB word) = .string (toB word)) := rfl
          clear HF hem
          generalize hbw : toB word = bw at e0 HU
          have HBT : Hid (Value.string (toB word) = .string bw) := by show Value.string (toB word) = _; rw [hbw]
          clear hbw
          go_wp2_with (first
            | (go_at_call 29; (with_reducible refine (c1 _).mono ?_); rintro e w' ⟨rfl, rfl⟩)
            | (at_builtin; refine wpList_textU wr rfl (.tmp 33) (.tmp 35) rfl w.heap.size _ _ word _ HBT _ rfl hY rfl (by omega) hle ?_; intro v' w' hY' hg
               have hB' := below_textU hB hY hg
               clear hg))
          go_roundw
          case rel => exact ⟨k + 1, out ++ [word], [], by omega, by go_num, rfl, Nat.zero_le _, by simp; omega, hY', hB', HN⟩
          case measure => simp [intOf]; omega
        · have e0 : ((toB word).toList == []) = true := by rw [toB_beq]; exact hem
          have HN : Hid (if k + 1 ≤ s.size then wordsF s.data.toList = out ++ wfin [] (s.data.toList.drop (k + 1)) else wordsF s.data.toList = out) := by
            have := HF.out
            rw [hem] at this
            show ite _ _ _
            simpa using this
          clear HF hem
          generalize toB word = bw at *
          go_wp2_with ((go_at_call 29; (with_reducible refine (c1 _).mono ?_); rintro e w' ⟨rfl, rfl⟩))
          go_roundw
          case rel => exact ⟨k + 1, out, [], by omega, by go_num, rfl, Nat.zero_le _, by omega, hY, hB, HN⟩
          case measure => simp [intOf]; omega
    · by_cases hke : k = s.size
      · have HI' : wordsF s.data.toList = out ++ wfin word [] := by
          have := HI.out
          rw [if_pos (by omega), List.drop_of_length_le (by rw [size_list]; omega)] at this
          exact this
        rw [wfin_end] at HI'
        have HF : Hid (if k + 1 ≤ s.size then wordsF s.data.toList = (out ++ if word.isEmpty then [] else [word]) ++ wfin [] (s.data.toList.drop (k + 1)) else wordsF s.data.toList = out ++ if word.isEmpty then [] else [word]) := by
          show ite _ _ _
          rw [if_neg (by omega)]
          exact HI'
        have d1 : decide ((k : Int) < s.size) = false := decide_eq_false (by omega)
        have d2 : (k : Int) ≤ s.size := by omega
        clear HI HI' hke
        cases hem : word.isEmpty
        · have e0 : ((toB word).toList == []) = false := by rw [toB_beq]; exact hem
          have HN : Hid (if k + 1 ≤ s.size then wordsF s.data.toList = (out ++ [word]) ++ wfin [] (s.data.toList.drop (k + 1)) else wordsF s.data.toList = out ++ [word]) := by
            have := HF.out
            rw [hem] at this
            exact this
          have HU : Hid (Value.string (toB word) = .string (toB word)) := rfl
          clear HF hem
          generalize hbw : toB word = bw at e0 HU
          have HBT : Hid (Value.string (toB word) = .string bw) := by show Value.string (toB word) = _; rw [hbw]
          clear hbw
          go_wp2_with (first
            | (at_builtin; refine wpList_textU wr rfl (.tmp 33) (.tmp 35) rfl w.heap.size _ _ word _ HBT _ rfl hY rfl (by omega) hle ?_; intro v' w' hY' hg
               have hB' := below_textU hB hY hg
               clear hg))
          go_roundw
          case rel => exact ⟨k + 1, out ++ [word], [], by omega, by go_num, rfl, Nat.zero_le _, by simp; omega, hY', hB', HN⟩
          case measure => simp [intOf]; omega
        · have e0 : ((toB word).toList == []) = true := by rw [toB_beq]; exact hem
          have HN : Hid (if k + 1 ≤ s.size then wordsF s.data.toList = out ++ wfin [] (s.data.toList.drop (k + 1)) else wordsF s.data.toList = out) := by
            have := HF.out
            rw [hem] at this
            show ite _ _ _
            simpa using this
          clear HF hem
          generalize toB word = bw at *
          go_wp2_with ((go_at_call 29; (with_reducible refine (c1 _).mono ?_); rintro e w' ⟨rfl, rfl⟩))
          go_roundw
          case rel => exact ⟨k + 1, out, [], by omega, by go_num, rfl, Nat.zero_le _, by omega, hY, hB, HN⟩
          case measure => simp [intOf]; omega
      · obtain rfl : k = s.size + 1 := by omega
        have HI' : wordsF s.data.toList = out := by
          have := HI.out
          rwa [if_neg (by omega)] at this
        obtain ⟨A, c, rfl⟩ := own_form' hY
        have hR : Reads wr wr.heap.size 1 A out.length (strs out) := Reads.of_own hY
        have HR : Hid (Reads wr wr.heap.size 1 A out.length (strs (wordsF s.data.toList))) := by
          show Reads _ _ _ _ _ _
          rw [HI']; exact hR
        clear HI HI' hR
        go_wp2
        go_ret
        exact ⟨A, _, c, rfl, HR.out, hB⟩
end Go.Proofs.YthkofdleoigajaaDoor
