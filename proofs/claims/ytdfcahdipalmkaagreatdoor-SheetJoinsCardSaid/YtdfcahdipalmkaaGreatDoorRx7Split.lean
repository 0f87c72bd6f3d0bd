/- What the document's own Split of layer 7 answers. Conditions: the text is not too long. -/
import Derived.Test.YtdfcahdipalmkaaGreatDoorScanTrimC
import Derived.Test.YtdfcahdipalmkaaGreatDoorKt
import Derived.Deep.RegionLaw
import Derived.Deep.RegionWith
/- What the document's own Words of layer 7 answers. Conditions: the text is not too long. -/
namespace Go.Proofs.YtdfcahdipalmkaaGreatDoor
open Go.ChangeShapes Go.WideShapes Go.ChangeAt Go.RowKit
theorem partsAt_ne (p : UInt8 → Bool) (l : List UInt8) : partsAt p l ≠ [] := by
  cases l with
  | nil => exact List.cons_ne_nil _ _
  | cons c t =>
    unfold partsAt
    split
    · exact List.cons_ne_nil _ _
    · split <;> exact List.cons_ne_nil _ _
/-- The words of what was begun, and of the rest. -/
def wfin (word rest : List UInt8) : List (List UInt8) := match partsAt isBlank rest with
  | [] => []
  | h :: r => ((word ++ h) :: r).filter fun w => !w.isEmpty
theorem wfin_all (l : List UInt8) : wordsF l = wfin [] l := by
  unfold wordsF wfin
  cases h : partsAt isBlank l with
  | nil => rfl
  | cons a r => rfl
theorem wfin_more {c : UInt8} (word t : List UInt8) (h : isBlank c = false) : wfin word (c :: t) = wfin (word ++ [c]) t := by
  unfold wfin
  rw [partsAt, if_neg (by rw [h]; decide)]
  cases hp : partsAt isBlank t with
  | nil => exact absurd hp (partsAt_ne _ _)
  | cons a r =>
    show ((word ++ (c :: a)) :: r).filter _ = (((word ++ [c]) ++ a) :: r).filter _
    rw [List.append_assoc]; rfl
theorem wfin_blank {c : UInt8} (word t : List UInt8) (h : isBlank c = true) : wfin word (c :: t) = (if word.isEmpty then [] else [word]) ++ wfin [] t := by
  have e := wfin_all t
  unfold wordsF at e
  rw [← e]
  unfold wfin
  rw [partsAt, if_pos h]
  show ((word ++ []) :: partsAt isBlank t).filter _ = _
  rw [List.append_nil, List.filter_cons]
  cases word.isEmpty <;> rfl
theorem wfin_end (word : List UInt8) : wfin word [] = (if word.isEmpty then [] else [word]) := by
  unfold wfin
  show ((word ++ []) :: []).filter _ = _
  rw [List.append_nil, List.filter_cons]
  cases word.isEmpty <;> rfl
theorem cat_one (word : List UInt8) (s : ByteArray) (k : Nat) (h : k < s.size) : toB word ++ s.extract k (k + 1) = toB (word ++ [s[k]]) := by
  refine bytes_inj ?_
  show ((toB word) ++ (s.extract k (k + 1))).data.toList = word ++ [s[k]]
  rw [ByteArray.data_append, Array.toList_append, extract_list]
  have : (s.data.toList.take (k + 1)).drop k = [s[k]] := by
    rw [List.drop_take, List.drop_eq_getElem_cons (l := s.data.toList) (i := k) (by rw [size_list]; exact h)]
    show List.take (k + 1 - k) _ = _
    rw [show k + 1 - k = 1 by omega]
    rfl
  rw [this]
  rfl
theorem toB_beq (l : List UInt8) : ((toB l).toList == []) = l.isEmpty := by
  rw [ByteArray.toList_eq]
  show (l == []) = l.isEmpty
  cases l <;> rfl
set_option maxHeartbeats 4000000 in
theorem rwords_any (s : ByteArray) (w : World) (hs : s.size ≤ mostB) :
    Calls Tryz.prog 72 #[.string s] w fun e w' => ∃ A n c, e = .returned (.slice A n c) ∧ Reads w' w'.heap.size 1 A n (strs (wordsF s.data.toList)) ∧ Below w.heap.size w w' := by
  unfold mostB at hs
  have hB0 := below_al (Below.refl w.heap.size w) (.cells #[] 9)
  have hY0 := Txs.nil w w.heap.size (Nat.le_refl _)
  have hW := wfin_all s.data.toList
  go_enter Tryz.func72, Tryz.ntmps72
  go_wp2
  go_loopw [3, 4, 5] (fun v u i wr => ∃ (k : Nat) (out : List (List UInt8)) (word : List UInt8), k ≤ s.size + 1 ∧ i = .int .i64 k ∧ u = .string (toB word) ∧ word.length ≤ k ∧ out.length ≤ k ∧ Txs wr w.heap.size v out ∧ Below w.heap.size w wr ∧
    Hid (if k ≤ s.size then wordsF s.data.toList = out ++ wfin word (s.data.toList.drop k) else wordsF s.data.toList = out)) (fun _ _ i _ => s.size + 1 - (intOf i).toNat)
  case atStart => exact ⟨0, [], [], Nat.zero_le _, rfl, rfl, Nat.le_refl _, Nat.le_refl _, hY0, hB0, by show ite _ _ _; rw [if_pos (Nat.zero_le _)]; exact hW⟩
  case round =>
    obtain ⟨k, out, word, hk, rfl, rfl, hwk, hok, hY, hB, HI⟩ := hrel
    clear hB0 hY0 hW
    have hle := hB.size
    by_cases hkl : k < s.size
    · have HI' : wordsF s.data.toList = out ++ wfin word (s.data.toList.drop k) := by
        have := HI.out
        rwa [if_pos (by omega)] at this
      rw [List.drop_eq_getElem_cons (l := s.data.toList) (i := k) (by rw [size_list]; exact hkl)] at HI'
      have c1 := fun w => rblank_any s[k] w
      cases hbl : isBlank s[k]
      · have HN : Hid (if k + 1 ≤ s.size then wordsF s.data.toList = out ++ wfin (word ++ [s[k]]) (s.data.toList.drop (k + 1)) else wordsF s.data.toList = out) := by
          show ite _ _ _
          rw [if_pos (by omega), HI']
          congr 1
          exact wfin_more _ _ hbl
        have hsl : ∀ w, (Instr.slice 9 (.string s) (some (.int .i64 k)) (some (.int .i64 ((k : Int) + 1))) none).run Tryz.prog w = .ok (.string (s.extract k (k + 1))) w := by
          intro w
          have := run_slice_string (P := Tryz.prog) w 9 s .i64 .i64 k ((k : Int) + 1) Tryz.underlying9 (by omega) (by omega) (by omega)
          rwa [show ((k : Int) + 1).toNat = k + 1 by omega, Int.toNat_natCast] at this
        have hcat := cat_one word s k hkl
        have z1 : (toB word).size ≤ 1000001 := by rw [toB_size]; omega
        have z2 : (s.extract k (k + 1)).size ≤ 1 := by rw [ByteArray.size_extract]; omega
        rw [hbl] at c1
        have hl2 : (word ++ [s[k]]).length ≤ k + 1 := by simp; omega
        clear HI HI' hbl
        generalize s.extract k (k + 1) = q at *
        generalize hw2 : word ++ [s[k]] = word2 at *
        clear hw2
        generalize toB word = bw at *
        go_wp2_with (go_at_call 100; (with_reducible refine (c1 _).mono ?_); rintro e w' ⟨rfl, rfl⟩)
        go_roundw
        case rel => exact ⟨k + 1, out, word2, by omega, by go_num, rfl, hl2, by omega, hY, hB, HN⟩
        case measure => simp [intOf]; omega
      · have HF : Hid (if k + 1 ≤ s.size then wordsF s.data.toList = (out ++ if word.isEmpty then [] else [word]) ++ wfin [] (s.data.toList.drop (k + 1)) else wordsF s.data.toList = out ++ if word.isEmpty then [] else [word]) := by
          show ite _ _ _
          rw [if_pos (by omega), HI', List.append_assoc]
          congr 1
          exact wfin_blank _ _ hbl
        rw [hbl] at c1
        clear HI HI' hbl
        cases hem : word.isEmpty
        · have e0 : ((toB word).toList == []) = false := by rw [toB_beq]; exact hem
          have HN : Hid (if k + 1 ≤ s.size then wordsF s.data.toList = (out ++ [word]) ++ wfin [] (s.data.toList.drop (k + 1)) else wordsF s.data.toList = out ++ [word]) := by
            have := HF.out
            rw [hem] at this
            exact this
          have HU : Hid (Value.string (toB word) = .string (toB word)) := rfl
          clear HF hem
          generalize hbw : toB word = bw at e0 HU
          have HBT : Hid (Value.string (toB word) = .string bw) := by show Value.string (toB word) = _; rw [hbw]
          clear hbw
          go_wp2_with (first
            | (go_at_call 100; (with_reducible refine (c1 _).mono ?_); rintro e w' ⟨rfl, rfl⟩)
            | (at_builtin; refine wpList_textU wr rfl (.tmp 33) (.tmp 35) rfl w.heap.size _ _ word _ HBT _ rfl hY rfl (by omega) hle ?_; intro v' w' hY' hg
               have hB' := below_textU hB hY hg
               clear hg))
          go_roundw
          case rel => exact ⟨k + 1, out ++ [word], [], by omega, by go_num, rfl, Nat.zero_le _, by simp; omega, hY', hB', HN⟩
          case measure => simp [intOf]; omega
        · have e0 : ((toB word).toList == []) = true := by rw [toB_beq]; exact hem
          have HN : Hid (if k + 1 ≤ s.size then wordsF s.data.toList = out ++ wfin [] (s.data.toList.drop (k + 1)) else wordsF s.data.toList = out) := by
            have := HF.out
            rw [hem] at this
            show ite _ _ _
            simpa using this
          clear HF hem
          generalize toB word = bw at *
          go_wp2_with ((go_at_call 100; (with_reducible refine (c1 _).mono ?_); rintro e w' ⟨rfl, rfl⟩))
          go_roundw
          case rel => exact ⟨k + 1, out, [], by omega, by go_num, rfl, Nat.zero_le _, by omega, hY, hB, HN⟩
          case measure => simp [intOf]; omega
    · by_cases hke : k = s.size
      · have HI' : wordsF s.data.toList = out ++ wfin word [] := by
          have := HI.out
          rw [if_pos (by omega), List.drop_of_length_le (by rw [size_list]; omega)] at this
          exact this
        rw [wfin_end] at HI'
        have HF : Hid (if k + 1 ≤ s.size then wordsF s.data.toList = (out ++ if word.isEmpty then [] else [word]) ++ wfin [] (s.data.toList.drop (k + 1)) else wordsF s.data.toList = out ++ if word.isEmpty then [] else [word]) := by
          show ite _ _ _
          rw [if_neg (by omega)]
          exact HI'
        have d1 : decide ((k : Int) < s.size) = false := decide_eq_false (by omega)
        have d2 : (k : Int) ≤ s.size := by omega
        clear HI HI' hke
        cases hem : word.isEmpty
        · have e0 : ((toB word).toList == []) = false := by rw [toB_beq]; exact hem
          have HN : Hid (if k + 1 ≤ s.size then wordsF s.data.toList = (out ++ [word]) ++ wfin [] (s.data.toList.drop (k + 1)) else wordsF s.data.toList = out ++ [word]) := by
            have := HF.out
            rw [hem] at this
            exact this
          have HU : Hid (Value.string (toB word) = .string (toB word)) := rfl
          clear HF hem
          generalize hbw : toB word = bw at e0 HU
          have HBT : Hid (Value.string (toB word) = .string bw) := by show Value.string (toB word) = _; rw [hbw]
          clear hbw
          go_wp2_with (first
            | (at_builtin; refine wpList_textU wr rfl (.tmp 33) (.tmp 35) rfl w.heap.size _ _ word _ HBT _ rfl hY rfl (by omega) hle ?_; intro v' w' hY' hg
               have hB' := below_textU hB hY hg
               clear hg))
          go_roundw
          case rel => exact ⟨k + 1, out ++ [word], [], by omega, by go_num, rfl, Nat.zero_le _, by simp; omega, hY', hB', HN⟩
          case measure => simp [intOf]; omega
        · have e0 : ((toB word).toList == []) = true := by rw [toB_beq]; exact hem
          have HN : Hid (if k + 1 ≤ s.size then wordsF s.data.toList = out ++ wfin [] (s.data.toList.drop (k + 1)) else wordsF s.data.toList = out) := by
            have := HF.out
            rw [hem] at this
            show ite _ _ _
            simpa using this
          clear HF hem
          generalize toB word = bw at *
          go_wp2_with ((go_at_call 100; (with_reducible refine (c1 _).mono ?_); rintro e w' ⟨rfl, rfl⟩))
          go_roundw
          case rel => exact ⟨k + 1, out, [], by omega, by go_num, rfl, Nat.zero_le _, by omega, hY, hB, HN⟩
          case measure => simp [intOf]; omega
      · obtain rfl : k = s.size + 1 := by omega
        have HI' : wordsF s.data.toList = out := by
          have := HI.out
          rwa [if_neg (by omega)] at this
        obtain ⟨A, c, rfl⟩ := own_form' hY
        have hR : Reads wr wr.heap.size 1 A out.length (strs out) := Reads.of_own hY
        have HR : Hid (Reads wr wr.heap.size 1 A out.length (strs (wordsF s.data.toList))) := by
          show Reads _ _ _ _ _ _
          rw [HI']; exact hR
        clear HI HI' hR
        go_wp2
        go_ret
        exact ⟨A, _, c, rfl, HR.out, hB⟩
end Go.Proofs.YtdfcahdipalmkaaGreatDoor
namespace Go.Proofs.YtdfcahdipalmkaaGreatDoor
open Go.ChangeShapes Go.WideShapes Go.ChangeAt Go.RowKit
theorem step_texts {ops : Array Oper} {o : Oper} {a : Act} {K : Act → World → Prop} {Q : Exit → Act → World → Prop} {E : Prop} (w : World) (hgd : o.guard = none) (s x : Operand)
    (ho : o.op = .call { callee := .builtin .append, args := #[s, x], argTypes := #[49, 49] })
    (base : Nat) (v : Value) (l m : List (List UInt8)) (hs : a.eval s = v) (hown : Txs w base v l) (B : Nat) (A : Option Addr) (n cp : Nat) (hx : a.eval x = .slice A n cp) (hn : m.length = n) (hr : Reads w B 1 A n (strs m)) (hl : l.length + m.length < 8000000000000) (hbase : base ≤ w.heap.size)
    (h : ∀ v' w', Txs w' base v' (l ++ m) → w.grownBy w' v.ownBlock → K (a.put o.dst v') w') :
    if Region.wanted o (yielded ops a.tmps) = true then Oper.wp Tryz.prog o a w K Q else E := by
  subst hn
  obtain ⟨i0, hi0, hz0, hz1, hz2⟩ := info_parts str_info
  refine step_append_any _ hgd s x _ ho base 9 i0 _ 1 16 Tryz.underlying49 hi0 hz0 hz1 hz2 rfl (by omega) v l.length (strs l) hs hown B A m.length cp (strs m) hx hr (strs_one m) (by simp only [maxLen]; omega) (by omega) hbase ?_
  intro v' w' h2 h3 _
  refine h v' w' ?_ h3
  show w'.ownsRow base 9 1 v' (l ++ m).length (strs (l ++ m))
  unfold strs
  rw [List.map_append, List.length_append]
  exact h2
theorem partsAt_none {p : UInt8 → Bool} (l : List UInt8) (h : ∀ c ∈ l, p c = false) : partsAt p l = [l] := by
  induction l with
  | nil => rfl
  | cons c t ih =>
    rw [partsAt, if_neg (by rw [h c (by simp)]; decide), ih (fun c hc => h c (by simp [hc]))]
theorem partsAt_some {p : UInt8 → Bool} (l : List UInt8) (c : UInt8) (t : List UInt8) (h : ∀ c ∈ l, p c = false) (hc : p c = true) : partsAt p (l ++ c :: t) = l :: partsAt p t := by
  induction l with
  | nil =>
    show partsAt p (c :: t) = _
    rw [partsAt, if_pos hc]
  | cons d l ih =>
    show partsAt p (d :: (l ++ c :: t)) = _
    rw [partsAt, if_neg (by rw [h d (by simp)]; decide), ih (fun c hc => h c (by simp [hc]))]
theorem split_here (s : ByteArray) (sep : UInt8) (k : Nat) (hk : k < s.size) (hn : ∀ c ∈ s.data.toList.take k, (c == sep) = false) (he : s[k] = sep) :
    splitF sep s.data.toList = trimL (s.extract 0 k).data.toList :: splitF sep (s.extract (k + 1) s.size).data.toList := by
  have e : s.data.toList = s.data.toList.take k ++ s[k] :: s.data.toList.drop (k + 1) := by
    conv => lhs; rw [← List.take_append_drop k s.data.toList]
    rw [List.drop_eq_getElem_cons (l := s.data.toList) (i := k) (by rw [size_list]; exact hk)]
    rfl
  unfold splitF
  conv => lhs; rw [e]
  rw [partsAt_some _ _ _ hn (by rw [he]; simp), extract_list, extract_list, List.drop_zero]
  have : s.data.toList.take s.size = s.data.toList := List.take_of_length_le (by rw [size_list]; exact Nat.le_refl _)
  rw [this]
  rfl
theorem split_none (s : ByteArray) (sep : UInt8) (hn : ∀ c ∈ s.data.toList, (c == sep) = false) : splitF sep s.data.toList = [trimL s.data.toList] := by
  unfold splitF
  rw [partsAt_none _ hn]
  rfl
theorem split_len (sep : UInt8) (l : List UInt8) : (splitF sep l).length ≤ l.length + 1 := by
  have : ∀ l : List UInt8, (partsAt (· == sep) l).length ≤ l.length + 1 := by
    intro l
    induction l with
    | nil => exact Nat.le_refl _
    | cons c t ih =>
      unfold partsAt
      split
      · simp only [List.length_cons]; omega
      · split
        · simp
        · rename_i h r e
          rw [e] at ih
          simp only [List.length_cons] at ih ⊢; omega
  unfold splitF
  rw [List.length_map]
  exact this l
theorem take_all {s : ByteArray} {sep : UInt8} {k : Nat} (hk : k < s.size) (hn : ∀ c ∈ s.data.toList.take k, (c == sep) = false) (he : ¬ s[k] = sep) : ∀ c ∈ s.data.toList.take (k + 1), (c == sep) = false := by
  intro c hc
  rw [List.take_succ_eq_append_getElem (l := s.data.toList) (i := k) (by rw [size_list]; exact hk)] at hc
  rcases List.mem_append.1 hc with h | h
  · exact hn c h
  · obtain rfl := List.mem_singleton.1 h
    rw [beq_eq_false_iff_ne]
    exact he
theorem onB_toB (f : List UInt8 → List UInt8) (s : ByteArray) : onB f s = toB (f s.data.toList) := rfl
set_option maxRecDepth 100000 in
set_option maxHeartbeats 4000000 in
theorem rsplit_n (sep : UInt8) (n : Nat) : ∀ (s : ByteArray) (w : World), s.size < n → s.size ≤ mostB →
    Calls Tryz.prog 33 #[.string s, .int .u8 (sep.toNat : Int)] w fun e w' => ∃ A n c, e = .returned (.slice A n c) ∧ Reads w' w'.heap.size 1 A n (strs (splitF sep s.data.toList)) ∧ Below w.heap.size w w' := by
  induction n with
  | zero => intro s w h; omega
  | succ n ih =>
    intro s w hn hs
    have hs' : s.size ≤ 1000000 := hs
    have ct := fun (q : ByteArray) (hq : q.size ≤ s.size) w => rtrim_any q w (by unfold maxLen; omega)
    go_enter Tryz.func33, Tryz.ntmps33
    go_wp2
    go_loopw [5] (fun i wr => ∃ k : Nat, k ≤ s.size ∧ i = .int .i64 k ∧ w = wr ∧ Hid (∀ c ∈ s.data.toList.take k, (c == sep) = false)) (fun i _ => s.size - (intOf i).toNat)
    case atStart => exact ⟨0, Nat.zero_le _, rfl, rfl, fun c hc => by simp at hc⟩
    case round =>
      obtain ⟨k, hk, rfl, rfl, HN⟩ := hrel
      by_cases hkl : k < s.size
      · by_cases he : s[k] = sep
        · have hsp := split_here s sep k hkl HN.out he
          have c1 := fun w => ct (s.extract 0 k) (by rw [ByteArray.size_extract]; omega) w
          have c2 := fun w => ih (s.extract (k + 1) s.size) w (by rw [ByteArray.size_extract]; omega) (by unfold mostB; rw [ByteArray.size_extract]; omega)
          have hlen := split_len sep (s.extract (k + 1) s.size).data.toList
          have hlen2 : (s.extract (k + 1) s.size).data.toList.length ≤ s.size := by rw [size_list, ByteArray.size_extract]; omega
          rw [onB_toB] at c1
          generalize splitF sep (s.extract (k + 1) s.size).data.toList = xs at *
          generalize trimL (s.extract 0 k).data.toList = x at *
          have hxs : xs.length ≤ 1000001 := by omega
          subst he
          have s1 : IntKind.i64.wrap ((k : Int) + 1) = (k : Int) + 1 := IntWalk.i64_in _ (by omega)
          have HSP := Lib.hid hsp
          have hsl1 : ∀ w, (Instr.slice 9 (.string s) none (some (.int .i64 k)) none).run Tryz.prog w = .ok (.string (s.extract 0 k)) w := by
            intro w
            have := run_slice_string_h (P := Tryz.prog) (w := w) (t := 9) (s := s) Tryz.underlying9 .i64 k (by omega) (by omega)
            rwa [Int.toNat_natCast] at this
          have hsl2 : ∀ w, (Instr.slice 9 (.string s) (some (.int .i64 ((k : Int) + 1))) none none).run Tryz.prog w = .ok (.string (s.extract (k + 1) s.size)) w := by
            intro w
            have := run_slice_string_l (P := Tryz.prog) (w := w) (t := 9) (s := s) Tryz.underlying9 .i64 ((k : Int) + 1) (by omega) (by omega)
            rwa [show ((k : Int) + 1).toNat = k + 1 by omega] at this
          clear hsp hlen hlen2 HN ct ih hn
          go_wp2
          have hl8 : [x].length + xs.length < 8000000000000 := by simp; omega
          go_region_law (first
            | (refine step_texts w2 (by rfl) (.tmp 21) (.tmp 27) (by rfl) w.heap.size (.slice (some ⟨w.heap.size, 0, none⟩) 1 1) [x] xs (by rfl) hT w2.heap.size A n2 c2 (by rfl) hxn hr2 hl8 hle2 ?_; intro v' w' hY hg; have hB' := below_texts hBw hT hg)
            | (refine step_texts (w2.alloc (.cells #[.string (toB x)] 9)) (by rfl) (.tmp 21) (.tmp 27) (by rfl) w.heap.size (.slice (some ⟨w2.heap.size, 0, none⟩) 1 1) [x] xs (by rfl) hT2 w2.heap.size A n2 c2 (by rfl) hxn hr3 hl8 hle3 ?_; intro v' w' hY hg; have hB' := below_texts (below_al hBw (.cells #[.string (toB x)] 9)) hT2 hg)
            | (go_simp; go_at_call 53; (with_reducible refine (c1 _).mono ?_); rintro e w1 ⟨rfl, rfl⟩)
            | (go_simp; go_at_call 33; (with_reducible refine (c2 _).mono ?_); rintro e w2 ⟨A, n2, c2, rfl, hr2, hb2⟩
               have hxn : xs.length = n2 := by have := hr2.1; rw [strs_len'] at this; omega
               have hle2 : w.heap.size ≤ w2.heap.size := by have := hb2.size; simp at this; omega
               have hle3 : w.heap.size ≤ (w2.alloc (.cells #[.string (toB x)] 9)).heap.size := by rw [size_al]; omega
               first
               | (have hb3 : Below (w.alloc (.cells #[.string (toB x)] 9)).drew.heap.size (w.alloc (.cells #[.string (toB x)] 9)).drew w2 := by with_reducible exact hb2
                  have hBw : Below w.heap.size w w2 := below_next (below_al (Below.refl _ _) _).drew hb3
                  have hT : Txs w2 w.heap.size (.slice (some ⟨w.heap.size, 0, none⟩) 1 1) [x] := own_below (w := (w.alloc (.cells #[.string (toB x)] 9)).drew) (Txs.one w w.heap.size (Nat.le_refl _) x) hb3)
               | (have hBw : Below w.heap.size w w2 := below_next (Below.refl _ _).drew hb2
                  have hT2 := Txs.one w2 w.heap.size hle2 x
                  have hr3 := hr2.alloc (Nat.le_refl _) (.cells #[.string (toB x)] 9))))
          all_goals
            obtain ⟨A', c', rfl⟩ := own_form' hY
            have hR : Reads w' w'.heap.size 1 A' ([x] ++ xs).length (strs ([x] ++ xs)) := Reads.of_own hY
            have HR : Hid (Reads w' w'.heap.size 1 A' ([x] ++ xs).length (strs (splitF s[k] s.data.toList))) := by
              show Reads _ _ _ _ _ _
              rw [HSP.out]; exact hR
            clear hR hY hg HSP
            go_wp2
            go_ret
            exact ⟨A', _, c', rfl, HR.out, hB'⟩
        · have e1 : (s[k].toNat == sep.toNat) = false := by
            rw [beq_eq_false_iff_ne]
            exact fun e => he (UInt8.toNat_inj.1 e)
          have e2 : ((s[k].toNat : Int) == (sep.toNat : Int)) = false := by
            rw [beq_eq_false_iff_ne]
            exact fun e => he (UInt8.toNat_inj.1 (by omega))
          have HN' : Hid (∀ c ∈ s.data.toList.take (k + 1), (c == sep) = false) := take_all hkl HN.out he
          clear ih ct he
          go_wp2
          go_roundw
          case rel => exact ⟨k + 1, by omega, by go_num, trivial, HN'⟩
          case measure => simp [intOf]; omega
      · have htk : s.data.toList.take k = s.data.toList := List.take_of_length_le (by rw [size_list]; omega)
        have HS : Hid (splitF sep s.data.toList = [trimL s.data.toList]) := split_none s sep (by have := HN.out; rwa [htk] at this)
        have c1 := fun w => ct s (Nat.le_refl _) w
        rw [onB_toB] at c1
        have hT := fun w => Reads.of_own (Txs.one w w.heap.size (Nat.le_refl _) (trimL s.data.toList))
        have HT := Lib.hid hT
        generalize hx : trimL s.data.toList = x at *
        clear HN htk ih ct hT hx
        go_wp2_with (go_at_call 53; (with_reducible refine (c1 _).mono ?_); rintro e w1 ⟨rfl, rfl⟩)
        go_ret
        refine ⟨some ⟨w.heap.size, 0, none⟩, 1, 1, rfl, ?_, below_al (Below.refl _ _) _⟩
        rw [HS.out]
        exact HT.out w
theorem rsplit_any (sep : UInt8) (s : ByteArray) (w : World) (hs : s.size ≤ mostB) :
    Calls Tryz.prog 33 #[.string s, .int .u8 (sep.toNat : Int)] w fun e w' => ∃ A n c, e = .returned (.slice A n c) ∧ Reads w' w'.heap.size 1 A n (strs (splitF sep s.data.toList)) ∧ Below w.heap.size w w' :=
  rsplit_n sep (s.size + 1) s w (Nat.lt_succ_self _) hs
end Go.Proofs.YtdfcahdipalmkaaGreatDoor
