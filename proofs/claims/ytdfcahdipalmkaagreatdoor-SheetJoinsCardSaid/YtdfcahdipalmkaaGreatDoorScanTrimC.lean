/- What scan's own Trim answers. Conditions: the text is not too long. -/
import Derived.Test.YtdfcahdipalmkaaGreatDoorShelf
import Derived.Shelf.Strings.BuilderK
import Derived.Shelf.Strings.SlTrimAscii
import Derived.Test.YtdfcahdipalmkaaGreatDoorProg
import Derived.Test.YtdfcahdipalmkaaGreatDoorScanSpec
import Derived.Test.YtdfcahdipalmkaaGreatDoorKt
import Derived.Lib.IndexMore
import Derived.Lib.SlTrimSet
/- strings.Builder's two writers off the shelf, laid by hand (interface {} stands in no body, so the command does not find its number). Conditions: as the theorems' premises say. -/
namespace Go.Proofs
open Go.Shelf
def Tryz.laysB_ren : Go.Shelf.Ren := ⟨fun | 166 => 40 | 167 => 51 | 240 => 86 | 276 => 122 | n => n, fun | 0 => 0 | 3 => 3 | 4 => 4 | 5 => 5 | 9 => 9 | 20 => 20 | 37 => 91 | 70 => 90 | 72 => 93 | 75 => 95 | 80 => 99 | 164 => 178 | n => n, fun | n => n⟩
theorem Tryz.lays166 : Go.Proofs.Lays.n166 Tryz.prog Tryz.laysB_ren := {
  mixed := by kernel_rfl
  f166 := Tryz.func40.trans (congrArg some (by kernel_rfl))
  f240 := Tryz.func86.trans (congrArg some (by kernel_rfl))
  f276 := Tryz.func122.trans (congrArg some (by kernel_rfl))
  t0 := Tryz.underlying0
  a0 := Tryz.isAgg0
  z0 := Tryz.sizeOf0
  v0 := Tryz.zeroValue0
  t3 := Tryz.underlying3
  a3 := Tryz.isAgg3
  z3 := Tryz.sizeOf3
  v3 := Tryz.zeroValue3
  t4 := Tryz.underlying4
  a4 := Tryz.isAgg4
  z4 := Tryz.sizeOf4
  v4 := Tryz.zeroValue4
  t9 := Tryz.underlying9
  a9 := Tryz.isAgg9
  z9 := Tryz.sizeOf9
  v9 := Tryz.zeroValue9
  t20 := Tryz.underlying20
  a20 := Tryz.isAgg20
  z20 := Tryz.sizeOf20
  v20 := Tryz.zeroValue20
  t37 := Tryz.underlying91
  a37 := Tryz.isAgg91
  z37 := Tryz.sizeOf91
  v37 := Tryz.zeroValue91
  t70 := Tryz.underlying90
  a70 := Tryz.isAgg90
  z70 := Tryz.sizeOf90
  v70 := Tryz.zeroValue90
  t72 := Tryz.underlying93
  a72 := Tryz.isAgg93
  z72 := Tryz.sizeOf93
  v72 := Tryz.zeroValue93
  t75 := Tryz.underlying95
  a75 := Tryz.isAgg95
  z75 := Tryz.sizeOf95
  v75 := Tryz.zeroValue95
  t164 := Tryz.underlying178
  a164 := Tryz.isAgg178
  z164 := Tryz.sizeOf178
  v164 := Tryz.zeroValue178 }
theorem Tryz.lays167 : Go.Proofs.Lays.n167 Tryz.prog Tryz.laysB_ren := {
  mixed := by kernel_rfl
  f167 := Tryz.func51.trans (congrArg some (by kernel_rfl))
  f240 := Tryz.func86.trans (congrArg some (by kernel_rfl))
  f276 := Tryz.func122.trans (congrArg some (by kernel_rfl))
  t0 := Tryz.underlying0
  a0 := Tryz.isAgg0
  z0 := Tryz.sizeOf0
  v0 := Tryz.zeroValue0
  t4 := Tryz.underlying4
  a4 := Tryz.isAgg4
  z4 := Tryz.sizeOf4
  v4 := Tryz.zeroValue4
  t5 := Tryz.underlying5
  a5 := Tryz.isAgg5
  z5 := Tryz.sizeOf5
  v5 := Tryz.zeroValue5
  t9 := Tryz.underlying9
  a9 := Tryz.isAgg9
  z9 := Tryz.sizeOf9
  v9 := Tryz.zeroValue9
  t20 := Tryz.underlying20
  a20 := Tryz.isAgg20
  z20 := Tryz.sizeOf20
  v20 := Tryz.zeroValue20
  t37 := Tryz.underlying91
  a37 := Tryz.isAgg91
  z37 := Tryz.sizeOf91
  v37 := Tryz.zeroValue91
  t70 := Tryz.underlying90
  a70 := Tryz.isAgg90
  z70 := Tryz.sizeOf90
  v70 := Tryz.zeroValue90
  t72 := Tryz.underlying93
  a72 := Tryz.isAgg93
  z72 := Tryz.sizeOf93
  v72 := Tryz.zeroValue93
  t75 := Tryz.underlying95
  a75 := Tryz.isAgg95
  z75 := Tryz.sizeOf95
  v75 := Tryz.zeroValue95
  t164 := Tryz.underlying178
  a164 := Tryz.isAgg178
  z164 := Tryz.sizeOf178
  v164 := Tryz.zeroValue178 }
theorem Tryz.Builder_Extra_B : Builder.Extra Tryz.prog Tryz.laysB_ren := {
  sizeBuilder := by kernel_rfl
  liesBuilder := by kernel_rfl
  t5 := Tryz.underlying5
  a5 := Tryz.isAgg5
  z5 := Tryz.sizeOf5
  v5 := Tryz.zeroValue5
  infoByte := by kernel_rfl
  cellsByte := by kernel_rfl
  sizeByte := by kernel_rfl
  neB5 := by decide }
open Go.RowKit in
theorem Tryz.Builder_WriteString_b (B b : Nat) (l : List UInt8) (s : ByteArray) (w : World) (h : Lib.IsBuilderF 93 5 B b (Lib.byteCells l) w) (hlen : l.length + s.size ≤ 140737488355328) (hBw : B ≤ w.heap.size) :
    Calls Tryz.prog 40 #[.pointer (some ⟨b, 0, none⟩), .string s] w fun e w' => e = .returned (.tuple #[.int .i64 s.size, .nilIface]) ∧ Lib.IsBuilderF 93 5 B b (Lib.byteCells (l ++ s.data.toList)) w' ∧ Below B w w' :=
  (Any.Builder_WriteString_f Tryz.lays166 Tryz.Builder_Extra_B B b (Lib.byteCells l) s w h (by rw [Lib.byteCells_length]; exact hlen) hBw).mono (by
    rintro e w' ⟨h1, h2, h3⟩
    exact ⟨h1, Or.inr (by rw [Lib.byteCells_append]; exact h2), h3⟩)
open Go.RowKit in
theorem Tryz.Builder_WriteByte_b (B b : Nat) (l : List UInt8) (c : UInt8) (w : World) (h : Lib.IsBuilderF 93 5 B b (Lib.byteCells l) w) (hlen : l.length + 1 ≤ 140737488355328) (hBw : B ≤ w.heap.size) :
    Calls Tryz.prog 51 #[.pointer (some ⟨b, 0, none⟩), .int .u8 (c.toNat : Int)] w fun e w' => e = .returned .nilIface ∧ Lib.IsBuilderF 93 5 B b (Lib.byteCells (l ++ [c])) w' ∧ Below B w w' :=
  (Any.Builder_WriteByte_k Tryz.lays167 Tryz.Builder_Extra_B B b (Lib.byteCells l) (c.toNat : Int) w h (by rw [Lib.byteCells_length]; exact hlen) hBw).mono (by
    rintro e w' ⟨h1, h2, h3, _⟩
    exact ⟨h1, Or.inr (by rw [Lib.byteCells_append]; exact h2), h3⟩)
open Go.RowKit in
theorem Tryz.strings_Trim_any (s cutset : ByteArray) (w : World) (hs : s.size ≤ 9223372036854775807) (hcs : cutset.size < 4294967281) (hascii : ∀ (j : Nat) b, cutset.data.toList[j]? = some b → b.toNat < 128) :
    Calls Tryz.prog 104 #[.string s, .string cutset] w fun e w' => e = .returned (.string ⟨(Lib.trimS s.data.toList cutset.data.toList).toArray⟩) ∧ Below w.heap.size w w' :=
  Any.strings_Trim_laid Tryz.lays160 (by kernel_rfl) s cutset w hs hcs hascii
end Go.Proofs
/- What the document's own Blank, Trim and has of layer 7 answer. Conditions: the text is not too long. -/
namespace Go.Proofs.YtdfcahdipalmkaaGreatDoor
open Go.ChangeShapes Go.WideShapes Go.ChangeAt Go.RowKit
theorem isBlank_is (c : UInt8) : isBlank c = (((c.toNat : Int) == 32) || ((c.toNat : Int) == 9) || ((c.toNat : Int) == 10) || ((c.toNat : Int) == 13)) := by
  have : ∀ c : Fin 256, isBlank (UInt8.ofFin c) = ((((UInt8.ofFin c).toNat : Int) == 32) || (((UInt8.ofFin c).toNat : Int) == 9) || (((UInt8.ofFin c).toNat : Int) == 10) || (((UInt8.ofFin c).toNat : Int) == 13)) := by decide +kernel
  exact this c.toFin
theorem rblank_any (c : UInt8) (w : World) : Calls Tryz.prog 100 #[.int .u8 (c.toNat : Int)] w fun e w' => e = .returned (.bool (isBlank c)) ∧ w = w' := by
  rw [isBlank_is]
  generalize (c.toNat : Int) = x
  cases h1 : x == 32 <;> cases h2 : x == 9 <;> cases h3 : x == 10 <;> cases h4 : x == 13
  all_goals
    go_enter Tryz.func100, Tryz.ntmps100
    go_wp2
    go_ret
    exact ⟨rfl, rfl⟩
theorem trimL_head {a : UInt8} (t : List UInt8) (h : isBlank a = true) : trimL (a :: t) = trimL t := by
  unfold trimL
  rw [List.dropWhile_cons, if_pos h]
theorem trimL_last {b : UInt8} (l : List UInt8) (h : isBlank b = true) : trimL (l ++ [b]) = trimL l := by
  unfold trimL
  rw [List.dropWhile_append]
  cases hd : l.dropWhile isBlank with
  | nil => simp [h]
  | cons c d =>
    rw [if_neg (by simp)]
    rw [List.reverse_append]
    show ((b :: (c :: d).reverse).dropWhile isBlank).reverse = _
    rw [List.dropWhile_cons, if_pos h]
theorem trimL_same {a b : UInt8} (t u : List UInt8) (e : a :: t = u ++ [b]) (ha : isBlank a = false) (hb : isBlank b = false) : trimL (a :: t) = a :: t := by
  unfold trimL
  rw [dropWhile_self (l := a :: t) (fun x y h => by injection h with h1 h2; rw [← h1]; exact ha), e, List.reverse_append]
  show ((b :: u.reverse).dropWhile isBlank).reverse = _
  rw [List.dropWhile_cons, if_neg (by rw [hb]; decide)]
  simp
theorem list_head (s : ByteArray) (h : 0 < s.size) : s.data.toList = s[0] :: s.data.toList.drop 1 := by
  have e := List.drop_eq_getElem_cons (l := s.data.toList) (i := 0) (by rw [size_list]; exact h)
  rw [List.drop_zero] at e
  exact e
theorem list_last (s : ByteArray) (n : Nat) (h : s.size = n + 1) : s.data.toList = s.data.toList.take n ++ [s[n]] := by
  have e : s.data.toList.take (n + 1) = s.data.toList := List.take_of_length_le (by rw [size_list]; omega)
  have e2 := List.take_succ_eq_append_getElem (l := s.data.toList) (i := n) (by rw [size_list]; omega)
  rw [e] at e2
  exact e2
theorem extract_list (s : ByteArray) (i j : Nat) : (s.extract i j).data.toList = (s.data.toList.take j).drop i := by
  rw [ByteArray.data_extract]
  simp [Array.toList_extract, List.extract_eq_take_drop, List.drop_take]
theorem onB_eq {f g : List UInt8 → List UInt8} {s t : ByteArray} (h : f s.data.toList = g t.data.toList) : onB f s = onB g t := by unfold onB; rw [h]
set_option maxHeartbeats 1000000 in
theorem rtrim_n (n : Nat) : ∀ (s : ByteArray) (w : World), s.size = n → s.size ≤ maxLen →
    Calls Tryz.prog 53 #[.string s] w fun e w' => e = .returned (.string (onB trimL s)) ∧ w = w' := by
  induction n with
  | zero =>
    intro s w hs _
    have hl : s.data.toList = [] := List.eq_nil_of_length_eq_zero (by rw [size_list]; exact hs)
    have e0 : (s.toList == []) = true := by rw [ByteArray.toList_eq, hl]; rfl
    have e1 : onB trimL s = s := by
      refine bytes_inj ?_
      rw [onB_list, hl]; rfl
    rw [e1]
    clear e1 hl
    go_enter Tryz.func53, Tryz.ntmps53
    go_wp2
    go_ret
    exact ⟨rfl, rfl⟩
  | succ n ih =>
    intro s w hs hm
    have hl1 := list_head s (by omega)
    have hl2 := list_last s n hs
    have e0 : (s.toList == []) = false := by
      rw [ByteArray.toList_eq, hl1, beq_eq_false_iff_ne]
      exact List.cons_ne_nil _ _
    have c1 := fun w => rblank_any s[0] w
    have c2 := fun w => rblank_any s[n] w
    unfold maxLen at hm
    cases h1 : isBlank s[0]
    · rw [h1] at c1
      cases h2 : isBlank s[n]
      · have e1 : onB trimL s = s := by
          refine bytes_inj ?_
          rw [onB_list]
          have := trimL_same _ _ (hl1.symm.trans hl2) h1 h2
          rwa [← hl1] at this
        rw [h2] at c2
        rw [e1]
        clear hl1 hl2 e1 ih h1 h2
        go_enter Tryz.func53, Tryz.ntmps53
        go_wp2_with (go_at_call 100; (first | (with_reducible refine (c1 _).mono ?_) | (with_reducible refine (c2 _).mono ?_)); rintro e w' ⟨rfl, rfl⟩)
        go_ret
        exact ⟨rfl, rfl⟩
      · have e1 : onB trimL s = onB trimL (s.extract 0 n) := onB_eq (by
          rw [extract_list, List.drop_zero]
          conv => lhs; rw [hl2]
          exact trimL_last _ h2)
        have c3 := fun w => ih (s.extract 0 n) w (by rw [ByteArray.size_extract]; omega) (by unfold maxLen; rw [ByteArray.size_extract]; omega)
        rw [h2] at c2
        rw [e1]
        clear hl1 hl2 e1 ih h1 h2
        go_enter Tryz.func53, Tryz.ntmps53
        go_wp2_with (first
          | (go_at_call 100; (first | (with_reducible refine (c1 _).mono ?_) | (with_reducible refine (c2 _).mono ?_)); rintro e w' ⟨rfl, rfl⟩)
          | (go_at_call 53; (with_reducible refine (c3 _).mono ?_); rintro e w' ⟨rfl, rfl⟩))
        go_ret
        exact ⟨rfl, rfl⟩
    · have e1 : onB trimL s = onB trimL (s.extract 1 (n + 1)) := onB_eq (by
        rw [extract_list]
        have : s.data.toList.take (n + 1) = s.data.toList := List.take_of_length_le (by rw [size_list]; omega)
        rw [this]
        conv => lhs; rw [hl1]
        exact trimL_head _ h1)
      have c3 := fun w => ih (s.extract 1 (n + 1)) w (by rw [ByteArray.size_extract]; omega) (by unfold maxLen; rw [ByteArray.size_extract]; omega)
      rw [h1] at c1
      rw [e1]
      clear hl1 hl2 e1 ih h1 c2
      go_enter Tryz.func53, Tryz.ntmps53
      go_wp2_with (first
        | (go_at_call 100; (with_reducible refine (c1 _).mono ?_); rintro e w' ⟨rfl, rfl⟩)
        | (go_at_call 53; (with_reducible refine (c3 _).mono ?_); rintro e w' ⟨rfl, rfl⟩))
      go_ret
      exact ⟨rfl, rfl⟩
theorem rtrim_any (s : ByteArray) (w : World) (h : s.size ≤ maxLen) :
    Calls Tryz.prog 53 #[.string s] w fun e w' => e = .returned (.string (onB trimL s)) ∧ w = w' := rtrim_n s.size s w rfl h
end Go.Proofs.YtdfcahdipalmkaaGreatDoor
/- Stripped and trimmed, by what Go's own Cut and Trim tell. Conditions: none. -/
namespace Go.Proofs.YtdfcahdipalmkaaGreatDoor
theorem cut_nil (sep : List UInt8) (h : sep ≠ []) : Lib.cut [] sep = ([], [], false) := by
  unfold Lib.cut Lib.index
  cases sep with
  | nil => exact absurd rfl h
  | cons a t => rfl
theorem cut_cons (b : UInt8) (l sep : List UInt8) : Lib.cut (b :: l) sep = if sep.isPrefixOf (b :: l) then ([], (b :: l).drop sep.length, true) else if (Lib.cut l sep).2.2 then (b :: (Lib.cut l sep).1, (Lib.cut l sep).2.1, true) else (b :: l, [], false) := by
  have hge := Lib.index_ge l sep
  by_cases hp : sep.isPrefixOf (b :: l) = true
  · have e : Lib.index (b :: l) sep = 0 := by rw [Lib.index, if_pos hp]
    rw [if_pos hp]
    unfold Lib.cut
    rw [e, if_pos (Int.le_refl 0)]
    simp
  · rw [if_neg hp]
    by_cases hi : Lib.index l sep = -1
    · have e : Lib.index (b :: l) sep = -1 := by rw [Lib.index, if_neg hp, if_pos (by rw [hi]; rfl)]
      unfold Lib.cut
      rw [e, hi]
      rfl
    · have h0 : 0 ≤ Lib.index l sep := by omega
      have e : Lib.index (b :: l) sep = Lib.index l sep + 1 := by rw [Lib.index, if_neg hp, if_neg (by simpa using hi)]
      unfold Lib.cut
      rw [e, if_pos (by omega : (0 : Int) ≤ Lib.index l sep + 1), if_pos h0]
      have e2 : (Lib.index l sep + 1).toNat = (Lib.index l sep).toNat + 1 := by omega
      rw [if_pos rfl, e2, List.take_succ_cons, show (Lib.index l sep).toNat + 1 + sep.length = ((Lib.index l sep).toNat + sep.length) + 1 by omega, List.drop_succ_cons]
theorem pre_two (a b c d : UInt8) (t : List UInt8) : [a, b].isPrefixOf (c :: d :: t) = decide (a = c ∧ b = d) := by
  simp [List.isPrefixOf]
  by_cases h1 : a = c <;> by_cases h2 : b = d <;> simp [h1, h2]
theorem pre_short (a b c : UInt8) : [a, b].isPrefixOf [c] = false := by simp [List.isPrefixOf]
theorem behind_cut : ∀ l : List UInt8, behind l = (Lib.cut l [42, 47]).2.1
  | [] => by rw [cut_nil _ (by simp)]; rfl
  | [a] => by rw [cut_cons, pre_short, cut_nil _ (by simp)]; rfl
  | a :: b :: t => by
    rw [cut_cons, pre_two, behind]
    by_cases h : a = 42 ∧ b = 47
    · obtain ⟨rfl, rfl⟩ := h
      simp
    · rw [if_neg h, behind_cut (b :: t)]
      have : ¬ (decide (42 = a ∧ 47 = b) = true) := by
        intro e
        have := of_decide_eq_true e
        exact h ⟨this.1.symm, this.2.symm⟩
      rw [if_neg this]
      cases hf : (Lib.cut (b :: t) [42, 47]).2.2 with
      | true => rfl
      | false =>
        have : (Lib.cut (b :: t) [42, 47]).2.1 = [] := by
          unfold Lib.cut at hf ⊢
          split at hf
          · cases hf
          · rename_i h0; rw [if_neg h0]
        rw [this]; rfl
theorem strip_cut (n : Nat) : ∀ l : List UInt8, l.length ≤ n → stripL l = if (Lib.cut l [47, 42]).2.2 then (Lib.cut l [47, 42]).1 ++ 32 :: stripL (Lib.cut (Lib.cut l [47, 42]).2.1 [42, 47]).2.1 else l := by
  induction n with
  | zero =>
    intro l h
    obtain rfl : l = [] := List.eq_nil_of_length_eq_zero (by omega)
    rw [cut_nil _ (by simp), stripL_nil]; rfl
  | succ n ih =>
    intro l h
    match l with
    | [] => rw [cut_nil _ (by simp), stripL_nil]; rfl
    | [a] => rw [cut_cons, pre_short, cut_nil _ (by simp), stripL_one]; rfl
    | a :: b :: t =>
      rw [cut_cons, pre_two]
      by_cases hc : a = 47 ∧ b = 42
      · obtain ⟨rfl, rfl⟩ := hc
        rw [stripL_remark, behind_cut]
        simp
      · have : ¬ (decide (47 = a ∧ 42 = b) = true) := by
          intro e
          have := of_decide_eq_true e
          exact hc ⟨this.1.symm, this.2.symm⟩
        rw [if_neg this, stripL_other t hc, ih (b :: t) (by simp only [List.length_cons] at h ⊢; omega)]
        cases hf : (Lib.cut (b :: t) [47, 42]).2.2 with
        | true => simp
        | false => simp
theorem cut_len (l sep : List UInt8) : (Lib.cut l sep).1.length ≤ l.length ∧ (Lib.cut l sep).2.1.length ≤ l.length := by
  unfold Lib.cut
  split
  · simp only [List.length_take, List.length_drop]; omega
  · simp
theorem cut_miss (l sep : List UInt8) (h : (Lib.cut l sep).2.2 = false) : (Lib.cut l sep).1 = l := by
  unfold Lib.cut at h ⊢
  split
  · rename_i h0; rw [if_pos h0] at h; cases h
  · rfl
theorem cut_both (l sep : List UInt8) (hs : sep ≠ []) (h : (Lib.cut l sep).2.2 = true) : (Lib.cut l sep).1.length + sep.length + (Lib.cut l sep).2.1.length = l.length := by
  induction l with
  | nil => rw [cut_nil _ hs] at h; cases h
  | cons b l ih =>
    rw [cut_cons] at h ⊢
    by_cases hp : sep.isPrefixOf (b :: l) = true
    · rw [if_pos hp] at h ⊢
      have := List.IsPrefix.length_le (List.isPrefixOf_iff_prefix.1 hp)
      simp only [List.length_nil, List.length_drop]
      omega
    · rw [if_neg hp] at h ⊢
      by_cases hf : (Lib.cut l sep).2.2 = true
      · rw [if_pos hf]
        have := ih hf
        simp only [List.length_cons]; omega
      · rw [if_neg hf] at h; cases h
/-! ### trimmed -/
def rdrop (p : UInt8 → Bool) (l : List UInt8) : List UInt8 := (l.reverse.dropWhile p).reverse
theorem rdrop_cons (p : UInt8 → Bool) (a : UInt8) (t : List UInt8) : rdrop p (a :: t) = if rdrop p t = [] ∧ p a = true then [] else a :: rdrop p t := by
  unfold rdrop
  rw [List.reverse_cons, List.dropWhile_append]
  cases hd : t.reverse.dropWhile p with
  | nil =>
    rw [if_pos (by rfl)]
    cases hp : p a <;> simp [List.dropWhile, hp]
  | cons c u => simp
theorem drop_rdrop (p : UInt8 → Bool) (l : List UInt8) : (rdrop p l).dropWhile p = rdrop p (l.dropWhile p) := by
  induction l with
  | nil => rfl
  | cons a t ih =>
    rw [rdrop_cons]
    cases hp : p a with
    | true =>
      rw [List.dropWhile_cons, if_pos hp]
      by_cases h0 : rdrop p t = []
      · rw [if_pos ⟨h0, rfl⟩, ← ih, h0]
      · rw [if_neg (fun h => h0 h.1), List.dropWhile_cons, if_pos hp, ih]
    | false =>
      rw [if_neg (fun h => by cases h.2), List.dropWhile_cons, if_neg (by rw [hp]; simp), List.dropWhile_cons, if_neg (by rw [hp]; simp), rdrop_cons, if_neg (fun h => by rw [hp] at h; cases h.2)]
theorem blank_set : (fun c => ([32, 9, 10, 13] : List UInt8).contains c) = isBlank := by
  funext c
  have : ∀ c : Fin 256, ([32, 9, 10, 13] : List UInt8).contains (UInt8.ofFin c) = isBlank (UInt8.ofFin c) := by decide +kernel
  exact this c.toFin
theorem trim_set (l : List UInt8) : Lib.trimS l [32, 9, 10, 13] = trimL l := by
  unfold Lib.trimS Lib.trimLeftS Lib.trimRightS
  rw [blank_set]
  exact drop_rdrop isBlank l
end Go.Proofs.YtdfcahdipalmkaaGreatDoor
namespace Go.Proofs.YtdfcahdipalmkaaGreatDoor
open Go.ChangeShapes Go.WideShapes Go.ChangeAt Go.RowKit
theorem ascii_of {l : List UInt8} (h : l.all (fun b => decide (b.toNat < 128)) = true) : ∀ (j : Nat) b, l[j]? = some b → b.toNat < 128 := by
  intro j b hb
  exact of_decide_eq_true (List.all_eq_true.1 h b (List.mem_of_getElem? hb))
theorem trim_any : TrimC := by
  intro s w hs
  unfold mostB at hs
  have c1 := fun w => Tryz.strings_Trim_any s ⟨#[32, 9, 10, 13]⟩ w (by omega) (by decide) (ascii_of (by decide))
  have e : (⟨(Lib.trimS s.data.toList [32, 9, 10, 13]).toArray⟩ : ByteArray) = onB trimL s := by unfold onB; rw [trim_set]
  simp only [e] at c1
  clear e
  generalize onB trimL s = r at *
  go_enter Tryz.func59, Tryz.ntmps59
  go_wp2_with (go_at_call 104; (with_reducible refine (c1 _).mono ?_); rintro e w' ⟨rfl, hb⟩)
  go_ret
  exact ⟨rfl, hb⟩
end Go.Proofs.YtdfcahdipalmkaaGreatDoor
