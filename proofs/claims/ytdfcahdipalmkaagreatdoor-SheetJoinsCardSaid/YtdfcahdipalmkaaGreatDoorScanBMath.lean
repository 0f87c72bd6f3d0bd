/- The blocks of a text, by what Go's own IndexAny and Cut tell. Conditions: none. -/
import Derived.Test.YtdfcahdipalmkaaGreatDoorScanSpec
import Derived.Test.YtdfcahdipalmkaaGreatDoorScanTrimC
import Derived.Lib.IndexAny
namespace Go.Proofs.YtdfcahdipalmkaaGreatDoor
def noB (l : List UInt8) : Prop := ∀ c ∈ l, ¬ c = 123 ∧ ¬ c = 125
theorem braces_c (c : UInt8) : ([123, 125] : List UInt8).contains c = decide (c = 123 ∨ c = 125) := by
  have : ∀ c : Fin 256, ([123, 125] : List UInt8).contains (UInt8.ofFin c) = decide (UInt8.ofFin c = 123 ∨ UInt8.ofFin c = 125) := by decide +kernel
  exact this c.toFin
theorem ia_cases : ∀ l : List UInt8, (Lib.indexAny l [123, 125] = -1 ∧ noB l) ∨ ∃ (h : List UInt8) (c : UInt8) (t : List UInt8), l = h ++ c :: t ∧ Lib.indexAny l [123, 125] = h.length ∧ noB h ∧ (c = 123 ∨ c = 125)
  | [] => .inl ⟨rfl, fun c h => by simp at h⟩
  | b :: l => by
    rw [Lib.indexAny, braces_c]
    by_cases hb : b = 123 ∨ b = 125
    · rw [if_pos (decide_eq_true hb)]
      exact .inr ⟨[], b, l, rfl, rfl, fun c h => by simp at h, hb⟩
    · rw [if_neg (by simpa using hb)]
      rcases ia_cases l with ⟨e, hn⟩ | ⟨h, c, t, e, hi, hn, hc⟩
      · rw [if_pos (by rw [e]; rfl)]
        refine .inl ⟨rfl, fun c hc => ?_⟩
        rcases List.mem_cons.1 hc with rfl | h
        · exact ⟨fun e => hb (.inl e), fun e => hb (.inr e)⟩
        · exact hn c h
      · have hne : ¬ ((Lib.indexAny l [123, 125] == -1) = true) := by rw [hi]; simp
        rw [if_neg hne]
        refine .inr ⟨b :: h, c, t, by rw [e]; rfl, by rw [hi]; simp, fun d hd => ?_, hc⟩
        rcases List.mem_cons.1 hd with rfl | hd
        · exact ⟨fun e => hb (.inl e), fun e => hb (.inr e)⟩
        · exact hn d hd
theorem cut_brace : ∀ t : List UInt8, ((Lib.cut t [125]).2.2 = false ∧ ∀ c ∈ t, ¬ c = 125) ∨ ((Lib.cut t [125]).2.2 = true ∧ t = (Lib.cut t [125]).1 ++ 125 :: (Lib.cut t [125]).2.1 ∧ ∀ c ∈ (Lib.cut t [125]).1, ¬ c = 125)
  | [] => by rw [cut_nil _ (by simp)]; exact .inl ⟨rfl, fun c h => by simp at h⟩
  | b :: l => by
    rw [cut_cons]
    have hp : ([125] : List UInt8).isPrefixOf (b :: l) = decide (125 = b) := by simp [List.isPrefixOf]; by_cases h : 125 = b <;> simp [h]
    rw [hp]
    by_cases hb : (125 : UInt8) = b
    · subst hb
      rw [if_pos (by simp)]
      exact .inr ⟨rfl, rfl, fun c h => by simp at h⟩
    · rw [if_neg (by simpa using hb)]
      rcases cut_brace l with ⟨e, hn⟩ | ⟨e, h1, h2⟩
      · rw [if_neg (by rw [e]; simp)]
        refine .inl ⟨rfl, fun c hc => ?_⟩
        rcases List.mem_cons.1 hc with rfl | h
        · exact fun e => hb e.symm
        · exact hn c h
      · rw [if_pos e]
        refine .inr ⟨rfl, ?_, fun c hc => ?_⟩
        · show b :: l = b :: ((Lib.cut l [125]).1 ++ 125 :: (Lib.cut l [125]).2.1)
          rw [← h1]
        · rcases List.mem_cons.1 hc with rfl | h
          · exact fun e => hb e.symm
          · exact h2 c h
theorem bstep_out (o : List (List UInt8 × List UInt8)) (s : Bst) (c : UInt8) : bstep ⟨o ++ s.out, s.head, s.body⟩ c = ⟨o ++ (bstep s c).out, (bstep s c).head, (bstep s c).body⟩ := by
  obtain ⟨p, h, b⟩ := s
  unfold bstep
  cases b with
  | none => by_cases h1 : c = 125 <;> by_cases h2 : c = 123 <;> simp [h1, h2]
  | some b => by_cases h1 : c = 125 <;> simp [h1]
theorem bfold_out (o : List (List UInt8 × List UInt8)) : ∀ (l : List UInt8) (s : Bst), (l.foldl bstep ⟨o ++ s.out, s.head, s.body⟩).out = o ++ (l.foldl bstep s).out
  | [], s => rfl
  | c :: l, s => by
    rw [List.foldl_cons, bstep_out, bfold_out o l (bstep s c), List.foldl_cons]
theorem bfold_head (o : List (List UInt8 × List UInt8)) : ∀ (h g : List UInt8), noB h → h.foldl bstep ⟨o, g, none⟩ = ⟨o, g ++ h, none⟩
  | [], g, _ => by rw [List.append_nil]; rfl
  | c :: h, g, hn => by
    have hc := hn c (by simp)
    rw [List.foldl_cons]
    have : bstep ⟨o, g, none⟩ c = ⟨o, g ++ [c], none⟩ := by unfold bstep; rw [if_neg hc.2]; show (if c = 123 then _ else _) = _; rw [if_neg hc.1]
    rw [this, bfold_head o h (g ++ [c]) (fun d hd => hn d (by simp [hd])), List.append_assoc]
    rfl
theorem bfold_body (o : List (List UInt8 × List UInt8)) (g : List UInt8) : ∀ (h b : List UInt8), (∀ c ∈ h, ¬ c = 125) → h.foldl bstep ⟨o, g, some b⟩ = ⟨o, g, some (b ++ h)⟩
  | [], b, _ => by rw [List.append_nil]; rfl
  | c :: h, b, hn => by
    rw [List.foldl_cons]
    have : bstep ⟨o, g, some b⟩ c = ⟨o, g, some (b ++ [c])⟩ := by unfold bstep; rw [if_neg (hn c (by simp))]
    rw [this, bfold_body o g h (b ++ [c]) (fun d hd => hn d (by simp [hd])), List.append_assoc]
    rfl
theorem blocks_none {l : List UInt8} (h : noB l) : blocksF l = [] := by
  unfold blocksF
  rw [bfold_head _ _ _ h]
theorem blocks_drop {h t : List UInt8} (hn : noB h) : blocksF (h ++ 125 :: t) = blocksF t := by
  unfold blocksF
  rw [List.foldl_append, bfold_head _ _ _ hn, List.foldl_cons]
  rfl
theorem blocks_open {h t : List UInt8} (hn : noB h) (ht : ∀ c ∈ t, ¬ c = 125) : blocksF (h ++ 123 :: t) = [] := by
  unfold blocksF
  rw [List.foldl_append, bfold_head _ _ _ hn, List.foldl_cons]
  show (t.foldl bstep ⟨[], [] ++ h, some []⟩).out = []
  rw [bfold_body _ _ _ _ ht]
theorem blocks_one {h b u : List UInt8} (hn : noB h) (hb : ∀ c ∈ b, ¬ c = 125) : blocksF (h ++ 123 :: (b ++ 125 :: u)) = (trimL h, trimL b) :: blocksF u := by
  unfold blocksF
  rw [List.foldl_append, bfold_head _ _ _ hn, List.foldl_cons]
  show ((b ++ 125 :: u).foldl bstep ⟨[], [] ++ h, some []⟩).out = _
  rw [List.foldl_append, bfold_body _ _ _ _ hb, List.foldl_cons]
  show (u.foldl bstep ⟨[(trimL ([] ++ h), trimL ([] ++ b))] ++ [], [], none⟩).out = _
  have := bfold_out [(trimL h, trimL b)] u ⟨[], [], none⟩
  exact this
end Go.Proofs.YtdfcahdipalmkaaGreatDoor
