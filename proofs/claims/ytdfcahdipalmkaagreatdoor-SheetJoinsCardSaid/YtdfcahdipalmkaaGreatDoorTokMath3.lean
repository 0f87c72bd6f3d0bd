/- The plain mathematics of what a text is made of: how tokens stand, and what is written and read. Conditions: none. -/
import Derived.Test.YtdfcahdipalmkaaGreatDoorTokMath2
namespace Go.Proofs.YtdfcahdipalmkaaGreatDoor
namespace Tok
open Rep (tellL sgn tellL_no tellL_yes sgn_not tellL_nil)
/-! ### how tokens stand -/
def Tx (t : T) : Prop := t.kind = 3 ∧ t.text ≠ [] ∧ t.name = [] ∧ t.attrs = []
/-- No name is there twice, and each is one. -/
def AtsOk (ats : List At) : Prop := (ats.map (·.1)).Nodup ∧ ∀ a ∈ ats, nameB a.1 = true
def Tg (t : T) : Prop := (t.kind = 1 ∨ (t.kind = 2 ∧ t.attrs = [])) ∧ nameB t.name = true ∧ t.text = [] ∧ AtsOk t.attrs
inductive Wf : List T → Prop
  | nil : Wf []
  | txt {t : T} : Tx t → Wf [t]
  | tok {x : T} {r : List T} : Tg x → Wf r → Wf (x :: r)
  | both {t x : T} {r : List T} : Tx t → Tg x → Wf r → Wf (t :: x :: r)
theorem attrP_name {l r : List UInt8} {a : At} (h : attrP l = some (a, r)) : nameB a.1 = true := by
  unfold attrP at h
  split at h
  · cases h
  · cases hn : nameP (l.drop (bl l)) with
    | none => rw [hn] at h; cases h
    | some x =>
      obtain ⟨n, q⟩ := x
      rw [hn] at h
      injection h with h
      injection h with h1 h2
      rw [← h1]
      exact nameP_name hn
theorem addA_ok {ats : List At} {a : At} (h : AtsOk ats) (ha : nameB a.1 = true) : AtsOk (addA ats a) := by
  unfold addA
  split
  · exact h
  · rename_i hn
    refine ⟨?_, fun b hb => ?_⟩
    · rw [List.map_append, List.nodup_append]
      refine ⟨h.1, by simp, ?_⟩
      intro x hx y hy hxy
      simp only [List.map_cons, List.map_nil, List.mem_singleton] at hy
      obtain ⟨b, hb, rfl⟩ := List.mem_map.1 hx
      subst hy
      apply hn
      rw [List.any_eq_true]
      exact ⟨b, hb, by simpa using hxy⟩
    · rcases List.mem_append.1 hb with hb | hb
      · exact h.2 b hb
      · rw [List.mem_singleton] at hb; subst hb; exact ha
theorem attrsP_ok (n : Nat) : ∀ (ats : List At) (l : List UInt8), l.length ≤ n → AtsOk ats → AtsOk (attrsP ats l).1 := by
  induction n with
  | zero =>
    intro ats l h ho
    cases ha : attrP l with
    | none => rw [attrsP_none ha]; exact ho
    | some x => obtain ⟨a, r⟩ := x; have := attrP_len ha; omega
  | succ n ih =>
    intro ats l h ho
    cases ha : attrP l with
    | none => rw [attrsP_none ha]; exact ho
    | some x =>
      obtain ⟨a, r⟩ := x
      have h1 := attrP_len ha
      rw [attrsP_some ha]
      exact ih (addA ats a) r (by omega) (addA_ok ho (attrP_name ha))
theorem atsOk_nil : AtsOk [] := ⟨List.nodup_nil, fun _ h => by cases h⟩
theorem firstP_tg {l b : List UInt8} {t : T} (h : firstP l = some (t, b)) : Tg t := by
  unfold firstP at h
  split at h
  · rename_i x hx
    injection h with h
    subst h
    unfold openP at hx
    split at hx
    · split at hx
      · cases hx
      · rename_i n r hn
        split at hx
        · cases hx
        · injection hx with hx
          injection hx with h1 h2
          subst h1
          exact ⟨.inl rfl, nameP_name hn, rfl, attrsP_ok r.length [] r (Nat.le_refl _) atsOk_nil⟩
    · cases hx
  · unfold shutP at h
    split at h
    · split at h
      · cases h
      · rename_i n r hn
        split at h
        · cases h
        · injection h with h
          injection h with h1 h2
          subst h1
          exact ⟨.inr ⟨rfl, rfl⟩, nameP_name hn, rfl, atsOk_nil⟩
    · cases h
theorem wf_txt (u : List UInt8) : Wf (txtP u) := by
  unfold txtP
  split
  · exact .nil
  · rename_i h; exact .txt ⟨rfl, tell_ne h, rfl, rfl⟩
theorem wf_txt_tok (u : List UInt8) {x : T} {r : List T} (hx : Tg x) (hr : Wf r) : Wf (txtP u ++ x :: r) := by
  unfold txtP
  split
  · exact .tok hx hr
  · rename_i h; exact .both ⟨rfl, tell_ne h, rfl, rfl⟩ hx hr
theorem readF_wf (n : Nat) : ∀ (u l : List UInt8), l.length ≤ n → Wf (readF u l) := by
  induction n with
  | zero =>
    intro u l h
    obtain rfl : l = [] := List.eq_nil_of_length_eq_zero (by omega)
    exact wf_txt u
  | succ n ih =>
    intro u l h
    cases hf : firstP l with
    | none =>
      cases l with
      | nil => exact wf_txt u
      | cons c t =>
        rw [readF_miss hf]
        exact ih _ t (by rw [List.length_cons] at h; omega)
    | some x =>
      obtain ⟨x, b⟩ := x
      have := firstP_len hf
      rw [readF_hit hf]
      exact wf_txt_tok u (firstP_tg hf) (ih [] b (by omega))
theorem readP_wf (l : List UInt8) : Wf (readP l) := readF_wf l.length [] l (Nat.le_refl _)
theorem Wf.each {l : List T} (h : Wf l) : ∀ t ∈ l, Tx t ∨ Tg t := by
  induction h with
  | nil => intro t ht; cases ht
  | txt h => intro t ht; rw [List.mem_singleton] at ht; subst ht; exact .inl h
  | tok hx _ ih =>
    intro t ht
    rcases List.mem_cons.1 ht with rfl | ht
    · exact .inr hx
    · exact ih t ht
  | both h1 h2 _ ih =>
    intro t ht
    rcases List.mem_cons.1 ht with rfl | ht
    · exact .inl h1
    · rcases List.mem_cons.1 ht with rfl | ht
      · exact .inr h2
      · exact ih t ht
theorem tg_kind {t : T} (h : Tg t) : t.kind ≠ 3 := by rcases h.1 with h | ⟨h, -⟩ <;> omega
/-- No two texts stand one behind the other. -/
theorem Wf.apart {l : List T} (h : Wf l) : ∀ (i : Nat) (a b : T), l[i]? = some a → l[i + 1]? = some b → ¬ (a.kind = 3 ∧ b.kind = 3) := by
  induction h with
  | nil => intro i a b h; cases h
  | txt h => intro i a b _ hb; simp at hb
  | tok hx _ ih =>
    intro i a b ha hb
    cases i with
    | zero =>
      rw [List.getElem?_cons_zero] at ha
      obtain rfl := Option.some.inj ha
      exact fun e => tg_kind hx e.1
    | succ i => exact ih i a b (by simpa using ha) (by simpa using hb)
  | both h1 h2 _ ih =>
    intro i a b ha hb
    cases i with
    | zero =>
      rw [Nat.zero_add, List.getElem?_cons_succ, List.getElem?_cons_zero] at hb
      obtain rfl := Option.some.inj hb
      exact fun e => tg_kind h2 e.2
    | succ i =>
      cases i with
      | zero =>
        rw [Nat.zero_add, List.getElem?_cons_succ, List.getElem?_cons_zero] at ha
        obtain rfl := Option.some.inj ha
        exact fun e => tg_kind h2 e.1
      | succ i => exact ih i a b (by simpa using ha) (by simpa using hb)
/-! ### what is written is read -/
theorem isM_no (k : Nat) {c : UInt8} (h : isM c = false) : inNm k c = false := by
  unfold isM at h
  rw [Bool.or_eq_false_iff] at h
  unfold inNm
  rw [h.1, h.2]
  simp
/-- What stands behind a name is none of it. -/
def Ends (r : List UInt8) : Prop := ∀ c t, r = c :: t → isM c = false
theorem nameB_len {n : List UInt8} (h : nameB n = true) : 0 < n.length ∧ n.length ≤ 20 := by
  obtain ⟨h1, h2, h3, -⟩ := (nameB_def n).1 h
  omega
theorem nameP_app {n r : List UInt8} (h : nameB n = true) (hr : Ends r) : nameP (n ++ r) = some (n, r) := by
  obtain ⟨h1, h2, h3, h4⟩ := (nameB_def n).1 h
  have e : nm (n ++ r) = n.length := by
    refine (nm_uniq (n ++ r) n.length (by rw [List.length_append]; omega) (fun j hj => ?_) (fun hl => ?_)).symm
    · rw [List.getElem_append_left hj]
      exact nm_at n j (by omega)
    · rw [List.getElem_append_right (Nat.le_refl _)]
      cases r with
      | nil => simp at hl
      | cons c t =>
        simp only [Nat.sub_self, List.getElem_cons_zero]
        exact isM_no _ (hr c t rfl)
  unfold nameP
  rw [e, if_neg (by omega), List.take_left, List.drop_left, h4]
theorem takeWhile_upto {p : UInt8 → Bool} {a : List UInt8} {c : UInt8} (r : List UInt8) (ha : ∀ x ∈ a, p x = true) (hc : p c = false) : (a ++ c :: r).takeWhile p = a := by
  induction a with
  | nil => rw [List.nil_append, List.takeWhile_cons, if_neg (by rw [hc]; decide)]
  | cons x t ih =>
    rw [List.cons_append, List.takeWhile_cons, if_pos (ha x List.mem_cons_self), ih (fun y hy => ha y (List.mem_cons_of_mem _ hy))]
theorem valP_sign (v r : List UInt8) : valP (61 :: 34 :: (signL true v ++ 34 :: r)) = (v, r) := by
  have e : (signL true v ++ 34 :: r).takeWhile (· != 34) = signL true v := takeWhile_upto r (fun x hx => by
    rw [bne_iff_ne]
    intro e
    rw [e] at hx
    exact signL_not true v 34 (.inr (.inr ⟨rfl, rfl⟩)) hx) (by decide)
  show (if 34 ∈ signL true v ++ 34 :: r then (tellL ((signL true v ++ 34 :: r).takeWhile (· != 34)), (signL true v ++ 34 :: r).drop (((signL true v ++ 34 :: r).takeWhile (· != 34)).length + 1)) else _) = _
  rw [if_pos (by simp), e, tell_sign]
  congr 1
  rw [show (signL true v ++ 34 :: r) = (signL true v ++ [34]) ++ r by simp]
  exact List.drop_left' (by simp)
theorem isL_head {n : List UInt8} (h : nameB n = true) : ∃ c t, n = c :: t ∧ isL c = true := by
  obtain ⟨h1, h2, h3, h4⟩ := (nameB_def n).1 h
  cases n with
  | nil => simp at h3; omega
  | cons c t =>
    refine ⟨c, t, rfl, ?_⟩
    cases hc : isL c with
    | true => rfl
    | false => rw [nm_no t hc] at h1; omega
theorem blank_not (c : UInt8) : isL c = true → isBlank c = false := by
  have : ∀ c : Fin 256, isL (UInt8.ofNat c.val) = true → isBlank (UInt8.ofNat c.val) = false := by decide +kernel
  have h := this ⟨c.toNat, c.toNat_lt⟩
  simpa using h
def atTx (a : At) : List UInt8 := 32 :: (a.1 ++ (61 :: 34 :: (signL true a.2 ++ [34])))
def atsTx : List At → List UInt8
  | [] => []
  | a :: r => atTx a ++ atsTx r
theorem attrP_tx (a : At) (r : List UInt8) (h : nameB a.1 = true) : attrP (atTx a ++ r) = some (a, r) := by
  obtain ⟨c, t, hn, hc⟩ := isL_head h
  have e : atTx a ++ r = 32 :: (a.1 ++ (61 :: 34 :: (signL true a.2 ++ 34 :: r))) := by unfold atTx; simp
  have hb : bl (atTx a ++ r) = 1 := by
    rw [e, hn]
    unfold bl
    rw [List.takeWhile_cons, if_pos (by decide), List.cons_append, List.takeWhile_cons, if_neg (by rw [blank_not c hc]; decide)]
    rfl
  unfold attrP
  rw [hb, if_neg (by decide), e]
  have hd : (32 :: (a.1 ++ (61 :: 34 :: (signL true a.2 ++ 34 :: r)))).drop 1 = a.1 ++ (61 :: 34 :: (signL true a.2 ++ 34 :: r)) := rfl
  rw [hd, nameP_app h (fun c t e => by injection e with e _; rw [← e]; decide)]
  simp only
  rw [valP_sign]
theorem addA_new {ats : List At} {a : At} (h : a.1 ∉ ats.map (·.1)) : addA ats a = ats ++ [a] := by
  unfold addA
  rw [if_neg]
  intro e
  rw [List.any_eq_true] at e
  obtain ⟨b, hb, he⟩ := e
  exact h (List.mem_map.2 ⟨b, hb, by simpa using he⟩)
theorem attrsP_tx (ats : List At) (r : List UInt8) : ∀ acc : List At, AtsOk (acc ++ ats) → attrsP acc (atsTx ats ++ 62 :: r) = (acc ++ ats, 62 :: r) := by
  induction ats with
  | nil =>
    intro acc _
    rw [List.append_nil]
    have hb : bl (62 :: r) = 0 := by unfold bl; rw [List.takeWhile_cons, if_neg (by decide)]; rfl
    exact attrsP_none (l := 62 :: r) (by unfold attrP; rw [if_pos hb])
  | cons a t ih =>
    intro acc h
    have hn : nameB a.1 = true := h.2 a (by simp)
    rw [show atsTx (a :: t) ++ 62 :: r = atTx a ++ (atsTx t ++ 62 :: r) by simp [atsTx], attrsP_some (attrP_tx a _ hn)]
    have hnew : a.1 ∉ acc.map (·.1) := by
      have h1 := h.1
      rw [List.map_append, List.nodup_append] at h1
      intro hm
      exact h1.2.2 _ hm _ (by simp) rfl
    rw [addA_new hnew, ih (acc ++ [a]) (by simpa using h)]
    simp
theorem ends_tx (ats : List At) (r : List UInt8) : Ends (atsTx ats ++ 62 :: r) := by
  intro c t e
  cases ats with
  | nil => injection e with e _; rw [← e]; decide
  | cons a q => injection e with e _; rw [← e]; decide
theorem endP_tx (r : List UInt8) : endP (62 :: r) = some r := by
  have : bl (62 :: r) = 0 := by unfold bl; rw [List.takeWhile_cons, if_neg (by decide)]; rfl
  unfold endP
  rw [this]
  rfl
theorem openP_tx (n : List UInt8) (ats : List At) (r : List UInt8) (h : nameB n = true) (ha : AtsOk ats) : openP (60 :: (n ++ (atsTx ats ++ 62 :: r))) = some (⟨1, n, [], ats⟩, r) := by
  show (match nameP (n ++ (atsTx ats ++ 62 :: r)) with | none => none | some (n, r) => match endP (attrsP [] r).2 with | none => none | some b => some ((⟨1, n, [], (attrsP [] r).1⟩ : T), b)) = _
  rw [nameP_app h (ends_tx ats r)]
  simp only
  rw [attrsP_tx ats r [] ha]
  simp only [endP_tx, List.nil_append]
theorem shut_tx (n r : List UInt8) (h : nameB n = true) : firstP (60 :: 47 :: (n ++ 62 :: r)) = some (⟨2, n, [], []⟩, r) := by
  have h1 : openP (60 :: 47 :: (n ++ 62 :: r)) = none := by
    show (match nameP (47 :: (n ++ 62 :: r)) with | none => none | some (n, r) => match endP (attrsP [] r).2 with | none => none | some b => some ((⟨1, n, [], (attrsP [] r).1⟩ : T), b)) = none
    rw [show nameP (47 :: (n ++ 62 :: r)) = none by unfold nameP; rw [if_pos (.inl (nm_no _ (by decide)))]]
  unfold firstP
  rw [h1]
  show (match nameP (n ++ 62 :: r) with | none => none | some (n, r) => match endP r with | none => none | some b => some ((⟨2, n, [], []⟩ : T), b)) = _
  rw [nameP_app h (fun c t e => by injection e with e _; rw [← e]; decide)]
  simp only [endP_tx]
def wrTx (n : List UInt8) (ats : List At) (x : List UInt8) : List UInt8 := 60 :: (n ++ (atsTx ats ++ 62 :: (signL false x ++ (60 :: 47 :: (n ++ [62])))))
theorem read_wr (n : List UInt8) (ats : List At) (x : List UInt8) (h : nameB n = true) (ha : AtsOk ats) :
    readP (wrTx n ats x) = ⟨1, n, [], ats⟩ :: ((if x = [] then [] else [⟨3, [], x, []⟩]) ++ [⟨2, n, [], []⟩]) := by
  have h1 : firstP (wrTx n ats x) = some (⟨1, n, [], ats⟩, signL false x ++ (60 :: 47 :: (n ++ [62]))) := by
    unfold firstP wrTx
    rw [openP_tx n ats _ h ha]
  unfold readP
  rw [readF_hit h1, readF_texts _ _ _ (signL_not false x 60 (.inl rfl)), readF_hit (shut_tx n [] h), List.nil_append]
  have h2 : txtP (signL false x) = if x = [] then [] else [⟨3, [], x, []⟩] := by
    have := read_sign false x
    unfold readP at this
    rw [readF_text _ _ (signL_not false x 60 (.inl rfl)), List.nil_append] at this
    exact this
  rw [h2]
  rfl
end Tok
end Go.Proofs.YtdfcahdipalmkaaGreatDoor
