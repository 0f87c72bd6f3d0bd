/- Rows.SheetJoinsSaid: the walk. Conditions: what came in is no more than what can be reached; the tables are laid. -/
import Derived.Test.YtdfcahdipalmkaaGreatDoorSheetBack
import Derived.Test.YtdfcahdipalmkaaGreatDoorShtW
namespace Go.Proofs.YtdfcahdipalmkaaGreatDoor
open Go.ChangeShapes Go.WideShapes Go.ChangeAt Go.RowKit Go.Shelf
namespace sheetJoins
open Sht
open RowG (Row)
theorem wpList_rowsG {α : Type} {P : Program} {w : World} {ops : Array Oper} {rest : List Oper} {o : Oper} {a : Act} {Q : Exit → Act → World → Prop} (hw : Region.wanted o (yielded ops a.tmps) = true) (s x : Operand) (t : TypeId)
    (ho : o.op = .call { callee := .builtin .append, args := #[s, x], argTypes := #[t, t] }) (e : TypeId) (enc : α → List Value) (k bytes : Nat) (z : Value) (hinfo : (P.info? e).map (fun i => (i.zero, i.size, i.bytes)) = some (some z, k, bytes)) (ht : P.underlying t = some (.slice e)) (hz : z.cells.size = k) (hk : 0 < k)
    (hone : ∀ x, ∀ u ∈ enc x, u.oneCell' = true) (base : Nat) (v : Value) (l news : List α) (hs : a.eval s = v) (hown : Row w base e k enc v l)
    (B : Nat) (A : Option Addr) (m c : Nat) (hx : a.eval x = .slice A m c) (hr : Reads w B k A m (news.flatMap enc)) (hm : news.length = m) (hl : l.length + m ≤ maxLen) (hbytes : (l.length + m) * bytes ≤ 140737488355328) (hbase : base ≤ w.heap.size)
    (h : ∀ v' w', Row w' base e k enc v' (l ++ news) → w.grownBy w' v.ownBlock → (v'.ownBlock = v.ownBlock ∨ v'.ownBlock = some w.heap.size) → wpList P ops Q rest (a.put o.dst v') w') : wpList P ops Q (o :: rest) a w := by
  cases hi : P.info? e with
  | none => rw [hi] at hinfo; cases hinfo
  | some i =>
    rw [hi] at hinfo
    simp only [Option.map_some, Option.some.injEq, Prod.mk.injEq] at hinfo
    refine wpList_step fun _ hK => ?_
    rw [if_pos hw]
    refine wp_append_any w s x t ho base e i z k bytes ht hi hinfo.1 hinfo.2.1 hinfo.2.2 hz hk v l.length (l.flatMap enc) hs hown B A m c (news.flatMap enc) hx hr (flat_all hone news) hl hbytes hbase ?_
    intro v' w' h2 h3 h4
    refine hK _ _ (h v' w' ?_ h3 h4)
    unfold RowG.Row
    rw [List.length_append, List.flatMap_append, hm]
    exact h2
theorem rsr_append {w : World} {base B n c : Nat} {A : Option Addr} {csl csa : List RC} {rs qs : List Rul} (h : Row w base 65 2 rcC (.slice A n c) (csl ++ csa)) (hB : B ≤ w.heap.size)
    (l1 : csl.length = rs.length) (l2 : csa.length = qs.length) (a1 : ∀ (i : Nat) (c : RC) (r : Rul), csl[i]? = some c → rs[i]? = some r → RuR w B c r) (a2 : ∀ (i : Nat) (c : RC) (r : Rul), csa[i]? = some c → qs[i]? = some r → RuR w B c r) : RsR w w.heap.size A n (rs ++ qs) := by
  obtain ⟨h4, h5⟩ := h.reads
  rw [← h5] at h4
  refine ⟨csl ++ csa, h4, by rw [List.length_append, List.length_append, l1, l2], fun i d q hd hq => ?_⟩
  have hr := Below.refl B w
  by_cases hi : i < csl.length
  · rw [List.getElem?_append_left hi] at hd
    rw [List.getElem?_append_left (by omega)] at hq
    exact (a1 i d q hd hq).below hr hB
  · rw [List.getElem?_append_right (by omega)] at hd hq
    rw [← l1] at hq
    exact (a2 _ d q hd hq).below hr hB
/-- What a text behind rules that are printed is read as. -/
theorem join_read {rs : List Rul} {ls : List UInt8} (h : mayS rs = true) (hl : (printS rs).length + ls.length ≤ 4000) : readS (printS rs ++ ls) = if rs.length + (rulesF ls).length ≤ 40 then some (rs ++ rulesF ls) else none := by
  have e : printS rs = (rs.map printR).flatten := by unfold printS; rw [if_pos h]
  have h2 := h
  unfold mayS at h2
  rw [Bool.and_eq_true, decide_eq_true_eq] at h2
  have hr := rules_print ls rs h2.2
  unfold readS
  rw [e] at hl ⊢
  rw [hr, List.length_append, List.length_append]
  by_cases h3 : rs.length + (rulesF ls).length ≤ 40
  · rw [if_pos h3, if_pos ⟨hl, h3⟩]
  · rw [if_neg h3, if_neg (fun x => h3 x.2)]
set_option maxRecDepth 100000 in
set_option maxHeartbeats 64000000 in
theorem walk (A : Option Addr) (n c : Nat) (rs : List Rul) (s : ByteArray) (hs : s.size ≤ 140737488351232) (W : World) (hT : Val.Tabs W) (hn : n ≤ 4000000000000) (hR : RsR W W.heap.size A n rs) (hX : ∀ x ∈ rs, RulX x) (hZ : ∀ x ∈ rs, ∀ y ∈ x.sels, y.close.length ≤ 9223372036854775807) :
    Calls Tryz.prog 7 #[.slice A n c, .string s] W fun e w' => e = .returned (.bool true) ∧ Below W.heap.size W w' := by
  obtain ⟨ls, hls⟩ : ∃ ls, s = toB ls := ⟨s.data.toList, rfl⟩
  have HLS := Lib.hid hls
  have hsl : s.size = ls.length := by rw [hls, toB_size]
  clear hls
  have ca := awake10_any W hT
  have hV : ∀ r ∈ rs, RulV r := fun r hr => reach_bound (hX r hr) (hZ r hr)
  have cp := fun w hT (h : RsR w w.heap.size A n rs) => printW_any A n c rs (by omega) hV w hT h
  have cm := fun w (h : RsR w w.heap.size A n rs) => mayW_any A n c rs (by omega) hV w h
  obtain ⟨T, hTe⟩ : ∃ T, T = toB (printS rs) := ⟨_, rfl⟩
  have HTe := Lib.hid hTe
  have hTl : T.size = (printS rs).length := by rw [hTe, toB_size]
  have hTs : T.size ≤ 2160000 := by rw [hTl]; exact printS_le rs
  have HTl := Lib.hid hTl
  have HSL := Lib.hid hsl
  rw [← hTe] at cp
  clear hTe hTl hsl
  have co := fun w (hb : Below W.heap.size W w) => own10_any A n c rs hn (fun x hx => (hX x hx).1) w (hR.below hb hb.size)
  have cl := fun A' n' c' w h => large10_any A' n' c' (rs.take 201) h (fun x hx => hX x (List.mem_of_mem_take hx)) w
  have hn201 : (rs.take 201).length ≤ 201 := by rw [List.length_take]; omega
  have HL := Lib.hid hR.len
  clear hX hZ hV
  by_cases hbig : 1000 < s.size
  · have h1 : (1000 : Int) < (s.size : Int) := by omega
    go_enter Tryz.func7, Tryz.ntmps7
    go_wp2_with (first
      | (go_at_call 8; (with_reducible refine ca.mono ?_); rintro e w1 ⟨rfl, hb1⟩
         have hR1 := hR.below hb1 hb1.size)
      | (go_at_call 20; (with_reducible refine (cp _ (hT.at_ hb1) hR1).mono ?_); rintro e w2 ⟨rfl, hb2⟩))
    go_ret
    exact ⟨rfl, below_next hb1 hb2⟩
  · have h1 : ¬ (1000 : Int) < (s.size : Int) := by omega
    by_cases hgo : mayS rs = true ∧ T.size + s.size ≤ 4000
    · obtain ⟨hM, hle⟩ := hgo
      have hli : ¬ (4000 : Int) < (T.size : Int) + (s.size : Int) := by omega
      have hbd : ∀ r ∈ rs, RulB r := by
        have h2 := hM
        unfold mayS at h2
        rw [Bool.and_eq_true, decide_eq_true_eq] at h2
        exact fun r hr => may_bound (List.all_eq_true.1 h2.2 r hr)
      have hrn : rs.length ≤ 40 := by
        have h2 := hM
        unfold mayS at h2
        rw [Bool.and_eq_true, decide_eq_true_eq] at h2
        exact h2.1
      have hn40 : n ≤ 40 := by rw [← HL.out]; exact hrn
      have hls4 : ls.length ≤ 4000 := by have := HSL.out; omega
      have cr := fun w hT => read_any ls w hT
      rw [← HLS.out] at cr
      have eJ : T ++ s = toB (printS rs ++ ls) := by rw [HTe.out, HLS.out, toB_cat]
      have cj := fun w hT => read_any (printS rs ++ ls) w hT
      rw [← eJ, join_read hM (by rw [← HTl.out, ← HSL.out]; exact hle)] at cj
      have hrl : readS ls = if (rulesF ls).length ≤ 40 then some (rulesF ls) else none := by
        unfold readS
        by_cases h : (rulesF ls).length ≤ 40
        · rw [if_pos h, if_pos ⟨hls4, h⟩]
        · rw [if_neg h, if_neg (fun x => h x.2)]
      have hqb : (rulesF ls).length ≤ 40 → ∀ r ∈ rulesF ls, RulB r := fun h => (sheetBack.read_bound (l := ls) (by rw [hrl, if_pos h])).2
      rw [hrl] at cr
      rw [hM] at cm
      have hsum : ¬ 9223372036854775807 < T.size + s.size := by omega
      have hrsn : rs.length = n := HL.out
      rw [hrsn] at cj
      clear hrl hM eJ hrsn hle hls4
      generalize rulesF ls = qs at *
      by_cases g1 : qs.length ≤ 40
      · by_cases g2 : n + qs.length ≤ 40
        · rw [if_pos g1] at cr
          rw [if_pos g2] at cj
          change ∀ w, Val.Tabs w → Calls Tryz.prog 11 #[.string s] w (fun e w' => (∃ v, e = .returned (.tuple #[v, .int .i64 0]) ∧ RuL w' w.heap.size v qs) ∧ Below w.heap.size w w') at cr
          change ∀ w, Val.Tabs w → Calls Tryz.prog 11 #[.string (T ++ s)] w (fun e w' => (∃ v, e = .returned (.tuple #[v, .int .i64 0]) ∧ RuL w' w.heap.size v (rs ++ qs)) ∧ Below w.heap.size w w') at cj
          obtain ⟨qn, hqn⟩ : ∃ qn, qs.length = qn := ⟨_, rfl⟩
          have HQN := Lib.hid hqn
          have g3 : ¬ 40 < (qn : Int) + (n : Int) := by omega
          have hjn : (rs ++ qs).length = n + qn := by rw [List.length_append, HL.out, hqn]
          have HJN := Lib.hid hjn
          have hjb : ∀ r ∈ rs ++ qs, RulB r := by
            intro r hr
            rcases List.mem_append.1 hr with h | h
            · exact hbd r h
            · exact hqb g1 r h
          have hq40 : qn ≤ 40 := by omega
          clear hqn hjn g1 g2 hqb hbd
          go_enter Tryz.func7, Tryz.ntmps7
          go_wp2_with (first
            | (go_at_call 8; (with_reducible refine ca.mono ?_); rintro e w1 ⟨rfl, hb1⟩
               have hR1 := hR.below hb1 hb1.size)
            | (go_at_call 20; (with_reducible refine (cp _ (hT.at_ hb1) hR1).mono ?_); rintro e w2 ⟨rfl, hb2⟩
               have hB2 := below_next hb1 hb2)
            | (go_at_call 10; (with_reducible refine (co _ hB2).mono ?_); rintro e w3 ⟨⟨A3, n3, c3, rfl, hR3⟩, hb3⟩
               have hB3 := below_next hB2 hb3
               have hn3 : n3 ≤ 4000000000000 := by have := hR3.len; omega)
            | (go_at_call 9; (with_reducible refine (cl _ _ _ _ hn3 hR3).mono ?_); rintro e w4 ⟨⟨b, rfl, -⟩, hb4⟩
               have hB4 := below_next hB3 hb4
               have hR4 := hR.below hB4 hB4.size
               cases b)
            | (go_at_call 18; (with_reducible refine (cm _ hR4).mono ?_); rintro e w5 ⟨rfl, hb5⟩
               have hB5 := below_next hB4 hb5)
            | (go_at_call 11; (with_reducible refine (cr _ (hT.at_ hB5)).mono ?_); rintro e w6 ⟨⟨v6, rfl, hL6⟩, hb6⟩
               obtain ⟨A6, c6, hv6⟩ := hL6.form
               rw [HQN.out] at hv6
               subst hv6
               have hQ6 := hL6.reads
               have hB6 := below_next hB5 hb6)
            | (go_at_call 11; (with_reducible refine (cj _ (hT.at_ hB6)).mono ?_); rintro e w7 ⟨⟨v7, rfl, hL7⟩, hb7⟩
               obtain ⟨A7, c7, hv7⟩ := hL7.form
               rw [HJN.out] at hv7
               subst hv7
               have hJ7 := hL7.reads
               have hQ7 := hQ6.below hb7 hb7.size
               have hB7 := below_next hB6 hb7
               have hR7 := hR.below hB7 hB7.size
               obtain ⟨csl, rl, ll, al⟩ := hR7
               obtain ⟨csa, ra, la, aa⟩ := hQ7
               have hE : Row (w7.alloc (.cells #[] 65)) w7.heap.size 65 2 rcC (.slice (some ⟨w7.heap.size, 0, none⟩) 0 0) ([] : List RC) := row_none w7 (Nat.le_refl _)
               have hA7 := below_al (Below.refl w7.heap.size w7) (.cells #[] 65)
               have hcl : csl.length = n := by rw [ll]; exact HL.out
               have hca : csa.length = qn := by rw [la]; exact HQN.out)
            | (refine wpList_rowsG (by rfl) _ _ 22 (by rfl) 65 rcC 2 48 _ info_rul Tryz.underlying22 rfl (by decide) rcC_one w7.heap.size _ [] csl (by rfl) hE w7.heap.size A n _ (by rfl) (rl.below hA7) hcl (by simp only [maxLen, List.length_nil]; omega) (by simp only [List.length_nil]; omega) hA7.size ?_
               intro v8 w8 hrow8 hg8 ho8
               rw [List.nil_append] at hrow8
               have hB8 : Below w7.heap.size w7 w8 := hA7.grown hg8 hA7.size (fun j hj => (World.ownsRow.lt hE j hj).1)
               clear hE)
            | (refine wpList_rowsG (by rfl) _ _ 22 (by rfl) 65 rcC 2 48 _ info_rul Tryz.underlying22 rfl (by decide) rcC_one w7.heap.size _ csl csa (by rfl) hrow8 w7.heap.size A6 qn _ (by rfl) (ra.below hB8) hca (by rw [hcl]; simp only [maxLen]; omega) (by rw [hcl]; omega) hB8.size ?_
               intro v9 w9 hrow9 hg9 ho9
               have hB9 : Below w7.heap.size w7 w9 := hB8.grown hg9 hB8.size (fun j hj => (World.ownsRow.lt hrow8 j hj).1)
               obtain ⟨A9, c9, hv9⟩ := RowG.Row.form hrow9
               have hj9 : (csl ++ csa).length = n + qn := by rw [List.length_append, hcl, hca]
               rw [hj9] at hv9
               subst hv9
               have hX9 := rsr_append hrow9 hB9.size ll la (fun i c r a b => (al i c r a b).below hB9 (Nat.le_refl _)) (fun i c r a b => (aa i c r a b).below hB9 (Nat.le_refl _))
               have hJ9 := hJ7.below hB9 hB9.size)
            | (go_at_call 22; (with_reducible refine (same_any A7 A9 (n + qn) c7 (n + qn) c9 (rs ++ qs) (rs ++ qs) (by omega) hjb w9 hJ9 hX9).mono ?_); rintro e w10 ⟨rfl, hb10⟩
               try rw [decide_eq_true rfl]
               have hB10 := below_next hB9 hb10))
          all_goals first
            | (exfalso; omega)
            | (go_ret; first | exact ⟨rfl, hB4⟩ | exact ⟨rfl, below_next hB7 hB10⟩)
        · rw [if_pos g1] at cr
          rw [if_neg g2] at cj
          change ∀ w, Val.Tabs w → Calls Tryz.prog 11 #[.string s] w (fun e w' => (∃ v, e = .returned (.tuple #[v, .int .i64 0]) ∧ RuL w' w.heap.size v qs) ∧ Below w.heap.size w w') at cr
          change ∀ w, Val.Tabs w → Calls Tryz.prog 11 #[.string (T ++ s)] w (fun e w' => e = .returned (.tuple #[.slice none 0 0, .int .i64 3]) ∧ Below w.heap.size w w') at cj
          obtain ⟨qn, hqn⟩ : ∃ qn, qs.length = qn := ⟨_, rfl⟩
          have HQN := Lib.hid hqn
          have g3 : 40 < (qn : Int) + (n : Int) := by omega
          have hq40 : qn ≤ 40 := by omega
          clear hqn g1 g2 hqb hbd
          go_enter Tryz.func7, Tryz.ntmps7
          go_wp2_with (first
            | (go_at_call 8; (with_reducible refine ca.mono ?_); rintro e w1 ⟨rfl, hb1⟩
               have hR1 := hR.below hb1 hb1.size)
            | (go_at_call 20; (with_reducible refine (cp _ (hT.at_ hb1) hR1).mono ?_); rintro e w2 ⟨rfl, hb2⟩
               have hB2 := below_next hb1 hb2)
            | (go_at_call 10; (with_reducible refine (co _ hB2).mono ?_); rintro e w3 ⟨⟨A3, n3, c3, rfl, hR3⟩, hb3⟩
               have hB3 := below_next hB2 hb3
               have hn3 : n3 ≤ 4000000000000 := by have := hR3.len; omega)
            | (go_at_call 9; (with_reducible refine (cl _ _ _ _ hn3 hR3).mono ?_); rintro e w4 ⟨⟨b, rfl, -⟩, hb4⟩
               have hB4 := below_next hB3 hb4
               have hR4 := hR.below hB4 hB4.size
               cases b)
            | (go_at_call 18; (with_reducible refine (cm _ hR4).mono ?_); rintro e w5 ⟨rfl, hb5⟩
               have hB5 := below_next hB4 hb5)
            | (go_at_call 11; (with_reducible refine (cr _ (hT.at_ hB5)).mono ?_); rintro e w6 ⟨⟨v6, rfl, hL6⟩, hb6⟩
               obtain ⟨A6, c6, hv6⟩ := hL6.form
               rw [HQN.out] at hv6
               subst hv6
               have hB6 := below_next hB5 hb6)
            | (go_at_call 11; (with_reducible refine (cj _ (hT.at_ hB6)).mono ?_); rintro e w7 ⟨rfl, hb7⟩
               have hB7 := below_next hB6 hb7))
          all_goals first
            | (exfalso; omega)
            | (go_ret; first | exact ⟨rfl, hB4⟩ | exact ⟨rfl, hB7⟩)
      · rw [if_neg g1] at cr
        rw [if_neg (by omega)] at cj
        change ∀ w, Val.Tabs w → Calls Tryz.prog 11 #[.string s] w (fun e w' => e = .returned (.tuple #[.slice none 0 0, .int .i64 3]) ∧ Below w.heap.size w w') at cr
        change ∀ w, Val.Tabs w → Calls Tryz.prog 11 #[.string (T ++ s)] w (fun e w' => e = .returned (.tuple #[.slice none 0 0, .int .i64 3]) ∧ Below w.heap.size w w') at cj
        clear g1 hqb hbd
        go_enter Tryz.func7, Tryz.ntmps7
        go_wp2_with (first
          | (go_at_call 8; (with_reducible refine ca.mono ?_); rintro e w1 ⟨rfl, hb1⟩
             have hR1 := hR.below hb1 hb1.size)
          | (go_at_call 20; (with_reducible refine (cp _ (hT.at_ hb1) hR1).mono ?_); rintro e w2 ⟨rfl, hb2⟩
             have hB2 := below_next hb1 hb2)
          | (go_at_call 10; (with_reducible refine (co _ hB2).mono ?_); rintro e w3 ⟨⟨A3, n3, c3, rfl, hR3⟩, hb3⟩
             have hB3 := below_next hB2 hb3
             have hn3 : n3 ≤ 4000000000000 := by have := hR3.len; omega)
          | (go_at_call 9; (with_reducible refine (cl _ _ _ _ hn3 hR3).mono ?_); rintro e w4 ⟨⟨b, rfl, -⟩, hb4⟩
             have hB4 := below_next hB3 hb4
             have hR4 := hR.below hB4 hB4.size
             cases b)
          | (go_at_call 18; (with_reducible refine (cm _ hR4).mono ?_); rintro e w5 ⟨rfl, hb5⟩
             have hB5 := below_next hB4 hb5)
          | (go_at_call 11; (with_reducible refine (cr _ (hT.at_ hB5)).mono ?_); rintro e w6 ⟨rfl, hb6⟩
             have hB6 := below_next hB5 hb6)
          | (go_at_call 11; (with_reducible refine (cj _ (hT.at_ hB6)).mono ?_); rintro e w7 ⟨rfl, hb7⟩
             have hB7 := below_next hB6 hb7))
        all_goals go_ret
        all_goals first | exact ⟨rfl, hB4⟩ | exact ⟨rfl, hB7⟩
    · cases hM : mayS rs with
      | false =>
        rw [hM] at cm
        clear hgo
        go_enter Tryz.func7, Tryz.ntmps7
        go_wp2_with (first
          | (go_at_call 8; (with_reducible refine ca.mono ?_); rintro e w1 ⟨rfl, hb1⟩
             have hR1 := hR.below hb1 hb1.size)
          | (go_at_call 20; (with_reducible refine (cp _ (hT.at_ hb1) hR1).mono ?_); rintro e w2 ⟨rfl, hb2⟩
             have hB2 := below_next hb1 hb2)
          | (go_at_call 10; (with_reducible refine (co _ hB2).mono ?_); rintro e w3 ⟨⟨A3, n3, c3, rfl, hR3⟩, hb3⟩
             have hB3 := below_next hB2 hb3
             have hn3 : n3 ≤ 4000000000000 := by have := hR3.len; omega)
          | (go_at_call 9; (with_reducible refine (cl _ _ _ _ hn3 hR3).mono ?_); rintro e w4 ⟨⟨b, rfl, -⟩, hb4⟩
             have hB4 := below_next hB3 hb4
             have hR4 := hR.below hB4 hB4.size
             cases b)
          | (go_at_call 18; (with_reducible refine (cm _ hR4).mono ?_); rintro e w5 ⟨rfl, hb5⟩))
        all_goals go_ret
        all_goals first | exact ⟨rfl, hB4⟩ | exact ⟨rfl, below_next hB4 hb5⟩
      | true =>
        have hli : (4000 : Int) < (T.size : Int) + (s.size : Int) := by
          have : ¬ T.size + s.size ≤ 4000 := fun h => hgo ⟨hM, h⟩
          omega
        rw [hM] at cm
        clear hgo
        go_enter Tryz.func7, Tryz.ntmps7
        go_wp2_with (first
          | (go_at_call 8; (with_reducible refine ca.mono ?_); rintro e w1 ⟨rfl, hb1⟩
             have hR1 := hR.below hb1 hb1.size)
          | (go_at_call 20; (with_reducible refine (cp _ (hT.at_ hb1) hR1).mono ?_); rintro e w2 ⟨rfl, hb2⟩
             have hB2 := below_next hb1 hb2)
          | (go_at_call 10; (with_reducible refine (co _ hB2).mono ?_); rintro e w3 ⟨⟨A3, n3, c3, rfl, hR3⟩, hb3⟩
             have hB3 := below_next hB2 hb3
             have hn3 : n3 ≤ 4000000000000 := by have := hR3.len; omega)
          | (go_at_call 9; (with_reducible refine (cl _ _ _ _ hn3 hR3).mono ?_); rintro e w4 ⟨⟨b, rfl, -⟩, hb4⟩
             have hB4 := below_next hB3 hb4
             have hR4 := hR.below hB4 hB4.size
             cases b)
          | (go_at_call 18; (with_reducible refine (cm _ hR4).mono ?_); rintro e w5 ⟨rfl, hb5⟩))
        all_goals go_ret
        all_goals first | exact ⟨rfl, hB4⟩ | exact ⟨rfl, below_next hB4 hb5⟩
end sheetJoins
end Go.Proofs.YtdfcahdipalmkaaGreatDoor
