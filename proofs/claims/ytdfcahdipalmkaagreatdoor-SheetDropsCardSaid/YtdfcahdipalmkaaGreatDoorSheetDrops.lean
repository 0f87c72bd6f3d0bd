/- Rows.SheetDropsSaid: the walk. Conditions: the texts are no longer than what can be reached; the tables are laid. -/
import Derived.Test.YtdfcahdipalmkaaGreatDoorShtI
import Derived.Test.YtdfcahdipalmkaaGreatDoorShtMath2
namespace Go.Proofs.YtdfcahdipalmkaaGreatDoor
open Go.ChangeShapes Go.WideShapes Go.ChangeAt Go.RowKit Go.Shelf
namespace sheetDrops
open Sht
open RowG (Row)
theorem decls_le (l : List UInt8) : (declsF l).length ≤ 4 * (l.length + 1) := by
  unfold declsF
  have h := acc_len (splitF 59 l) (splitF 59 l).length
  rw [List.take_length] at h
  have := (Sel.split_small 59 l).1
  omega
set_option maxRecDepth 100000 in
set_option maxHeartbeats 32000000 in
theorem walk (a : ByteArray) (ha : a.size ≤ 140737488351232) (b : ByteArray) (hb : b.size ≤ 140737488351232) (n : ByteArray) (hn : n.size ≤ 140737488351232) (W : World) (hT : Val.Tabs W) :
    Calls Tryz.prog 5 #[.string a, .string b, .string n] W fun e w' => e = .returned (.bool true) ∧ Below W.heap.size W w' := by
  obtain ⟨la, rfl⟩ : ∃ la, a = toB la := ⟨a.data.toList, rfl⟩
  obtain ⟨lb, rfl⟩ : ∃ lb, b = toB lb := ⟨b.data.toList, rfl⟩
  obtain ⟨ln, rfl⟩ : ∃ ln, n = toB ln := ⟨n.data.toList, rfl⟩
  have ca := awake10_any W hT
  by_cases hbig : 1000 < (toB la).size + (toB lb).size + (toB ln).size
  · have h1 : (1000 : Int) < ((toB la).size : Int) + ((toB lb).size : Int) + ((toB ln).size : Int) := by omega
    go_enter Tryz.func5, Tryz.ntmps5
    go_wp2_with (go_at_call 8; (with_reducible refine ca.mono ?_); rintro e w1 ⟨rfl, hb1⟩)
    go_ret
    exact ⟨rfl, hb1⟩
  · have h1 : ¬ (1000 : Int) < ((toB la).size : Int) + ((toB lb).size : Int) + ((toB ln).size : Int) := by omega
    have hsum : la.length + lb.length + ln.length ≤ 1000 := by rw [toB_size, toB_size, toB_size] at hbig; omega
    have cn := fun w hT => decls_any ln (by omega) w hT
    by_cases hq : (declsF ln).length = 0
    · have hnil : declsF ln = [] := List.eq_nil_of_length_eq_zero hq
      rw [hnil] at cn
      have c0 := fun w hT => decls_any la (by omega) w hT
      have c1 := fun w hT => decls_any lb (by omega) w hT
      have e2 : toB la ++ ⟨#[59]⟩ ++ toB ln ++ ⟨#[59]⟩ ++ toB lb = toB (la ++ 59 :: (ln ++ 59 :: lb)) := by
        show toB la ++ toB [59] ++ toB ln ++ toB [59] ++ toB lb = _
        rw [toB_cat, toB_cat, toB_cat, toB_cat]
        simp
      have c2 := fun w hT => decls_any (la ++ 59 :: (ln ++ 59 :: lb)) (by simp only [List.length_append, List.length_cons]; omega) w hT
      rw [← e2, decls_app, decls_app, hnil, List.nil_append] at c2
      have d0 := decls_le la
      have d1 := decls_le lb
      have t0 := toB_size la
      have t1 := toB_size lb
      have t2 := toB_size ln
      clear hq hnil e2
      generalize declsF la = qa at *
      generalize declsF lb = qb at *
      generalize toB la = sa at *
      generalize toB lb = sb at *
      generalize toB ln = sn at *
      have s0 : ¬ 9223372036854775807 < sa.size + 1 := by omega
      have s1 : ¬ 9223372036854775807 < sa.size + 1 + sn.size := by omega
      have s2 : ¬ 9223372036854775807 < sa.size + 1 + sn.size + 1 := by omega
      have s3 : ¬ 9223372036854775807 < sa.size + 1 + sn.size + 1 + sb.size := by omega
      have hqa : qa.length ≤ 5000 := by omega
      have hqb : qb.length ≤ 5000 := by omega
      clear t0 t1 t2 d0 d1 ha hb hn hbig hsum
      go_enter Tryz.func5, Tryz.ntmps5
      go_wp2_with (first
        | (go_at_call 8; (with_reducible refine ca.mono ?_); rintro e w1 ⟨rfl, hb1⟩)
        | (go_at_call 16; (with_reducible refine (cn _ (hT.at_ hb1)).mono ?_); rintro e w2 ⟨⟨vn, rfl, hn2⟩, hb2⟩
           obtain ⟨An, cpn, rfl⟩ : ∃ A c, vn = .slice A 0 c := RowG.Row.form hn2
           have hB2 := below_next hb1 hb2
           have hE : Row (w2.alloc (.cells #[] 54)) w2.heap.size 54 4 dcC (.slice (some ⟨w2.heap.size, 0, none⟩) 0 0) ([] : List Dcl) := row_none w2 (Nat.le_refl _)
           have hA2 := below_al (Below.refl w2.heap.size w2) (.cells #[] 54))
        | (go_at_call 16; (with_reducible refine (c0 _ (hT.at_ (below_next hB2 hA2))).mono ?_); rintro e w3 ⟨⟨va, rfl, ha3⟩, hb3⟩
           obtain ⟨Aa, cpa, rfl⟩ := RowG.Row.form ha3
           have hE3 := RowG.Row.below hE hb3
           have ra3 := DcL.reads ha3
           have hB3 := below_next hA2 hb3
           generalize hla : qa.length = na at *)
        | (refine wpList_rows (by rfl) _ _ 36 (by rfl) 54 dcC 4 32 _ info_dcl Tryz.underlying36 rfl (by decide) dcC_one w2.heap.size _ [] qa (by rfl) hE3 w3.heap.size Aa na _ (by rfl) ra3.2 ra3.1 (by simp only [maxLen, List.length_nil]; omega) (by simp only [List.length_nil]; omega) hB3.size ?_
           intro v4 w4 hrow4 hg4 ho4
           rw [List.nil_append] at hrow4
           have hB4 : Below w2.heap.size w2 w4 := hB3.grown hg4 hB3.size (fun j hj => (World.ownsRow.lt hE3 j hj).1)
           clear hE3 hE ra3)
        | (go_at_call 16; (with_reducible refine (c1 _ (hT.at_ (below_next hB2 hB4))).mono ?_); rintro e w5 ⟨⟨vb, rfl, hb5'⟩, hb5⟩
           obtain ⟨Ab, cpb, rfl⟩ := RowG.Row.form hb5'
           have hE5 := RowG.Row.below hrow4 hb5
           have rb5 := DcL.reads hb5'
           have hB5 := below_next hB4 hb5
           generalize hlb : qb.length = nb at *)
        | (refine wpList_rows (by rfl) _ _ 36 (by rfl) 54 dcC 4 32 _ info_dcl Tryz.underlying36 rfl (by decide) dcC_one w2.heap.size _ qa qb (by rfl) hE5 w5.heap.size Ab nb _ (by rfl) rb5.2 rb5.1 (by rw [hla]; simp only [maxLen]; omega) (by rw [hla]; omega) hB5.size ?_
           intro v6 w6 hrow6 hg6 ho6
           obtain ⟨A6, c6, hv6⟩ := RowG.Row.form hrow6
           obtain ⟨n6, hn6⟩ : ∃ n6, n6 = (qa ++ qb).length := ⟨_, rfl⟩
           have hn6' : n6 ≤ 10000 := by rw [hn6, List.length_append]; omega
           rw [← hn6] at hv6
           subst hv6
           have hR6 := DcL.reads (ds := qa ++ qb) hrow6
           have hB6 : Below w2.heap.size w2 w6 := hB5.grown hg6 hB5.size (fun j hj => (World.ownsRow.lt hE5 j hj).1)
           clear hE5 rb5 hrow4 hn6)
        | (go_at_call 16; (with_reducible refine (c2 _ (hT.at_ (below_next hB2 hB6))).mono ?_); rintro e w7 ⟨⟨vc, rfl, hc7⟩, hb7⟩
           obtain ⟨Ac, cpc, hvc⟩ := RowG.Row.form hc7
           obtain ⟨n7, hn7⟩ : ∃ n7, n7 = (qa ++ qb).length := ⟨_, rfl⟩
           have hn7' : n7 ≤ 10000 := by rw [hn7, List.length_append]; omega
           rw [← hn7] at hvc
           subst hvc
           have rc7 := DcL.reads (ds := qa ++ qb) hc7
           have hR7 := hR6.below hb7 hb7.size
           have hB7 := below_next hB6 hb7
           clear hn7)
        | (go_at_call 15; (with_reducible refine (own_decls _ _ _ (qa ++ qb) (by omega) _ rc7).mono ?_); rintro e w8 ⟨⟨vd, rfl, hd8⟩, hb8⟩
           obtain ⟨Ad, cpd, hvd⟩ := RowG.Row.form hd8
           obtain ⟨n8, hn8⟩ : ∃ n8, n8 = (qa ++ qb).length := ⟨_, rfl⟩
           have hn8' : n8 ≤ 10000 := by rw [hn8, List.length_append]; omega
           rw [← hn8] at hvd
           subst hvd
           have rd8 := DeL.reads (ds := qa ++ qb) hd8
           have hR8 := hR7.below hb8 hb8.size
           have hB8 := below_next hB7 hb8
           clear hn8)
        | (go_at_call 15; (with_reducible refine (own_decls _ _ _ (qa ++ qb) (by omega) _ hR8).mono ?_); rintro e w9 ⟨⟨ve, rfl, he9⟩, hb9⟩
           obtain ⟨Ae, cpe, hve⟩ := RowG.Row.form he9
           obtain ⟨n9, hn9⟩ : ∃ n9, n9 = (qa ++ qb).length := ⟨_, rfl⟩
           rw [← hn9] at hve
           subst hve
           have re9 := DeL.reads (ds := qa ++ qb) he9
           have rd9 := rd8.below hb9 hb9.size
           have hB9 := below_next hB8 hb9
           clear hn9)
        | (go_at_call 14; (with_reducible refine (sameDecls_any _ _ _ _ _ _ (qa ++ qb) (qa ++ qb) (by omega) _ rd9 re9).mono ?_); rintro e wa ⟨rfl, hba⟩
           rw [decide_eq_true rfl]))
      go_ret
      exact ⟨rfl, below_next hB2 (below_next hB9 hba)⟩
    · have hq2 : (0 : Int) < ((declsF ln).length : Int) := by omega
      generalize declsF ln = qn at *
      go_enter Tryz.func5, Tryz.ntmps5
      go_wp2_with (first
        | (go_at_call 8; (with_reducible refine ca.mono ?_); rintro e w1 ⟨rfl, hb1⟩)
        | (go_at_call 16; (with_reducible refine (cn _ (hT.at_ hb1)).mono ?_); rintro e w2 ⟨⟨vn, rfl, hn2⟩, hb2⟩
           obtain ⟨An, cpn, rfl⟩ := RowG.Row.form hn2
           generalize qn.length = nn at *
           have hB2 := below_next hb1 hb2))
      go_ret
      exact ⟨rfl, hB2⟩
end sheetDrops
end Go.Proofs.YtdfcahdipalmkaaGreatDoor
