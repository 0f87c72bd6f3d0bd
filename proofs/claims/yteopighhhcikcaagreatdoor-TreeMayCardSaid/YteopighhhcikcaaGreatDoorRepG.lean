/- (*strings.genericReplacer).lookup, over the trie of the four signs. Conditions: the trie lies in memory; the text begins with '&'. -/
import Derived.Test.YteopighhhcikcaaGreatDoorRepC
import Derived.Test.YteopighhhcikcaaGreatDoorShelf
namespace Go.Proofs.YteopighhhcikcaaGreatDoor
open Go.ChangeShapes Go.WideShapes Go.ChangeAt Go.RowKit
namespace Rep
/-- The sign that a text begins with: what it tells, and how long it is. -/
def sgn (l : List UInt8) : Option (UInt8 × Nat) :=
  if [38, 108, 116, 59].isPrefixOf l then some (60, 4) else if [38, 103, 116, 59].isPrefixOf l then some (62, 4) else if [38, 97, 109, 112, 59].isPrefixOf l then some (38, 5) else if [38, 113, 117, 111, 116, 59].isPrefixOf l then some (34, 6) else none
def sgV : Option (UInt8 × Nat) → Value
  | some x => .tuple #[.string (toB [x.1]), .int .i64 x.2, .bool true]
  | none => .tuple #[.string ⟨#[]⟩, .int .i64 0, .bool false]
theorem mapT_fin : ∀ c : Fin 256, (0 ≤ mapT c.val ∧ mapT c.val ≤ 11) ∧ (mapT c.val = 4 ↔ c.val = 108) ∧ (mapT c.val = 3 ↔ c.val = 103) ∧ (mapT c.val = 2 ↔ c.val = 97) ∧ (mapT c.val = 8 ↔ c.val = 113) := by decide +kernel
theorem pre_cons (c d : UInt8) (a b : List UInt8) : (c :: a).isPrefixOf (d :: b) = (decide (c = d) && a.isPrefixOf b) := by
  by_cases h : c = d
  · subst h; simp [List.isPrefixOf]
  · have : (c == d) = false := beq_eq_false_iff_ne.2 h
    simp [List.isPrefixOf, this, h]
theorem sgn_lt (u : List UInt8) : sgn (38 :: 108 :: u) = if [116, 59].isPrefixOf u then some (60, 4) else none := by
  unfold sgn
  simp [List.isPrefixOf]
theorem sgn_gt (u : List UInt8) : sgn (38 :: 103 :: u) = if [116, 59].isPrefixOf u then some (62, 4) else none := by
  unfold sgn
  simp [List.isPrefixOf]
theorem sgn_amp (u : List UInt8) : sgn (38 :: 97 :: u) = if [109, 112, 59].isPrefixOf u then some (38, 5) else none := by
  unfold sgn
  simp [List.isPrefixOf]
theorem sgn_quot (u : List UInt8) : sgn (38 :: 113 :: u) = if [117, 111, 116, 59].isPrefixOf u then some (34, 6) else none := by
  unfold sgn
  simp [List.isPrefixOf]
theorem sgn_no {c : UInt8} (u : List UInt8) (h1 : ¬ c = 108) (h2 : ¬ c = 103) (h3 : ¬ c = 97) (h4 : ¬ c = 113) : sgn (38 :: c :: u) = none := by
  unfold sgn
  have e : ∀ d : UInt8, ¬ c = d → (d == c) = false := fun d h => beq_eq_false_iff_ne.2 (fun q => h q.symm)
  simp [List.isPrefixOf, e _ h1, e _ h2, e _ h3, e _ h4]
theorem cons_full (c : UInt8) (t : List UInt8) : (toB (c :: t)).toList.isEmpty = false := by
  rw [List.isEmpty_eq_false_iff, ByteArray.toList_eq]
  exact List.cons_ne_nil _ _
theorem nil_empty : (toB []).toList.isEmpty = true := by
  rw [List.isEmpty_iff, ByteArray.toList_eq]
  rfl
/-! lookup -/
set_option maxRecDepth 100000 in
set_option maxHeartbeats 8000000 in
theorem look_none (G : Nat) (w : World) (h : GenOk w G) : Calls Tryz.prog 217 #[ptr G, .string (toB [38]), .bool false] w fun e w' => e = .returned (sgV (sgn [38])) ∧ Below w.heap.size w w' := by
  obtain ⟨T0, N1, A, N6, N8, hG, ⟨hT, KT, KV⟩, ⟨hA, Ka, KA, KB, KT2, KN2⟩, ⟨hN6, K6, K7⟩, ⟨hN8, K8, K9⟩⟩ := h
  obtain ⟨h2, h4, h5, hm⟩ := gb_cells hG
  have h1 : w.cell? ⟨G, 1, none⟩ = some (.int .i64 0) := (hG.2.cell 1).trans rfl
  have m38 : w.cell? ⟨G, 44, none⟩ = some (.int .u8 0) := hm 38 0 mapT_vals.1
  have t0 : w.cell? ⟨T0, 0, none⟩ = some (.pointer (some ⟨N1, 0, none⟩)) := (KT.cell 0).trans (tabC_at _ (by decide))
  have n1 : w.cell? ⟨N1, 1, none⟩ = some (.int .i64 0) := Ka.cell 1
  have n4 : w.cell? ⟨N1, 4, none⟩ = some (.slice (some ⟨A + 2, 0, none⟩) 11 11) := Ka.cell 4
  have e1 := cons_full 38 []
  have e2 := nil_empty
  have z1 : (toB [38]).size = 1 := rfl
  have hcut : (toB [38]).extract 1 1 = toB [] := rfl
  have hg0 : (toB [38])[0]'(by decide) = 38 := rfl
  rw [show sgn [38] = none from by decide]
  unfold tabS at h4
  unfold sgV ptr
  clear hm KT KV Ka KA KB KT2 KN2 K6 K7 K8 K9 h2
  go_enter Tryz.func217, Tryz.ntmps217
  go_wp2
  refine wp_loop_rounds 4 ?_
  rw [rounds_succ]
  go_wp2
  go_region
  go_wp2
  rw [rounds_succ]
  go_wp2
  exact bodyPost_ret (v := .tuple #[.string ⟨#[]⟩, .int .i64 0, .bool false]) (by simp [results, Tryz.results217, go_sem]) rfl ⟨rfl, below_dr (Below.refl _ _) 1⟩
set_option maxRecDepth 100000 in
set_option maxHeartbeats 8000000 in
theorem look_108 (G : Nat) (w : World) (h : GenOk w G) (u : List UInt8) (hu : u.length ≤ 1000000) : Calls Tryz.prog 217 #[ptr G, .string (toB (38 :: 108 :: u)), .bool false] w fun e w' => e = .returned (sgV (sgn (38 :: 108 :: u))) ∧ Below w.heap.size w w' := by
  obtain ⟨T0, N1, A, N6, N8, hG, ⟨hT, KT, KV⟩, ⟨hA, Ka, KA, KB, KT2, KN2⟩, ⟨hN6, K6, K7⟩, ⟨hN8, K8, K9⟩⟩ := h
  obtain ⟨h2, h4, h5, hm⟩ := gb_cells hG
  have h1 : w.cell? ⟨G, 1, none⟩ = some (.int .i64 0) := (hG.2.cell 1).trans rfl
  have m38 : w.cell? ⟨G, 44, none⟩ = some (.int .u8 0) := hm 38 0 mapT_vals.1
  have t0 : w.cell? ⟨T0, 0, none⟩ = some (.pointer (some ⟨N1, 0, none⟩)) := (KT.cell 0).trans (tabC_at _ (by decide))
  have n1 : w.cell? ⟨N1, 1, none⟩ = some (.int .i64 0) := Ka.cell 1
  have n4 : w.cell? ⟨N1, 4, none⟩ = some (.slice (some ⟨A + 2, 0, none⟩) 11 11) := Ka.cell 4
  have mc : w.cell? ⟨G, 114, none⟩ = some (.int .u8 4) := hm 108 4 mapT_vals.2.1
  have t1 : w.cell? ⟨A + 2, 4, none⟩ = some (.pointer (some ⟨A, 0, none⟩)) := (KT2.cell 4).trans (tabC_at _ (by decide))
  have c1 : w.cell? ⟨A, 1, none⟩ = some (.int .i64 0) := KA.cell 1
  have c2 : w.cell? ⟨A, 2, none⟩ = some (.string (toB [116, 59])) := KA.cell 2
  have c3 : w.cell? ⟨A, 3, none⟩ = some (.pointer (some ⟨N1 + 1, 0, none⟩)) := KA.cell 3
  have c4 : w.cell? ⟨A, 4, none⟩ = some (.slice none 0 0) := KA.cell 4
  have v0 : w.cell? ⟨N1 + 1, 0, none⟩ = some (.string (toB [60])) := KV.cell 0
  have v1 : w.cell? ⟨N1 + 1, 1, none⟩ = some (.int .i64 8) := KV.cell 1
  have v2 : w.cell? ⟨N1 + 1, 2, none⟩ = some (.string ⟨#[]⟩) := KV.cell 2
  have v4 : w.cell? ⟨N1 + 1, 4, none⟩ = some (.slice none 0 0) := KV.cell 4
  have e1 := cons_full 38 (108 :: u)
  have e2 := cons_full 108 u
  have z1 : (toB (38 :: 108 :: u)).size = u.length + 1 + 1 := by rw [toB_size]; rfl
  have z2 : (toB (108 :: u)).size = u.length + 1 := by rw [toB_size]; rfl
  have z3 : (toB u).size = u.length := toB_size u
  have hcut1 : (toB (38 :: 108 :: u)).extract 1 (u.length + 1 + 1) = toB (108 :: u) := cut_head 38 (108 :: u)
  have hcut2 : (toB (108 :: u)).extract 1 (u.length + 1) = toB u := cut_head 108 u
  have hz1 : 0 < (toB (38 :: 108 :: u)).size := by omega
  have hz2 : 0 < (toB (108 :: u)).size := by omega
  have hg1 : (toB (38 :: 108 :: u))[0]'hz1 = 38 := rfl
  have hg2 : (toB (108 :: u))[0]'hz2 = 108 := rfl
  have cp := fun w => Tryz.strings_HasPrefix (toB u) (toB [116, 59]) w
  have hp : Lib.hasPrefix (toB u).data.toList (toB [116, 59]).data.toList = List.isPrefixOf [116, 59] u := rfl
  rw [hp] at cp
  have zp : (toB [116, 59]).size = 2 := rfl
  have ep : (toB [116, 59]).toList.isEmpty = false := cons_full _ _
  rw [sgn_lt]
  unfold tabS at h4
  unfold ptr
  clear hm hp KT KV Ka KA KB KT2 KN2 K6 K7 K8 K9 h2
  cases u with
  | nil =>
    have e3 := nil_empty
    simp only [List.length_nil, Nat.zero_add, Nat.reduceAdd] at z1 z2 z3 hcut1 hcut2
    rw [show List.isPrefixOf ([116, 59] : List UInt8) [] = false from rfl, if_neg (by decide)]
    unfold sgV
    clear cp
    generalize toB [116, 59] = pf at *
    go_enter Tryz.func217, Tryz.ntmps217
    go_wp2
    refine wp_loop_rounds 4 ?_
    rw [rounds_succ]
    go_wp2
    go_region
    go_wp2
    rw [rounds_succ]
    go_wp2
    go_region
    go_wp2
    rw [rounds_succ]
    go_wp2
    exact bodyPost_ret (v := .tuple #[.string ⟨#[]⟩, .int .i64 0, .bool false]) (by simp [results, Tryz.results217, go_sem]) rfl ⟨rfl, below_dr (Below.refl _ _) 2⟩
  | cons d u =>
    have e3 := cons_full d u
    simp only [List.length_cons] at z1 z2 z3 hcut1 hcut2 hu
    cases hb : List.isPrefixOf [116, 59] (d :: u) with
    | false =>
      rw [hb] at cp
      rw [if_neg (by decide)]
      unfold sgV
      clear hb
      generalize toB [116, 59] = pf at *
      go_enter Tryz.func217, Tryz.ntmps217
      go_wp2
      refine wp_loop_rounds 4 ?_
      rw [rounds_succ]
      go_wp2
      go_region
      go_wp2
      rw [rounds_succ]
      go_wp2
      go_region
      go_wp2
      rw [rounds_succ]
      go_wp2_with (go_at_call 182; (with_reducible refine (cp _).mono ?_); rintro e w1 ⟨rfl, rfl⟩)
      exact bodyPost_ret (v := .tuple #[.string ⟨#[]⟩, .int .i64 0, .bool false]) (by simp [results, Tryz.results217, go_sem]) rfl ⟨rfl, below_dr (Below.refl _ _) 2⟩
    | true =>
      rw [hb] at cp
      rw [if_pos rfl]
      unfold sgV
      have hle : 2 ≤ (d :: u).length := (List.isPrefixOf_iff_prefix.1 hb).length_le
      rw [List.length_cons] at hle
      clear hb
      generalize toB [116, 59] = pf at *
      cases he : ((toB (d :: u)).extract 2 (u.length + 1)).toList.isEmpty with
      | false =>
        go_enter Tryz.func217, Tryz.ntmps217
        go_wp2
        refine wp_loop_rounds 4 ?_
        rw [rounds_succ]
        go_wp2
        go_region
        go_wp2
        rw [rounds_succ]
        go_wp2
        go_region
        go_wp2
        rw [rounds_succ]
        go_wp2_with (go_at_call 182; (with_reducible refine (cp _).mono ?_); rintro e w1 ⟨rfl, rfl⟩)
        rw [rounds_succ]
        go_wp2
        exact bodyPost_ret (v := .tuple #[.string (toB [60]), .int .i64 4, .bool true]) (by simp [results, Tryz.results217, go_sem]) rfl ⟨rfl, below_dr (Below.refl _ _) 2⟩
      | true =>
        go_enter Tryz.func217, Tryz.ntmps217
        go_wp2
        refine wp_loop_rounds 4 ?_
        rw [rounds_succ]
        go_wp2
        go_region
        go_wp2
        rw [rounds_succ]
        go_wp2
        go_region
        go_wp2
        rw [rounds_succ]
        go_wp2_with (go_at_call 182; (with_reducible refine (cp _).mono ?_); rintro e w1 ⟨rfl, rfl⟩)
        rw [rounds_succ]
        go_wp2
        exact bodyPost_ret (v := .tuple #[.string (toB [60]), .int .i64 4, .bool true]) (by simp [results, Tryz.results217, go_sem]) rfl ⟨rfl, below_dr (Below.refl _ _) 2⟩
set_option maxRecDepth 100000 in
set_option maxHeartbeats 8000000 in
theorem look_103 (G : Nat) (w : World) (h : GenOk w G) (u : List UInt8) (hu : u.length ≤ 1000000) : Calls Tryz.prog 217 #[ptr G, .string (toB (38 :: 103 :: u)), .bool false] w fun e w' => e = .returned (sgV (sgn (38 :: 103 :: u))) ∧ Below w.heap.size w w' := by
  obtain ⟨T0, N1, A, N6, N8, hG, ⟨hT, KT, KV⟩, ⟨hA, Ka, KA, KB, KT2, KN2⟩, ⟨hN6, K6, K7⟩, ⟨hN8, K8, K9⟩⟩ := h
  obtain ⟨h2, h4, h5, hm⟩ := gb_cells hG
  have h1 : w.cell? ⟨G, 1, none⟩ = some (.int .i64 0) := (hG.2.cell 1).trans rfl
  have m38 : w.cell? ⟨G, 44, none⟩ = some (.int .u8 0) := hm 38 0 mapT_vals.1
  have t0 : w.cell? ⟨T0, 0, none⟩ = some (.pointer (some ⟨N1, 0, none⟩)) := (KT.cell 0).trans (tabC_at _ (by decide))
  have n1 : w.cell? ⟨N1, 1, none⟩ = some (.int .i64 0) := Ka.cell 1
  have n4 : w.cell? ⟨N1, 4, none⟩ = some (.slice (some ⟨A + 2, 0, none⟩) 11 11) := Ka.cell 4
  have mc : w.cell? ⟨G, 109, none⟩ = some (.int .u8 3) := hm 103 3 mapT_vals.2.2.1
  have t1 : w.cell? ⟨A + 2, 3, none⟩ = some (.pointer (some ⟨A + 1, 0, none⟩)) := (KT2.cell 3).trans (tabC_at _ (by decide))
  have c1 : w.cell? ⟨A + 1, 1, none⟩ = some (.int .i64 0) := KB.cell 1
  have c2 : w.cell? ⟨A + 1, 2, none⟩ = some (.string (toB [116, 59])) := KB.cell 2
  have c3 : w.cell? ⟨A + 1, 3, none⟩ = some (.pointer (some ⟨A + 3, 0, none⟩)) := KB.cell 3
  have c4 : w.cell? ⟨A + 1, 4, none⟩ = some (.slice none 0 0) := KB.cell 4
  have v0 : w.cell? ⟨A + 3, 0, none⟩ = some (.string (toB [62])) := KN2.cell 0
  have v1 : w.cell? ⟨A + 3, 1, none⟩ = some (.int .i64 6) := KN2.cell 1
  have v2 : w.cell? ⟨A + 3, 2, none⟩ = some (.string ⟨#[]⟩) := KN2.cell 2
  have v4 : w.cell? ⟨A + 3, 4, none⟩ = some (.slice none 0 0) := KN2.cell 4
  have e1 := cons_full 38 (103 :: u)
  have e2 := cons_full 103 u
  have z1 : (toB (38 :: 103 :: u)).size = u.length + 1 + 1 := by rw [toB_size]; rfl
  have z2 : (toB (103 :: u)).size = u.length + 1 := by rw [toB_size]; rfl
  have z3 : (toB u).size = u.length := toB_size u
  have hcut1 : (toB (38 :: 103 :: u)).extract 1 (u.length + 1 + 1) = toB (103 :: u) := cut_head 38 (103 :: u)
  have hcut2 : (toB (103 :: u)).extract 1 (u.length + 1) = toB u := cut_head 103 u
  have hz1 : 0 < (toB (38 :: 103 :: u)).size := by omega
  have hz2 : 0 < (toB (103 :: u)).size := by omega
  have hg1 : (toB (38 :: 103 :: u))[0]'hz1 = 38 := rfl
  have hg2 : (toB (103 :: u))[0]'hz2 = 103 := rfl
  have cp := fun w => Tryz.strings_HasPrefix (toB u) (toB [116, 59]) w
  have hp : Lib.hasPrefix (toB u).data.toList (toB [116, 59]).data.toList = List.isPrefixOf [116, 59] u := rfl
  rw [hp] at cp
  have zp : (toB [116, 59]).size = 2 := rfl
  have ep : (toB [116, 59]).toList.isEmpty = false := cons_full _ _
  rw [sgn_gt]
  unfold tabS at h4
  unfold ptr
  clear hm hp KT KV Ka KA KB KT2 KN2 K6 K7 K8 K9 h2
  cases u with
  | nil =>
    have e3 := nil_empty
    simp only [List.length_nil, Nat.zero_add, Nat.reduceAdd] at z1 z2 z3 hcut1 hcut2
    rw [show List.isPrefixOf ([116, 59] : List UInt8) [] = false from rfl, if_neg (by decide)]
    unfold sgV
    clear cp
    generalize toB [116, 59] = pf at *
    go_enter Tryz.func217, Tryz.ntmps217
    go_wp2
    refine wp_loop_rounds 4 ?_
    rw [rounds_succ]
    go_wp2
    go_region
    go_wp2
    rw [rounds_succ]
    go_wp2
    go_region
    go_wp2
    rw [rounds_succ]
    go_wp2
    exact bodyPost_ret (v := .tuple #[.string ⟨#[]⟩, .int .i64 0, .bool false]) (by simp [results, Tryz.results217, go_sem]) rfl ⟨rfl, below_dr (Below.refl _ _) 2⟩
  | cons d u =>
    have e3 := cons_full d u
    simp only [List.length_cons] at z1 z2 z3 hcut1 hcut2 hu
    cases hb : List.isPrefixOf [116, 59] (d :: u) with
    | false =>
      rw [hb] at cp
      rw [if_neg (by decide)]
      unfold sgV
      clear hb
      generalize toB [116, 59] = pf at *
      go_enter Tryz.func217, Tryz.ntmps217
      go_wp2
      refine wp_loop_rounds 4 ?_
      rw [rounds_succ]
      go_wp2
      go_region
      go_wp2
      rw [rounds_succ]
      go_wp2
      go_region
      go_wp2
      rw [rounds_succ]
      go_wp2_with (go_at_call 182; (with_reducible refine (cp _).mono ?_); rintro e w1 ⟨rfl, rfl⟩)
      exact bodyPost_ret (v := .tuple #[.string ⟨#[]⟩, .int .i64 0, .bool false]) (by simp [results, Tryz.results217, go_sem]) rfl ⟨rfl, below_dr (Below.refl _ _) 2⟩
    | true =>
      rw [hb] at cp
      rw [if_pos rfl]
      unfold sgV
      have hle : 2 ≤ (d :: u).length := (List.isPrefixOf_iff_prefix.1 hb).length_le
      rw [List.length_cons] at hle
      clear hb
      generalize toB [116, 59] = pf at *
      cases he : ((toB (d :: u)).extract 2 (u.length + 1)).toList.isEmpty with
      | false =>
        go_enter Tryz.func217, Tryz.ntmps217
        go_wp2
        refine wp_loop_rounds 4 ?_
        rw [rounds_succ]
        go_wp2
        go_region
        go_wp2
        rw [rounds_succ]
        go_wp2
        go_region
        go_wp2
        rw [rounds_succ]
        go_wp2_with (go_at_call 182; (with_reducible refine (cp _).mono ?_); rintro e w1 ⟨rfl, rfl⟩)
        rw [rounds_succ]
        go_wp2
        exact bodyPost_ret (v := .tuple #[.string (toB [62]), .int .i64 4, .bool true]) (by simp [results, Tryz.results217, go_sem]) rfl ⟨rfl, below_dr (Below.refl _ _) 2⟩
      | true =>
        go_enter Tryz.func217, Tryz.ntmps217
        go_wp2
        refine wp_loop_rounds 4 ?_
        rw [rounds_succ]
        go_wp2
        go_region
        go_wp2
        rw [rounds_succ]
        go_wp2
        go_region
        go_wp2
        rw [rounds_succ]
        go_wp2_with (go_at_call 182; (with_reducible refine (cp _).mono ?_); rintro e w1 ⟨rfl, rfl⟩)
        rw [rounds_succ]
        go_wp2
        exact bodyPost_ret (v := .tuple #[.string (toB [62]), .int .i64 4, .bool true]) (by simp [results, Tryz.results217, go_sem]) rfl ⟨rfl, below_dr (Below.refl _ _) 2⟩
set_option maxRecDepth 100000 in
set_option maxHeartbeats 8000000 in
theorem look_97 (G : Nat) (w : World) (h : GenOk w G) (u : List UInt8) (hu : u.length ≤ 1000000) : Calls Tryz.prog 217 #[ptr G, .string (toB (38 :: 97 :: u)), .bool false] w fun e w' => e = .returned (sgV (sgn (38 :: 97 :: u))) ∧ Below w.heap.size w w' := by
  obtain ⟨T0, N1, A, N6, N8, hG, ⟨hT, KT, KV⟩, ⟨hA, Ka, KA, KB, KT2, KN2⟩, ⟨hN6, K6, K7⟩, ⟨hN8, K8, K9⟩⟩ := h
  obtain ⟨h2, h4, h5, hm⟩ := gb_cells hG
  have h1 : w.cell? ⟨G, 1, none⟩ = some (.int .i64 0) := (hG.2.cell 1).trans rfl
  have m38 : w.cell? ⟨G, 44, none⟩ = some (.int .u8 0) := hm 38 0 mapT_vals.1
  have t0 : w.cell? ⟨T0, 0, none⟩ = some (.pointer (some ⟨N1, 0, none⟩)) := (KT.cell 0).trans (tabC_at _ (by decide))
  have n1 : w.cell? ⟨N1, 1, none⟩ = some (.int .i64 0) := Ka.cell 1
  have n4 : w.cell? ⟨N1, 4, none⟩ = some (.slice (some ⟨A + 2, 0, none⟩) 11 11) := Ka.cell 4
  have mc : w.cell? ⟨G, 103, none⟩ = some (.int .u8 2) := hm 97 2 mapT_vals.2.2.2.1
  have t1 : w.cell? ⟨A + 2, 2, none⟩ = some (.pointer (some ⟨N6, 0, none⟩)) := (KT2.cell 2).trans (tabC_at _ (by decide))
  have c1 : w.cell? ⟨N6, 1, none⟩ = some (.int .i64 0) := K6.cell 1
  have c2 : w.cell? ⟨N6, 2, none⟩ = some (.string (toB [109, 112, 59])) := K6.cell 2
  have c3 : w.cell? ⟨N6, 3, none⟩ = some (.pointer (some ⟨N6 + 1, 0, none⟩)) := K6.cell 3
  have c4 : w.cell? ⟨N6, 4, none⟩ = some (.slice none 0 0) := K6.cell 4
  have v0 : w.cell? ⟨N6 + 1, 0, none⟩ = some (.string (toB [38])) := K7.cell 0
  have v1 : w.cell? ⟨N6 + 1, 1, none⟩ = some (.int .i64 4) := K7.cell 1
  have v2 : w.cell? ⟨N6 + 1, 2, none⟩ = some (.string ⟨#[]⟩) := K7.cell 2
  have v4 : w.cell? ⟨N6 + 1, 4, none⟩ = some (.slice none 0 0) := K7.cell 4
  have e1 := cons_full 38 (97 :: u)
  have e2 := cons_full 97 u
  have z1 : (toB (38 :: 97 :: u)).size = u.length + 1 + 1 := by rw [toB_size]; rfl
  have z2 : (toB (97 :: u)).size = u.length + 1 := by rw [toB_size]; rfl
  have z3 : (toB u).size = u.length := toB_size u
  have hcut1 : (toB (38 :: 97 :: u)).extract 1 (u.length + 1 + 1) = toB (97 :: u) := cut_head 38 (97 :: u)
  have hcut2 : (toB (97 :: u)).extract 1 (u.length + 1) = toB u := cut_head 97 u
  have hz1 : 0 < (toB (38 :: 97 :: u)).size := by omega
  have hz2 : 0 < (toB (97 :: u)).size := by omega
  have hg1 : (toB (38 :: 97 :: u))[0]'hz1 = 38 := rfl
  have hg2 : (toB (97 :: u))[0]'hz2 = 97 := rfl
  have cp := fun w => Tryz.strings_HasPrefix (toB u) (toB [109, 112, 59]) w
  have hp : Lib.hasPrefix (toB u).data.toList (toB [109, 112, 59]).data.toList = List.isPrefixOf [109, 112, 59] u := rfl
  rw [hp] at cp
  have zp : (toB [109, 112, 59]).size = 3 := rfl
  have ep : (toB [109, 112, 59]).toList.isEmpty = false := cons_full _ _
  rw [sgn_amp]
  unfold tabS at h4
  unfold ptr
  clear hm hp KT KV Ka KA KB KT2 KN2 K6 K7 K8 K9 h2
  cases u with
  | nil =>
    have e3 := nil_empty
    simp only [List.length_nil, Nat.zero_add, Nat.reduceAdd] at z1 z2 z3 hcut1 hcut2
    rw [show List.isPrefixOf ([109, 112, 59] : List UInt8) [] = false from rfl, if_neg (by decide)]
    unfold sgV
    clear cp
    generalize toB [109, 112, 59] = pf at *
    go_enter Tryz.func217, Tryz.ntmps217
    go_wp2
    refine wp_loop_rounds 4 ?_
    rw [rounds_succ]
    go_wp2
    go_region
    go_wp2
    rw [rounds_succ]
    go_wp2
    go_region
    go_wp2
    rw [rounds_succ]
    go_wp2
    exact bodyPost_ret (v := .tuple #[.string ⟨#[]⟩, .int .i64 0, .bool false]) (by simp [results, Tryz.results217, go_sem]) rfl ⟨rfl, below_dr (Below.refl _ _) 2⟩
  | cons d u =>
    have e3 := cons_full d u
    simp only [List.length_cons] at z1 z2 z3 hcut1 hcut2 hu
    cases hb : List.isPrefixOf [109, 112, 59] (d :: u) with
    | false =>
      rw [hb] at cp
      rw [if_neg (by decide)]
      unfold sgV
      clear hb
      generalize toB [109, 112, 59] = pf at *
      go_enter Tryz.func217, Tryz.ntmps217
      go_wp2
      refine wp_loop_rounds 4 ?_
      rw [rounds_succ]
      go_wp2
      go_region
      go_wp2
      rw [rounds_succ]
      go_wp2
      go_region
      go_wp2
      rw [rounds_succ]
      go_wp2_with (go_at_call 182; (with_reducible refine (cp _).mono ?_); rintro e w1 ⟨rfl, rfl⟩)
      exact bodyPost_ret (v := .tuple #[.string ⟨#[]⟩, .int .i64 0, .bool false]) (by simp [results, Tryz.results217, go_sem]) rfl ⟨rfl, below_dr (Below.refl _ _) 2⟩
    | true =>
      rw [hb] at cp
      rw [if_pos rfl]
      unfold sgV
      have hle : 3 ≤ (d :: u).length := (List.isPrefixOf_iff_prefix.1 hb).length_le
      rw [List.length_cons] at hle
      clear hb
      generalize toB [109, 112, 59] = pf at *
      cases he : ((toB (d :: u)).extract 3 (u.length + 1)).toList.isEmpty with
      | false =>
        go_enter Tryz.func217, Tryz.ntmps217
        go_wp2
        refine wp_loop_rounds 4 ?_
        rw [rounds_succ]
        go_wp2
        go_region
        go_wp2
        rw [rounds_succ]
        go_wp2
        go_region
        go_wp2
        rw [rounds_succ]
        go_wp2_with (go_at_call 182; (with_reducible refine (cp _).mono ?_); rintro e w1 ⟨rfl, rfl⟩)
        rw [rounds_succ]
        go_wp2
        exact bodyPost_ret (v := .tuple #[.string (toB [38]), .int .i64 5, .bool true]) (by simp [results, Tryz.results217, go_sem]) rfl ⟨rfl, below_dr (Below.refl _ _) 2⟩
      | true =>
        go_enter Tryz.func217, Tryz.ntmps217
        go_wp2
        refine wp_loop_rounds 4 ?_
        rw [rounds_succ]
        go_wp2
        go_region
        go_wp2
        rw [rounds_succ]
        go_wp2
        go_region
        go_wp2
        rw [rounds_succ]
        go_wp2_with (go_at_call 182; (with_reducible refine (cp _).mono ?_); rintro e w1 ⟨rfl, rfl⟩)
        rw [rounds_succ]
        go_wp2
        exact bodyPost_ret (v := .tuple #[.string (toB [38]), .int .i64 5, .bool true]) (by simp [results, Tryz.results217, go_sem]) rfl ⟨rfl, below_dr (Below.refl _ _) 2⟩
set_option maxRecDepth 100000 in
set_option maxHeartbeats 8000000 in
theorem look_113 (G : Nat) (w : World) (h : GenOk w G) (u : List UInt8) (hu : u.length ≤ 1000000) : Calls Tryz.prog 217 #[ptr G, .string (toB (38 :: 113 :: u)), .bool false] w fun e w' => e = .returned (sgV (sgn (38 :: 113 :: u))) ∧ Below w.heap.size w w' := by
  obtain ⟨T0, N1, A, N6, N8, hG, ⟨hT, KT, KV⟩, ⟨hA, Ka, KA, KB, KT2, KN2⟩, ⟨hN6, K6, K7⟩, ⟨hN8, K8, K9⟩⟩ := h
  obtain ⟨h2, h4, h5, hm⟩ := gb_cells hG
  have h1 : w.cell? ⟨G, 1, none⟩ = some (.int .i64 0) := (hG.2.cell 1).trans rfl
  have m38 : w.cell? ⟨G, 44, none⟩ = some (.int .u8 0) := hm 38 0 mapT_vals.1
  have t0 : w.cell? ⟨T0, 0, none⟩ = some (.pointer (some ⟨N1, 0, none⟩)) := (KT.cell 0).trans (tabC_at _ (by decide))
  have n1 : w.cell? ⟨N1, 1, none⟩ = some (.int .i64 0) := Ka.cell 1
  have n4 : w.cell? ⟨N1, 4, none⟩ = some (.slice (some ⟨A + 2, 0, none⟩) 11 11) := Ka.cell 4
  have mc : w.cell? ⟨G, 119, none⟩ = some (.int .u8 8) := hm 113 8 mapT_vals.2.2.2.2
  have t1 : w.cell? ⟨A + 2, 8, none⟩ = some (.pointer (some ⟨N8, 0, none⟩)) := (KT2.cell 8).trans (tabC_at _ (by decide))
  have c1 : w.cell? ⟨N8, 1, none⟩ = some (.int .i64 0) := K8.cell 1
  have c2 : w.cell? ⟨N8, 2, none⟩ = some (.string (toB [117, 111, 116, 59])) := K8.cell 2
  have c3 : w.cell? ⟨N8, 3, none⟩ = some (.pointer (some ⟨N8 + 1, 0, none⟩)) := K8.cell 3
  have c4 : w.cell? ⟨N8, 4, none⟩ = some (.slice none 0 0) := K8.cell 4
  have v0 : w.cell? ⟨N8 + 1, 0, none⟩ = some (.string (toB [34])) := K9.cell 0
  have v1 : w.cell? ⟨N8 + 1, 1, none⟩ = some (.int .i64 2) := K9.cell 1
  have v2 : w.cell? ⟨N8 + 1, 2, none⟩ = some (.string ⟨#[]⟩) := K9.cell 2
  have v4 : w.cell? ⟨N8 + 1, 4, none⟩ = some (.slice none 0 0) := K9.cell 4
  have e1 := cons_full 38 (113 :: u)
  have e2 := cons_full 113 u
  have z1 : (toB (38 :: 113 :: u)).size = u.length + 1 + 1 := by rw [toB_size]; rfl
  have z2 : (toB (113 :: u)).size = u.length + 1 := by rw [toB_size]; rfl
  have z3 : (toB u).size = u.length := toB_size u
  have hcut1 : (toB (38 :: 113 :: u)).extract 1 (u.length + 1 + 1) = toB (113 :: u) := cut_head 38 (113 :: u)
  have hcut2 : (toB (113 :: u)).extract 1 (u.length + 1) = toB u := cut_head 113 u
  have hz1 : 0 < (toB (38 :: 113 :: u)).size := by omega
  have hz2 : 0 < (toB (113 :: u)).size := by omega
  have hg1 : (toB (38 :: 113 :: u))[0]'hz1 = 38 := rfl
  have hg2 : (toB (113 :: u))[0]'hz2 = 113 := rfl
  have cp := fun w => Tryz.strings_HasPrefix (toB u) (toB [117, 111, 116, 59]) w
  have hp : Lib.hasPrefix (toB u).data.toList (toB [117, 111, 116, 59]).data.toList = List.isPrefixOf [117, 111, 116, 59] u := rfl
  rw [hp] at cp
  have zp : (toB [117, 111, 116, 59]).size = 4 := rfl
  have ep : (toB [117, 111, 116, 59]).toList.isEmpty = false := cons_full _ _
  rw [sgn_quot]
  unfold tabS at h4
  unfold ptr
  clear hm hp KT KV Ka KA KB KT2 KN2 K6 K7 K8 K9 h2
  cases u with
  | nil =>
    have e3 := nil_empty
    simp only [List.length_nil, Nat.zero_add, Nat.reduceAdd] at z1 z2 z3 hcut1 hcut2
    rw [show List.isPrefixOf ([117, 111, 116, 59] : List UInt8) [] = false from rfl, if_neg (by decide)]
    unfold sgV
    clear cp
    generalize toB [117, 111, 116, 59] = pf at *
    go_enter Tryz.func217, Tryz.ntmps217
    go_wp2
    refine wp_loop_rounds 4 ?_
    rw [rounds_succ]
    go_wp2
    go_region
    go_wp2
    rw [rounds_succ]
    go_wp2
    go_region
    go_wp2
    rw [rounds_succ]
    go_wp2
    exact bodyPost_ret (v := .tuple #[.string ⟨#[]⟩, .int .i64 0, .bool false]) (by simp [results, Tryz.results217, go_sem]) rfl ⟨rfl, below_dr (Below.refl _ _) 2⟩
  | cons d u =>
    have e3 := cons_full d u
    simp only [List.length_cons] at z1 z2 z3 hcut1 hcut2 hu
    cases hb : List.isPrefixOf [117, 111, 116, 59] (d :: u) with
    | false =>
      rw [hb] at cp
      rw [if_neg (by decide)]
      unfold sgV
      clear hb
      generalize toB [117, 111, 116, 59] = pf at *
      go_enter Tryz.func217, Tryz.ntmps217
      go_wp2
      refine wp_loop_rounds 4 ?_
      rw [rounds_succ]
      go_wp2
      go_region
      go_wp2
      rw [rounds_succ]
      go_wp2
      go_region
      go_wp2
      rw [rounds_succ]
      go_wp2_with (go_at_call 182; (with_reducible refine (cp _).mono ?_); rintro e w1 ⟨rfl, rfl⟩)
      exact bodyPost_ret (v := .tuple #[.string ⟨#[]⟩, .int .i64 0, .bool false]) (by simp [results, Tryz.results217, go_sem]) rfl ⟨rfl, below_dr (Below.refl _ _) 2⟩
    | true =>
      rw [hb] at cp
      rw [if_pos rfl]
      unfold sgV
      have hle : 4 ≤ (d :: u).length := (List.isPrefixOf_iff_prefix.1 hb).length_le
      rw [List.length_cons] at hle
      clear hb
      generalize toB [117, 111, 116, 59] = pf at *
      cases he : ((toB (d :: u)).extract 4 (u.length + 1)).toList.isEmpty with
      | false =>
        go_enter Tryz.func217, Tryz.ntmps217
        go_wp2
        refine wp_loop_rounds 4 ?_
        rw [rounds_succ]
        go_wp2
        go_region
        go_wp2
        rw [rounds_succ]
        go_wp2
        go_region
        go_wp2
        rw [rounds_succ]
        go_wp2_with (go_at_call 182; (with_reducible refine (cp _).mono ?_); rintro e w1 ⟨rfl, rfl⟩)
        rw [rounds_succ]
        go_wp2
        exact bodyPost_ret (v := .tuple #[.string (toB [34]), .int .i64 6, .bool true]) (by simp [results, Tryz.results217, go_sem]) rfl ⟨rfl, below_dr (Below.refl _ _) 2⟩
      | true =>
        go_enter Tryz.func217, Tryz.ntmps217
        go_wp2
        refine wp_loop_rounds 4 ?_
        rw [rounds_succ]
        go_wp2
        go_region
        go_wp2
        rw [rounds_succ]
        go_wp2
        go_region
        go_wp2
        rw [rounds_succ]
        go_wp2_with (go_at_call 182; (with_reducible refine (cp _).mono ?_); rintro e w1 ⟨rfl, rfl⟩)
        rw [rounds_succ]
        go_wp2
        exact bodyPost_ret (v := .tuple #[.string (toB [34]), .int .i64 6, .bool true]) (by simp [results, Tryz.results217, go_sem]) rfl ⟨rfl, below_dr (Below.refl _ _) 2⟩
set_option maxRecDepth 100000 in
set_option maxHeartbeats 8000000 in
theorem look_other (G : Nat) (w : World) (h : GenOk w G) (c : UInt8) (h108 : ¬ c = 108) (h103 : ¬ c = 103) (h97 : ¬ c = 97) (h113 : ¬ c = 113) (u : List UInt8) (hu : u.length ≤ 1000000) : Calls Tryz.prog 217 #[ptr G, .string (toB (38 :: c :: u)), .bool false] w fun e w' => e = .returned (sgV (sgn (38 :: c :: u))) ∧ Below w.heap.size w w' := by
  obtain ⟨T0, N1, A, N6, N8, hG, ⟨hT, KT, KV⟩, ⟨hA, Ka, KA, KB, KT2, KN2⟩, ⟨hN6, K6, K7⟩, ⟨hN8, K8, K9⟩⟩ := h
  obtain ⟨h2, h4, h5, hm⟩ := gb_cells hG
  have h1 : w.cell? ⟨G, 1, none⟩ = some (.int .i64 0) := (hG.2.cell 1).trans rfl
  have m38 : w.cell? ⟨G, 44, none⟩ = some (.int .u8 0) := hm 38 0 mapT_vals.1
  have t0 : w.cell? ⟨T0, 0, none⟩ = some (.pointer (some ⟨N1, 0, none⟩)) := (KT.cell 0).trans (tabC_at _ (by decide))
  have n1 : w.cell? ⟨N1, 1, none⟩ = some (.int .i64 0) := Ka.cell 1
  have n4 : w.cell? ⟨N1, 4, none⟩ = some (.slice (some ⟨A + 2, 0, none⟩) 11 11) := Ka.cell 4
  obtain ⟨⟨b0, b1⟩, b4, b3, b2, b8⟩ := mapT_fin ⟨c.toNat, c.toNat_lt⟩
  obtain ⟨vi, hvi⟩ : ∃ vi : Nat, mapT c.toNat = (vi : Int) := ⟨(mapT c.toNat).toNat, by simp only at b0; omega⟩
  simp only [hvi] at b0 b1 b4 b3 b2 b8
  have x4 : ¬ vi = 4 := fun e => h108 (UInt8.toNat_inj.1 (b4.1 (by omega)))
  have x3 : ¬ vi = 3 := fun e => h103 (UInt8.toNat_inj.1 (b3.1 (by omega)))
  have x2 : ¬ vi = 2 := fun e => h97 (UInt8.toNat_inj.1 (b2.1 (by omega)))
  have x8 : ¬ vi = 8 := fun e => h113 (UInt8.toNat_inj.1 (b8.1 (by omega)))
  have mc := hm c vi hvi
  have e1 := cons_full 38 (c :: u)
  have e2 := cons_full c u
  have z1 : (toB (38 :: c :: u)).size = u.length + 1 + 1 := by rw [toB_size]; rfl
  have z2 : (toB (c :: u)).size = u.length + 1 := by rw [toB_size]; rfl
  have hcut1 : (toB (38 :: c :: u)).extract 1 (u.length + 1 + 1) = toB (c :: u) := cut_head 38 (c :: u)
  have hcut2 : (toB (c :: u)).extract 1 (u.length + 1) = toB u := cut_head c u
  have hz1 : 0 < (toB (38 :: c :: u)).size := by omega
  have hz2 : 0 < (toB (c :: u)).size := by omega
  have hg1 : (toB (38 :: c :: u))[0]'hz1 = 38 := rfl
  have hg2 : (toB (c :: u))[0]'hz2 = c := rfl
  have y0 : (0 : Int) ≤ (c.toNat : Int) := Int.natCast_nonneg _
  have y2 : c.toNat < 256 := c.toNat_lt
  have y1 : (c.toNat : Int) < 256 := by omega
  rw [sgn_no u h108 h103 h97 h113]
  unfold tabS at h4
  unfold sgV ptr
  by_cases h11 : vi = 11
  · subst h11
    have mc2 : w.cell? ⟨G, 6 + c.toNat, none⟩ = some (.int .u8 11) := mc
    clear mc hm KT KV Ka KA KB KT2 KN2 K6 K7 K8 K9 h2 b0 b1 b4 b3 b2 b8 x4 x3 x2 x8 hvi
    generalize toB u = tu at *
    go_enter Tryz.func217, Tryz.ntmps217
    go_wp2
    refine wp_loop_rounds 4 ?_
    rw [rounds_succ]
    go_wp2
    go_region
    go_wp2
    rw [rounds_succ]
    go_wp2
    go_region
    go_wp2
    exact bodyPost_ret (v := .tuple #[.string ⟨#[]⟩, .int .i64 0, .bool false]) (by simp [results, Tryz.results217, go_sem]) rfl ⟨rfl, below_dr (Below.refl _ _) 2⟩
  · have v11 : vi < 11 := by omega
    have t1 : w.cell? ⟨A + 2, vi, none⟩ = some (.pointer none) := by
      refine (KT2.cell vi).trans ((tabC_at _ v11).trans ?_)
      unfold updV fT
      rw [if_neg x8, if_neg x2]
      unfold updV
      rw [if_neg x3, if_neg x4]
      rfl
    have i0 : (0 : Int) ≤ (vi : Int) := Int.natCast_nonneg _
    have i1 : (vi : Int) < 11 := by omega
    have i2 : ((vi : Int) == 11) = false := by rw [beq_eq_false_iff_ne]; omega
    clear hm KT KV Ka KA KB KT2 KN2 K6 K7 K8 K9 h2 b0 b1 b4 b3 b2 b8 x4 x3 x2 x8 hvi
    generalize toB u = tu at *
    go_enter Tryz.func217, Tryz.ntmps217
    go_wp2
    refine wp_loop_rounds 4 ?_
    rw [rounds_succ]
    go_wp2
    go_region
    go_wp2
    rw [rounds_succ]
    go_wp2
    go_region
    go_wp2
    rw [rounds_succ]
    go_wp2
    exact bodyPost_ret (v := .tuple #[.string ⟨#[]⟩, .int .i64 0, .bool false]) (by simp [results, Tryz.results217, go_sem]) rfl ⟨rfl, below_dr (Below.refl _ _) 2⟩
/-- lookup, of a text that begins with '&'. -/
theorem lookup_any (G : Nat) (w : World) (h : GenOk w G) (t : List UInt8) (ht : t.length ≤ 1000000) : Calls Tryz.prog 217 #[ptr G, .string (toB (38 :: t)), .bool false] w fun e w' => e = .returned (sgV (sgn (38 :: t))) ∧ Below w.heap.size w w' := by
  cases t with
  | nil => exact look_none G w h
  | cons c u =>
    have hu : u.length ≤ 1000000 := by rw [List.length_cons] at ht; omega
    by_cases h108 : c = 108
    · subst h108; exact look_108 G w h u hu
    by_cases h103 : c = 103
    · subst h103; exact look_103 G w h u hu
    by_cases h97 : c = 97
    · subst h97; exact look_97 G w h u hu
    by_cases h113 : c = 113
    · subst h113; exact look_113 G w h u hu
    exact look_other G w h c h108 h103 h97 h113 u hu
end Rep
end Go.Proofs.YteopighhhcikcaaGreatDoor
