/- Rows.FixedSumsSaid: whatever two lists, FixedSums returns true, and the arguments read as they did. Conditions: none beyond the row's own. -/
import Derived.Test.YtlokmmhdoocmeaaFixWithin
import Derived.Test.YtlokmmhdoocmeaaOpen
import Derived.Test.YtlokmmhdoocmeaaAppend
namespace Go.Proofs.Ytlokmmhdoocmeaa
open Go.ChangeShapes Go.WideShapes Go.ChangeAt Go.RowKit
namespace fixedSums
/-! ### the plain mathematics -/
theorem foldl_false (m : List Int) (s : Int) : (m.foldl sumStep (s, false)).2 = false := by
  induction m generalizing s with
  | nil => rfl
  | cons x m ih => exact ih _
theorem sum_exact (m : List Int) : ∀ (s : Int), -1099511627776 ≤ s → s ≤ 1099511627776 → (m.foldl sumStep (s, true)).2 = true →
    (m.foldl sumStep (s, true)).1 = s + m.sum ∧ -1099511627776 ≤ s + m.sum ∧ s + m.sum ≤ 1099511627776 := by
  induction m with
  | nil => intro s h1 h2 _; simp; omega
  | cons x m ih =>
    intro s h1 h2 h
    rw [List.foldl_cons] at h ⊢
    have e : sumStep (s, true) x = (add2 s x, addOk s x) := by unfold sumStep; simp
    rw [e] at h ⊢
    cases ho : addOk s x with
    | false => rw [ho, foldl_false] at h; cases h
    | true =>
      obtain ⟨_, _, _, _, b1, b2, b3⟩ := addOk_t ho
      rw [b3, ho] at h
      rw [b3]
      have := ih _ b1 b2 h
      rw [List.sum_cons]
      omega
theorem sumL_exact {l : List Int} (h : (sumL l).2 = true) : (sumL l).1 = l.sum ∧ -1099511627776 ≤ l.sum ∧ l.sum ≤ 1099511627776 := by
  have := sum_exact l 0 (by decide) (by decide) h
  simpa [sumL] using this
theorem sumL_prefix {l : List Int} (k : Nat) (h : (sumL l).2 = true) : (sumL (l.take k)).2 = true := by
  cases hp : (sumL (l.take k)).2 with
  | true => rfl
  | false =>
    rw [← List.take_append_drop k l] at h
    unfold sumL at h hp
    rw [List.foldl_append] at h
    have e : (l.take k).foldl sumStep (0, true) = (((l.take k).foldl sumStep (0, true)).1, false) := by rw [← hp]
    rw [e, foldl_false] at h
    cases h
theorem sums_join {l m : List Int} (h1 : (sumL l).2 = true) (h2 : (sumL m).2 = true) (h3 : (sumL (l ++ m)).2 = true) :
    add2 (sumL l).1 (sumL m).1 = (sumL (l ++ m)).1 ∧ addOk (sumL l).1 (sumL m).1 = true := by
  obtain ⟨e1, _, _⟩ := sumL_exact h1
  obtain ⟨e2, _, _⟩ := sumL_exact h2
  obtain ⟨e3, b1, b2⟩ := sumL_exact h3
  rw [List.sum_append] at e3 b1 b2
  rw [e1, e2, e3]
  have o1 : ok l.sum = true := ok_iff.2 ⟨by omega, by omega⟩
  have o2 : ok m.sum = true := ok_iff.2 ⟨by omega, by omega⟩
  have o3 : ok (l.sum + m.sum) = true := ok_iff.2 ⟨by omega, by omega⟩
  unfold add2 addOk
  rw [ok_cl o1, ok_cl o2, o1, o2, o3, ok_cl o3]
  exact ⟨rfl, rfl⟩
theorem below_alloc {w w1 : World} (h : Below w.heap.size w w1) (o : Obj) : Below w.heap.size w (w1.alloc o) := h.alloc h.size o
theorem own_ge {w w1 : World} (h : Below w.heap.size w w1) {n c k : Nat} (hk : Value.ownBlock (.slice (some ⟨w1.heap.size, 0, none⟩) n c) = some k) : w.heap.size ≤ k := by
  have : w1.heap.size = k := by simpa [Value.ownBlock] using hk
  have := h.size
  omega
theorem own_form {w : World} {base : Nat} {e : TypeId} {size : Nat} {v : Value} {n : Nat} {xs : List Value} (h : w.ownsRow base e size v n xs) : ∃ A c, v = .slice A n c := by
  rcases h.2 with ⟨rfl, rfl⟩ | ⟨g, cap, cur, rfl, _⟩
  · exact ⟨_, _, rfl⟩
  · exact ⟨_, _, rfl⟩
theorem i64_info : (Try.prog.info? 2).map (fun i => (i.zero, i.size, i.bytes)) = some (some (.int .i64 0), 1, 8) := by kernel_rfl
set_option maxHeartbeats 4000000 in
set_option maxRecDepth 100000 in
theorem walk (A : Option Addr) (n c : Nat) (l : List Int) (B : Option Addr) (m d : Nat) (l2 : List Int) (w : World) (hn : n ≤ 17592186043904) (hr : Reads w w.heap.size 1 A n (l.map (Value.int .i64)))
    (hm : m ≤ 17592186043904) (hr2 : Reads w w.heap.size 1 B m (l2.map (Value.int .i64))) :
    Calls Try.prog 7 #[.slice A n c, .slice B m d] w fun e w' => e = .returned (.bool true) ∧ Below w.heap.size w w' := by
  by_cases h5 : 500 < n + m
  · have h5' : (500 : Int) < (n : Int) + (m : Int) := by omega
    clear h5
    go_enter Try.func7, Try.ntmps7
    go_wp2_with (go_at_call 8; refine (awake_any _).mono ?_; rintro e w1 ⟨rfl, hb⟩)
    go_ret
    exact ⟨rfl, hb⟩
  have h5' : (n : Int) + (m : Int) ≤ 500 := by omega
  have h6 : n + m ≤ 500 := by omega
  clear h5
  obtain ⟨i0, hi0, hz0, hz1, hz2⟩ := info_parts i64_info
  have o1 : ∀ u ∈ l.map (Value.int .i64), u.oneCell' = true := by intro u hu; obtain ⟨x, _, rfl⟩ := List.mem_map.1 hu; rfl
  have o2 : ∀ u ∈ l2.map (Value.int .i64), u.oneCell' = true := by intro u hu; obtain ⟨x, _, rfl⟩ := List.mem_map.1 hu; rfl
  have c1 := fun w1 (hb : Below w.heap.size w w1) => sum_any A n c w.heap.size l w1 (hr.below hb) (by omega)
  have c2 := fun w1 (hb : Below w.heap.size w w1) => sum_any B m d w.heap.size l2 w1 (hr2.below hb) (by omega)
  have c3 := fun A3 d3 w1 (ho : World.ownsRow w1 w.heap.size 2 1 (.slice A3 (n + m) d3) (n + m) (l.map (Value.int .i64) ++ l2.map (Value.int .i64))) => sum_any A3 (n + m) d3 _ (l ++ l2) w1 (by have := Reads.of_own ho; rwa [← List.map_append] at this) (by omega)
  have c4 := fun w => add_any (sumL l).1 (sumL l2).1 w
  obtain ⟨k1, k2⟩ := sumL_bd l
  cases h1 : (sumL l).2 with
  | false =>
    rw [h1] at c1
    clear h1
    generalize (sumL l).1 = a at *
    generalize (sumL l2).1 = b at *
    generalize (sumL l2).2 = f at *
    generalize (sumL (l ++ l2)).1 = cc at *
    generalize (sumL (l ++ l2)).2 = g at *
    go_enter Try.func7, Try.ntmps7
    go_wp2_with (first
      | (go_at_call 8; refine (awake_any _).mono ?_; rintro e w1 ⟨rfl, hb1⟩)
      | (go_at_call 19; (with_reducible refine (c3 _ _ _ hown2).mono ?_); rintro e w' ⟨rfl, rfl⟩)
      | (go_at_call 19; (first | (with_reducible refine (c1 _ hb1).mono ?_) | (with_reducible refine (c2 _ hb1).mono ?_)); rintro e w' ⟨rfl, rfl⟩)
      | (go_at_call 11; (with_reducible refine (c4 _).mono ?_); rintro e w' ⟨rfl, rfl⟩)
      | (go_at_call 23; refine (within_t _ _ (by assumption) (by assumption)).mono ?_; rintro e w' ⟨rfl, rfl⟩)
      | (at_builtin
         refine wpList_append_any _ rfl (.tmp 35) (.tmp 36) _ rfl w.heap.size 2 i0 _ 1 8 Try.underlying22 hi0 hz0 hz1 hz2 rfl (by omega) (.slice (some ⟨w1.heap.size, 0, none⟩) 0 0) 0 [] rfl
           (World.ownsRow_made w1 #[] 0 hb1.size (Nat.zero_le _) rfl) w.heap.size A n c _ rfl ((hr.below hb1).alloc hb1.size _) o1 (by simp only [maxLen]; omega) (by omega) (below_alloc hb1 _).size ?_
         intro v1 w2 hown1 hg1 hat1
         have hb2 := (below_alloc hb1 _).grown hg1 (below_alloc hb1 _).size (fun k hk => own_ge hb1 hk))
      | (at_builtin
         refine wpList_append_any _ rfl (.tmp 37) (.tmp 38) _ rfl w.heap.size 2 i0 _ 1 8 Try.underlying22 hi0 hz0 hz1 hz2 rfl (by omega) v1 (0 + n) ([] ++ l.map (Value.int .i64)) rfl
           hown1 w.heap.size B m d _ rfl (hr2.below hb2) o2 (by simp only [maxLen]; omega) (by omega) hb2.size ?_
         intro v2 w3 hown2 hg2 hat2
         have hb3 := hb2.grown hg2 hb2.size (fun k hk => (hown1.lt k hk).1)
         rw [Nat.zero_add, List.nil_append] at hown2
         obtain ⟨A3, d3, hv3⟩ := own_form hown2
         subst hv3))
    go_ret
    exact ⟨rfl, hb3⟩
  | true =>
    obtain ⟨e1, b1, b2⟩ := sumL_exact h1
    have HP : Hid (∀ k, k < n → ∀ x, l[k]? = some x → (l.take (k + 1)).sum = (l.take k).sum + x ∧ -1099511627776 ≤ (l.take (k + 1)).sum ∧ (l.take (k + 1)).sum ≤ 1099511627776) := by
      intro k _ x hx
      obtain ⟨e, hb⟩ := sumL_exact (sumL_prefix (k + 1) h1)
      refine ⟨?_, hb⟩
      rw [List.take_add_one, hx, List.sum_append]
      simp
    have HJ : Hid ((sumL l2).2 = true → (sumL (l ++ l2)).2 = true → add2 (sumL l).1 (sumL l2).1 = (sumL (l ++ l2)).1 ∧ addOk (sumL l).1 (sumL l2).1 = true) := fun h2 h3 => sums_join h1 h2 h3
    rw [h1, e1] at c1
    rw [e1] at c4 HJ
    clear h1 e1 k1 k2
    generalize (sumL l2).1 = b at *
    generalize (sumL (l ++ l2)).1 = cc at *
    generalize add2 l.sum b = s at *
    generalize addOk l.sum b = h at *
    have HF : Hid (((sumL l2).2 = false ∨ (sumL (l ++ l2)).2 = false) ∨ ((sumL l2).2 = true ∧ (sumL (l ++ l2)).2 = true ∧ s = cc ∧ h = true)) := by
      cases h2 : (sumL l2).2 with
      | false => exact Or.inl (Or.inl rfl)
      | true =>
        cases h3 : (sumL (l ++ l2)).2 with
        | false => exact Or.inl (Or.inr rfl)
        | true => exact Or.inr ⟨rfl, rfl, HJ.out h2 h3⟩
    clear HJ
    generalize (sumL l2).2 = f at *
    generalize (sumL (l ++ l2)).2 = g at *
    obtain ⟨t, ht⟩ : ∃ t, t = l.sum := ⟨_, rfl⟩
    rw [← ht] at b1 b2 c1 c4
    have HT := Lib.hid ht
    clear ht
    have hlen : l.length = n := by have := hr.1; simpa using this
    go_enter Try.func7, Try.ntmps7
    go_wp2_with (first
      | (go_at_call 8; refine (awake_any _).mono ?_; rintro e w1 ⟨rfl, hb1⟩)
      | (go_at_call 19; (with_reducible refine (c3 _ _ _ hown2).mono ?_); rintro e w' ⟨rfl, rfl⟩)
      | (go_at_call 19; (first | (with_reducible refine (c1 _ hb1).mono ?_) | (with_reducible refine (c2 _ hb1).mono ?_)); rintro e w' ⟨rfl, rfl⟩)
      | (go_at_call 11; (with_reducible refine (c4 _).mono ?_); rintro e w' ⟨rfl, rfl⟩)
      | (go_at_call 23; refine (within_t _ _ (by assumption) (by assumption)).mono ?_; rintro e w' ⟨rfl, rfl⟩)
      | (at_builtin
         refine wpList_append_any _ rfl (.tmp 35) (.tmp 36) _ rfl w.heap.size 2 i0 _ 1 8 Try.underlying22 hi0 hz0 hz1 hz2 rfl (by omega) (.slice (some ⟨w1.heap.size, 0, none⟩) 0 0) 0 [] rfl
           (World.ownsRow_made w1 #[] 0 hb1.size (Nat.zero_le _) rfl) w.heap.size A n c _ rfl ((hr.below hb1).alloc hb1.size _) o1 (by simp only [maxLen]; omega) (by omega) (below_alloc hb1 _).size ?_
         intro v1 w2 hown1 hg1 hat1
         have hb2 := (below_alloc hb1 _).grown hg1 (below_alloc hb1 _).size (fun k hk => own_ge hb1 hk))
      | (at_builtin
         refine wpList_append_any _ rfl (.tmp 37) (.tmp 38) _ rfl w.heap.size 2 i0 _ 1 8 Try.underlying22 hi0 hz0 hz1 hz2 rfl (by omega) v1 (0 + n) ([] ++ l.map (Value.int .i64)) rfl
           hown1 w.heap.size B m d _ rfl (hr2.below hb2) o2 (by simp only [maxLen]; omega) (by omega) hb2.size ?_
         intro v2 w3 hown2 hg2 hat2
         have hb3 := hb2.grown hg2 hb2.size (fun k hk => (hown1.lt k hk).1)
         rw [Nat.zero_add, List.nil_append] at hown2
         obtain ⟨A3, d3, hv3⟩ := own_form hown2
         subst hv3))
    have hr3 := hr.below hb3
    clear hown1 hg1 hat1 hown2 hg2 hat2 hb1 hb2 c1 c2 c3 c4
    go_loop [13, 55] (fun q i => ∃ k : Nat, k ≤ n ∧ i = .int .i64 k ∧ q = .int .i64 (l.take k).sum) (fun _ i => n - (intOf i).toNat)
    case atStart => exact ⟨0, Nat.zero_le _, rfl, rfl⟩
    case round =>
      obtain ⟨k, hk, rfl, rfl⟩ := hrel
      by_cases hlt : k < n
      · obtain ⟨ad, u, rfl, hb, hx, hcell⟩ := hr3.at_ hlt
        have hkl : k < l.length := by omega
        obtain ⟨x, hxe⟩ : ∃ x, l[k]? = some x := ⟨l[k], List.getElem?_eq_getElem hkl⟩
        rw [List.getElem?_map, hxe] at hx
        obtain rfl : u = .int .i64 x := by simpa using hx.symm
        obtain ⟨p1, p2, p3⟩ := HP.out k hlt x hxe
        have HS := Lib.hid p1
        rw [p1] at p2 p3
        clear hx hxe p1
        generalize (l.take k).sum = q at *
        go_wp2
        go_round
        case rel => exact ⟨k + 1, by omega, by go_num, by rw [HS.out]⟩
        case measure => simp [intOf]; omega
      · have hq : (l.take k).sum = t := by rw [HT.out, List.take_of_length_le (by omega)]
        rw [hq]
        clear hq hr3 hr hr2
        rcases HF.out with (rfl | rfl) | ⟨rfl, rfl, rfl, rfl⟩
        · go_wp2
          go_ret
          exact ⟨rfl, hb3⟩
        · cases f
          all_goals
            go_wp2
            go_ret
            exact ⟨rfl, hb3⟩
        · go_wp2
          go_ret
          exact ⟨rfl, hb3⟩
/-! ### the row's step -/
theorem own : ownKnob Try.prog.godebug = none := by kernel_rfl
theorem laidOut : laidOutB Try.prog = true := by kernel_rfl
theorem rec_ints : Try.prog.readableRec 22 = true ∧ 22 < Try.prog.types.size := ⟨by kernel_rfl, of_decide_eq_true (by kernel_rfl)⟩
theorem cells_i64 : Try.prog.cellsOf 2 = 1 := by kernel_rfl
theorem bytes_i64 : Try.prog.bytesOf 2 = 8 := by kernel_rfl
set_option maxRecDepth 100000 in
theorem lifted (os : Os) (started : os.Started) (H : Type) (enc : TypeId × Value → H) :
    ReturnsInHanded {} Try.checked os 7 .any (Rows.fixedSumsSpec.pre6 enc Try.prog Try.f7 Rows.fixedSumsRow.domain false) (Rows.fixedSumsSpec.post enc Try.prog Try.f7 false true false false) := by
  refine law_lifted (C := Try.checked) (enc := enc) own started (by kernel_rfl) Try.func7
    (ChangeSpec.witness6 (enc := enc) (C := Try.checked) false ⟨#[], #[.slice none 0 0, .slice none 0 0], []⟩ 8 (by kernel_rfl) (by kernel_rfl) (by kernel_rfl) (by kernel_rfl))
    laidOut ?_ rfl Try.underlying4 rfl ?_ ?_
  · intro t ht
    rw [Try.params7] at ht
    simp only [List.mem_cons, List.not_mem_nil, or_false] at ht
    rcases ht with rfl | rfl
    · exact rec_ints
    · exact rec_ints
  · intro ds h
    match ds, h with
    | [d0, d1], _ => exact ⟨rfl, rfl, rfl⟩
  · intro W base args ds p hval0 hA0 hlt hsz
    have hval : ∀ (j : Nat) t v, Try.f7.params[j]? = some t → args[j]? = some v → Value.okWide Try.prog W .any base t v := hval0
    have hA : DataW.TrodAll enc Try.prog W 0 (fun _ => true) true Try.f7.params.toList args.toList ds p := hA0
    rw [Try.params7] at hA hval
    obtain ⟨v0, vs0, d0, ds0, p0, q0, hargs, rfl, rfl, h0, r0⟩ := trodAll_cons hA
    obtain ⟨v1, vs1, d1, ds1, p1, q1, rfl, rfl, rfl, h1, r1⟩ := trodAll_cons r0
    obtain ⟨rfl, rfl, rfl⟩ := trodAll_nil r1
    obtain rfl : args = #[v0, v1] := by cases args; simp_all
    obtain ⟨A0, n0, c0, l0, rfl, m0, R0, _⟩ := open_i64s Try.underlying22 Try.underlying2 cells_i64 (hval 0 22 v0 rfl rfl) h0 bytes_i64 (j := 0) hsz (by rw [Try.params7]; rfl) rfl
    obtain ⟨A1, n1, c1, l1, rfl, m1, R1, _⟩ := open_i64s Try.underlying22 Try.underlying2 cells_i64 (hval 1 22 v1 rfl rfl) h1 bytes_i64 (j := 1) hsz (by rw [Try.params7]; rfl) rfl
    exact walk A0 n0 c0 l0 A1 n1 c1 l1 W (by omega) R0 (by omega) R1
theorem over : Rows.fixedSumsRow.holds Try.pinned (OpenSpec.ofChange Rows.fixedSumsSpec) :=
  OpenClaim.holds_of_wide 7 Try.f7 rfl rfl rfl rfl rfl rfl rfl ⟨rfl, rfl, rfl, rfl, rfl⟩ rfl rfl rfl rfl rfl (by kernel_rfl) Try.func7 (by kernel_rfl)
    (of_decide_eq_true (by kernel_rfl)) (by unfold Func.isWrapper; first | (rw [if_pos (by decide +kernel)]; kernel_rfl) | (rw [if_neg (by decide +kernel)]; exact ⟨rfl, rfl⟩))
    (fun os started H enc _ => lifted os started H enc)
/-- The statement. -/
theorem proved : Rows.FixedSumsSaid := over
end fixedSums
end Go.Proofs.Ytlokmmhdoocmeaa
