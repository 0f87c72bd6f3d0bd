/- Rows.SelectorBlanks: the law's walk. Conditions: none. -/
import Derived.Test.YthacboofbbfmlaaDoorSelO
import Derived.Test.YthacboofbbfmlaaDoorRx7Trim
namespace Go.Proofs.YthacboofbbfmlaaDoor
open Go.ChangeShapes Go.WideShapes Go.ChangeAt Go.RowKit Go.Shelf
namespace selectorBlanks
open Tok Sel
open RowG (Row)
theorem up_bt (c : UInt8) : isBt (up1 c) = isBt c := by
  have key : ∀ k : Fin 256, isBt (up1 (UInt8.ofNat k.val)) = isBt (UInt8.ofNat k.val) := by decide +kernel
  have := key ⟨c.toNat, c.toNat_lt⟩
  simpa using this
theorem up_yes (c : UInt8) (h1 : (97 : Int) ≤ (c.toNat : Int)) (h2 : (c.toNat : Int) ≤ 122) : (c.toNat : Int) - 32 = ((up1 c).toNat : Int) := by
  have key : ∀ k : Fin 256, 97 ≤ k.val → k.val ≤ 122 → (k.val : Int) - 32 = ((up1 (UInt8.ofNat k.val)).toNat : Int) := by decide +kernel
  have := key ⟨c.toNat, c.toNat_lt⟩ (by show 97 ≤ c.toNat; omega) (by show c.toNat ≤ 122; omega)
  simpa using this
theorem up_no (c : UInt8) (h : ¬((97 : Int) ≤ (c.toNat : Int) ∧ (c.toNat : Int) ≤ 122)) : up1 c = c := by
  have key : ∀ k : Fin 256, ¬(97 ≤ k.val ∧ k.val ≤ 122) → up1 (UInt8.ofNat k.val) = UInt8.ofNat k.val := by decide +kernel
  have := key ⟨c.toNat, c.toNat_lt⟩ (by show ¬(97 ≤ c.toNat ∧ c.toNat ≤ 122); omega)
  simpa using this
theorem bt_is (u : UInt8) : isBt u = (isBlank u || decide ((u.toNat : Int) = 62)) := by
  have key : ∀ k : Fin 256, isBt (UInt8.ofNat k.val) = (isBlank (UInt8.ofNat k.val) || decide (((UInt8.ofNat k.val).toNat : Int) = 62)) := by decide +kernel
  have := key ⟨u.toNat, u.toNat_lt⟩
  simpa using this
theorem exp_len (l : List UInt8) : (l.flatMap exp1).length ≤ 3 * l.length := by
  induction l with
  | nil => simp
  | cons c t ih =>
    rw [List.flatMap_cons, List.length_append, List.length_cons]
    have : (exp1 c).length ≤ 3 := by unfold exp1; split <;> simp
    omega
theorem conv1 (w : World) (u : UInt8) : (convert 40 9 (.slice (some ⟨w.heap.size, 0, none⟩) 1 1)).run Tryd.prog (w.alloc (.cells #[.int .u8 (u.toNat : Int)] 5)) = .ok (.string (toB [u])) (w.alloc (.cells #[.int .u8 (u.toNat : Int)] 5)) :=
  run_convert_bytes_back (P := Tryd.prog) (w.alloc (.cells #[.int .u8 (u.toNat : Int)] 5)) 40 9 5 ⟨w.heap.size, 0, none⟩ 1 [u] Tryd.underlying40 Tryd.underlying5 Tryd.underlying9 (fun j hj => by
    obtain rfl : j = 0 := by simp only [List.length_singleton] at hj; omega
    exact RowG.new_cells w 5 [.int .u8 (u.toNat : Int)] 0 _ rfl)
set_option maxRecDepth 100000 in
set_option maxHeartbeats 32000000 in
theorem walk (s : ByteArray) (hs : s.size ≤ 9223372036854775807) (W : World) :
    Calls Tryd.prog 4 #[.string s] W fun e w' => e = .returned (.bool true) ∧ Below W.heap.size W w' := by
  have ca := awake_any W
  by_cases hbig : 400 < s.size
  · have hbig' : (400 : Int) < (s.size : Int) := by omega
    go_enter Tryd.func4, Tryd.ntmps4
    go_wp2_with (go_at_call 7; (with_reducible refine ca.mono ?_); rintro e w1 ⟨rfl, hB1⟩)
    go_ret
    exact ⟨rfl, hB1⟩
  have hsm : decide ((400 : Int) < (s.size : Int)) = false := decide_eq_false (by omega)
  have hs4 : s.size ≤ 400 := by omega
  obtain ⟨l, hl⟩ : ∃ l, l = s.data.toList := ⟨_, rfl⟩
  have hll : l.length = s.size := by rw [hl, size_list]
  have hsl : toB l = s := by rw [hl]; rfl
  have HAT : Hid (∀ (k : Nat) (h : k < s.size), ∃ h' : k < l.length, s[k] = l[k]) := by
    intro k h
    subst hl
    exact ⟨by rw [size_list]; exact h, rfl⟩
  have cr := fun w => readX_any l (by omega) w
  have ce := fun w => readX_any (expd l) (by unfold expd; simp only [List.length_append, List.length_cons, List.length_nil]; have := exp_len l; omega) w
  rw [hsl] at cr
  rw [read_expd] at ce
  have HLL := Lib.hid hll
  clear hbig hl hll hsl
  go_enter Tryd.func4, Tryd.ntmps4
  go_wp2_with (go_at_call 7; (with_reducible refine ca.mono ?_); rintro e w1 ⟨rfl, hB1⟩)
  clear ca
  go_loopw [3, 4] (fun tv iv wr => ∃ (k : Nat) (acc : List UInt8), k ≤ s.size ∧ iv = .int .i64 k ∧ tv = .string (toB acc) ∧ Hid (acc = [10, 32] ++ (l.take k).flatMap exp1) ∧ Below W.heap.size W wr) (fun _ iv _ => s.size - (intOf iv).toNat)
  case atStart => exact ⟨0, [10, 32], Nat.zero_le _, rfl, rfl, rfl, hB1⟩
  case round =>
    obtain ⟨k, acc, hk, rfl, rfl, HA, hBr⟩ := hrel
    clear hB1
    have hal : acc.length ≤ 2000 := by
      rw [HA.out, List.length_append]
      have := exp_len (l.take k)
      rw [List.length_take] at this
      simp only [List.length_cons, List.length_nil]
      omega
    have zS : (toB acc).size = acc.length := toB_size _
    by_cases hlt : k < s.size
    · obtain ⟨h', hgs⟩ := HAT.out k hlt
      obtain ⟨c, hce⟩ : ∃ c : UInt8, l[k] = c := ⟨_, rfl⟩
      rw [hce] at hgs
      have hki : (k : Int) < (s.size : Int) := by omega
      have k0 : (0 : Int) ≤ (k : Int) := Int.natCast_nonneg _
      have HN : Hid (acc ++ exp1 c = [10, 32] ++ (l.take (k + 1)).flatMap exp1) := by
        show _ = _
        rw [HA.out, List.take_add_one, List.getElem?_eq_getElem h', hce]
        simp
      obtain ⟨u, hu⟩ : ∃ u, u = up1 c := ⟨_, rfl⟩
      have cv := conv1 wr u
      have cbl := rblank_any u wr
      have hbt : isBt u = isBt c := by rw [hu]; exact up_bt c
      rw [bt_is] at hbt
      have zu : (toB [u]).size = 1 := by rw [toB_size]; rfl
      have hBA := below_al hBr (.cells #[.int .u8 (u.toNat : Int)] 5)
      clear HA
      have HE : Hid (exp1 c = if isBt c then [32, u, 9] else [u]) := by show _ = _; rw [hu]; rfl
      generalize isBt c = B at *
      by_cases hlow : (97 : Int) ≤ (c.toNat : Int) ∧ (c.toNat : Int) ≤ 122
      · obtain ⟨l1, l2⟩ := hlow
        have hup := up_yes c l1 l2
        rw [← hu] at hup
        have hw8 : IntKind.u8.wrap ((c.toNat : Int) - 32) = (u.toNat : Int) := by
          rw [hup]
          have := u.toNat_lt
          rw [IntKind.wrap_u8]
          omega
        clear hu hce h'
        cases hb : isBlank u with
        | true =>
          rw [hb] at cbl hbt
          clear hb
          obtain rfl : B = true := by rw [← hbt]; rfl
          have hxe : exp1 c = [32, u, 9] := by rw [HE.out, ← hbt]; rfl
          rw [hxe] at HN
          have HC : Hid (toB acc ++ (ByteArray.mk #[32] ++ toB [u] ++ ByteArray.mk #[9]) = toB (acc ++ [32, u, 9])) := by
            show _ = _
            rw [show (ByteArray.mk #[32] : ByteArray) = toB [32] from rfl, show (ByteArray.mk #[9] : ByteArray) = toB [9] from rfl, toB_cat, toB_cat, toB_cat]
            rfl
          clear hxe HE hbt
          generalize toB acc = S at *
          generalize toB [u] = U at *
          go_wp2_with (go_at_call 15; (with_reducible refine cbl.mono ?_); rintro e w2 ⟨rfl, rfl⟩)
          go_roundw
          case rel => exact ⟨k + 1, acc ++ [32, u, 9], by omega, by go_num, by rw [HC.out], HN, hBA⟩
          case measure => simp [intOf]; omega
        | false =>
          rw [hb] at cbl hbt
          clear hb
          by_cases h62 : (u.toNat : Int) = 62
          · exfalso; omega
          · have h62b : ((u.toNat : Int) == 62) = false := by rw [beq_eq_false_iff_ne]; exact h62
            rw [decide_eq_false h62] at hbt
            obtain rfl : B = false := by rw [← hbt]; rfl
            have hxe : exp1 c = [u] := by rw [HE.out, ← hbt]; rfl
            rw [hxe] at HN
            have HC : Hid (toB acc ++ toB [u] = toB (acc ++ [u])) := by
              show _ = _
              rw [toB_cat]
            clear hxe HE hbt
            generalize toB acc = S at *
            generalize toB [u] = U at *
            go_wp2_with (go_at_call 15; (with_reducible refine cbl.mono ?_); rintro e w2 ⟨rfl, rfl⟩)
            go_roundw
            case rel => exact ⟨k + 1, acc ++ [u], by omega, by go_num, by rw [HC.out], HN, hBA⟩
            case measure => simp [intOf]; omega
      · have hun : u = c := by rw [hu]; exact up_no c hlow
        clear hu hce h'
        subst hun
        by_cases l1 : (97 : Int) ≤ (u.toNat : Int)
        · have l2 : ¬((u.toNat : Int) ≤ 122) := fun h => hlow ⟨l1, h⟩
          have l1n : 97 ≤ u.toNat := by omega
          have l2n : ¬(u.toNat ≤ 122) := by omega
          clear hlow
          cases hb : isBlank u with
          | true =>
            rw [hb] at cbl hbt
            clear hb
            obtain rfl : B = true := by rw [← hbt]; rfl
            have hxe : exp1 u = [32, u, 9] := by rw [HE.out, ← hbt]; rfl
            rw [hxe] at HN
            have HC : Hid (toB acc ++ (ByteArray.mk #[32] ++ toB [u] ++ ByteArray.mk #[9]) = toB (acc ++ [32, u, 9])) := by
              show _ = _
              rw [show (ByteArray.mk #[32] : ByteArray) = toB [32] from rfl, show (ByteArray.mk #[9] : ByteArray) = toB [9] from rfl, toB_cat, toB_cat, toB_cat]
              rfl
            clear hxe HE hbt
            generalize toB acc = S at *
            generalize toB [u] = U at *
            go_wp2_with (go_at_call 15; (with_reducible refine cbl.mono ?_); rintro e w2 ⟨rfl, rfl⟩)
            go_roundw
            case rel => exact ⟨k + 1, acc ++ [32, u, 9], by omega, by go_num, by rw [HC.out], HN, hBA⟩
            case measure => simp [intOf]; omega
          | false =>
            rw [hb] at cbl hbt
            clear hb
            by_cases h62 : (u.toNat : Int) = 62
            · exfalso; omega
            · have h62b : ((u.toNat : Int) == 62) = false := by rw [beq_eq_false_iff_ne]; exact h62
              rw [decide_eq_false h62] at hbt
              obtain rfl : B = false := by rw [← hbt]; rfl
              have hxe : exp1 u = [u] := by rw [HE.out, ← hbt]; rfl
              rw [hxe] at HN
              have HC : Hid (toB acc ++ toB [u] = toB (acc ++ [u])) := by
                show _ = _
                rw [toB_cat]
              clear hxe HE hbt
              generalize toB acc = S at *
              generalize toB [u] = U at *
              go_wp2_with (go_at_call 15; (with_reducible refine cbl.mono ?_); rintro e w2 ⟨rfl, rfl⟩)
              go_roundw
              case rel => exact ⟨k + 1, acc ++ [u], by omega, by go_num, by rw [HC.out], HN, hBA⟩
              case measure => simp [intOf]; omega
        · have l1n : ¬(97 ≤ u.toNat) := by omega
          clear hlow
          cases hb : isBlank u with
          | true =>
            rw [hb] at cbl hbt
            clear hb
            obtain rfl : B = true := by rw [← hbt]; rfl
            have hxe : exp1 u = [32, u, 9] := by rw [HE.out, ← hbt]; rfl
            rw [hxe] at HN
            have HC : Hid (toB acc ++ (ByteArray.mk #[32] ++ toB [u] ++ ByteArray.mk #[9]) = toB (acc ++ [32, u, 9])) := by
              show _ = _
              rw [show (ByteArray.mk #[32] : ByteArray) = toB [32] from rfl, show (ByteArray.mk #[9] : ByteArray) = toB [9] from rfl, toB_cat, toB_cat, toB_cat]
              rfl
            clear hxe HE hbt
            generalize toB acc = S at *
            generalize toB [u] = U at *
            go_wp2_with (go_at_call 15; (with_reducible refine cbl.mono ?_); rintro e w2 ⟨rfl, rfl⟩)
            go_roundw
            case rel => exact ⟨k + 1, acc ++ [32, u, 9], by omega, by go_num, by rw [HC.out], HN, hBA⟩
            case measure => simp [intOf]; omega
          | false =>
            rw [hb] at cbl hbt
            clear hb
            by_cases h62 : (u.toNat : Int) = 62
            · have h62b : ((u.toNat : Int) == 62) = true := by rw [beq_iff_eq]; exact h62
              rw [decide_eq_true h62] at hbt
              obtain rfl : B = true := by rw [← hbt]; rfl
              rw [h62] at cbl cv hBA
              have hxe : exp1 u = [32, u, 9] := by rw [HE.out, ← hbt]; rfl
              rw [hxe] at HN
              have HC : Hid (toB acc ++ (ByteArray.mk #[32] ++ toB [u] ++ ByteArray.mk #[9]) = toB (acc ++ [32, u, 9])) := by
                show _ = _
                rw [show (ByteArray.mk #[32] : ByteArray) = toB [32] from rfl, show (ByteArray.mk #[9] : ByteArray) = toB [9] from rfl, toB_cat, toB_cat, toB_cat]
                rfl
              clear hxe HE hbt
              generalize toB acc = S at *
              generalize toB [u] = U at *
              go_wp2_with (go_at_call 15; (with_reducible refine cbl.mono ?_); rintro e w2 ⟨rfl, rfl⟩)
              go_roundw
              case rel => exact ⟨k + 1, acc ++ [32, u, 9], by omega, by go_num, by rw [HC.out], HN, hBA⟩
              case measure => simp [intOf]; omega
            · have h62b : ((u.toNat : Int) == 62) = false := by rw [beq_eq_false_iff_ne]; exact h62
              rw [decide_eq_false h62] at hbt
              obtain rfl : B = false := by rw [← hbt]; rfl
              have hxe : exp1 u = [u] := by rw [HE.out, ← hbt]; rfl
              rw [hxe] at HN
              have HC : Hid (toB acc ++ toB [u] = toB (acc ++ [u])) := by
                show _ = _
                rw [toB_cat]
              clear hxe HE hbt
              generalize toB acc = S at *
              generalize toB [u] = U at *
              go_wp2_with (go_at_call 15; (with_reducible refine cbl.mono ?_); rintro e w2 ⟨rfl, rfl⟩)
              go_roundw
              case rel => exact ⟨k + 1, acc ++ [u], by omega, by go_num, by rw [HC.out], HN, hBA⟩
              case measure => simp [intOf]; omega
    · obtain rfl : k = s.size := by omega
      have HX : Hid (acc ++ [32] = expd l) := by
        show _ = _
        rw [HA.out, List.take_of_length_le (by rw [HLL.out]; exact Nat.le_refl _)]
        rfl
      have HC : Hid (toB acc ++ ByteArray.mk #[32] = toB (expd l)) := by
        show _ = _
        rw [show (ByteArray.mk #[32] : ByteArray) = toB [32] from rfl, toB_cat, HX.out]
      rw [← HC.out] at ce
      generalize toB acc = S at *
      obtain ⟨f1, f2, f3, f4⟩ := sel_few l
      generalize hxx : selOf (Sel.readP l) = x at *
      generalize hbb : (Sel.readP l).isSome = bb at *
      have hbeq : (bb == bb) = true := by cases bb <;> rfl
      clear HX HC HA hxx hbb HAT HLL
      go_wp2_with (first
        | (go_at_call 10; (first
            | ((with_reducible refine (cr _).mono ?_); rintro e w3 ⟨⟨A, _, c, K, _, d, rfl, hX, rfl, rfl⟩, hb3⟩
               have K6 := (Blk.new w3 25 #[.slice A x.parts.length c, .slice K x.close.length d])
               have hA3 := below_al (Below.refl w3.heap.size w3) (.cells #[.slice A x.parts.length c, .slice K x.close.length d] 25)
               have hX3 := hX.below hA3 hA3.size
               have hB3 := below_next (below_next hBr hb3) hA3)
            | ((with_reducible refine (ce _).mono ?_); rintro e w4 ⟨⟨A', _, c', K', _, d', rfl, hY, rfl, rfl⟩, hb4⟩
               have hA4 := below_al hb4 (.cells #[.slice A' x.parts.length c', .slice K' x.close.length d'] 25)
               have hA5 := below_al (Below.refl w4.heap.size w4) (.cells #[.slice A' x.parts.length c', .slice K' x.close.length d'] 25)
               obtain ⟨z0, z1⟩ := blk2 (K6.next hA4)
               obtain ⟨z2, z3⟩ := blk2 (Blk.new w4 25 #[.slice A' x.parts.length c', .slice K' x.close.length d'])
               obtain ⟨p1, p2⟩ := hX3.below hA4 hA4.size
               obtain ⟨p3, p4⟩ := hY.below hA5 hA5.size
               have cs := same_any A K A' K' x.parts.length c x.close.length d x.parts.length c' x.close.length d' x x (by omega) (by omega) f3 _ p1 p3 p2 p4
               rw [decide_eq_true (show x = x from rfl)] at cs
               have hB4 := below_next hB3 hA4)))
        | (go_at_call 13; (with_reducible refine cs.mono ?_); rintro e w5 ⟨rfl, hb5⟩))
      go_ret
      exact ⟨rfl, below_next hB4 hb5⟩
end selectorBlanks
end Go.Proofs.YthacboofbbfmlaaDoor
