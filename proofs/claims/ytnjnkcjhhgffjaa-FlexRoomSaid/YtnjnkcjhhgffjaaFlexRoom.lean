/- Rows.FlexRoomSaid: whatever items and room, FlexRoom returns true, and the arguments read as they did. Conditions: none beyond the row's own. -/
import Derived.Test.YtnjnkcjhhgffjaaFlexSmall
import Derived.Test.YtnjnkcjhhgffjaaFlexMathN
namespace Go.Proofs.Ytnjnkcjhhgffjaa
open Go.ChangeShapes Go.WideShapes Go.ChangeAt Go.RowKit
namespace flexRoom
set_option maxHeartbeats 16000000 in
set_option maxRecDepth 100000 in
theorem walk (A : Option Addr) (n c : Nat) (l : List FIt) (room : Int) (w : World) (hn : n ≤ 4611686018427387904) (hr : Reads w w.heap.size 4 A n (flatF l)) :
    Calls Try.prog 7 #[.slice A n c, .int .i64 room] w fun e w' => e = .returned (.bool true) ∧ Below w.heap.size w w' := by
  have hlen : l.length = n := by have := hr.1; rw [flatF_len] at this; omega
  have c0 := flexAwake w
  have c1 := fun (w1 : World) (h : Below w.heap.size w w1) => small_any A n c l w1 ((hr.below h).more h.size) hn
  have c2 := fun (w1 : World) (h : Below w.heap.size w w1) => share_any A n c l room w1 ((hr.below h).more h.size)
  cases hs : smallB l
  · rw [hs] at c1
    clear hs c2
    go_enter Try.func7, Try.ntmps7
    go_wp2_with (first
      | (go_at_call 20; (with_reducible refine c0.mono ?_); rintro e w1 ⟨rfl, hB1⟩)
      | (go_at_call 30; (with_reducible refine (c1 _ hB1).mono ?_); rintro e w2 ⟨rfl, hb⟩
         have hB2 := below_next hB1 hb))
    go_ret
    exact ⟨rfl, hB2⟩
  · obtain ⟨hfit, hn1⟩ := small_iff.1 hs
    rw [hs] at c1
    have hZl := share_len (room := room) hn1
    rw [hlen] at hZl
    cases he : (shareL l room).2
    · rw [he] at c2
      simp only [hZl] at c2
      clear hs hfit hZl he
      generalize (shareL l room).1 = Z at *
      go_enter Try.func7, Try.ntmps7
      go_wp2_with (first
        | (go_at_call 20; (with_reducible refine c0.mono ?_); rintro e w1 ⟨rfl, hB1⟩)
        | (go_at_call 30; (with_reducible refine (c1 _ hB1).mono ?_); rintro e w2 ⟨rfl, hb⟩
           have hB2 := below_next hB1 hb)
        | (go_at_call 21; (with_reducible refine (c2 _ hB2).mono ?_); rintro e w3 ⟨A3, c3, rfl, hr3, hb⟩
           have hB3 := below_next hB2 hb))
      go_ret
      exact ⟨rfl, hB3⟩
    · have hlaw := Lib.hid (room_law hfit hn1 he)
      obtain ⟨hroom, hz, htk, hsm⟩ := room_pack hfit hn1 he
      have HZ := Lib.hid hz
      have HTK := Lib.hid htk
      have HSM := Lib.hid hsm
      obtain ⟨hr1, hr2⟩ := hroom
      have HL := Lib.hid hlen
      have hn100 : n ≤ 100 := by rw [← hlen]; exact hn1
      rw [he] at c2
      simp only [hZl] at c2
      have HZl := Lib.hid hZl
      clear hs hfit hZl he hz htk hsm hlen hn1
      generalize (shareL l room).1 = Z at *
      go_enter Try.func7, Try.ntmps7
      go_wp2_with (first
        | (go_at_call 20; (with_reducible refine c0.mono ?_); rintro e w1 ⟨rfl, hB1⟩)
        | (go_at_call 30; (with_reducible refine (c1 _ hB1).mono ?_); rintro e w2 ⟨rfl, hb⟩
           have hB2 := below_next hB1 hb)
        | (go_at_call 21; (with_reducible refine (c2 _ hB2).mono ?_); rintro e w3 ⟨A3, c3, rfl, hr3, hb⟩
           have hB3 := below_next hB2 hb))
      have hr0 := (hr.below hB3).more hB3.size
      clear c0 c1 c2 hb hB1 hB2 hr
      go_loopw [37, 7, 8, 9, 10] (fun i sb se sz sg wr => ∃ (k q : Nat), k ≤ n ∧ i = .int .i64 k ∧ sb = .int .i64 ((l.take k).map FIt.b).sum ∧ se = .int .i64 ((l.take k).map FIt.e).sum ∧ sz = .int .i64 (Z.take k).sum ∧ sg = .int .i64 ((l.take k).map FIt.g).sum ∧ wr = w3.drewN q) (fun i _ _ _ _ _ => n - (intOf i).toNat)
      case atStart => exact ⟨0, 0, Nat.zero_le _, rfl, by simp, by simp, by simp, by simp, rfl⟩
      case round =>
        obtain ⟨k, q, hk, rfl, rfl, rfl, rfl, rfl, rfl⟩ := hrel
        have hb1 := HSM.out FIt.b (.inl rfl) k
        have he1 := HSM.out FIt.e (.inr (.inl rfl)) k
        have hg1 := HSM.out FIt.g (.inr (.inr rfl)) k
        have hz1 := HTK.out k
        by_cases hlt : k < n
        · obtain ⟨x, hx⟩ : ∃ x, l[k]? = some x := ⟨l[k]'(by rw [HL.out]; exact hlt), List.getElem?_eq_getElem _⟩
          obtain ⟨z, hz⟩ : ∃ z, Z[k]? = some z := ⟨Z[k]'(by rw [HZl.out]; exact hlt), List.getElem?_eq_getElem _⟩
          have hb2 := HSM.out FIt.b (.inl rfl) (k + 1)
          have he2 := HSM.out FIt.e (.inr (.inl rfl)) (k + 1)
          have hg2 := HSM.out FIt.g (.inr (.inr rfl)) (k + 1)
          have hz2 := HTK.out (k + 1)
          have tb := map_snoc_at FIt.b hx
          have te := map_snoc_at FIt.e hx
          have tg := map_snoc_at FIt.g hx
          have tz := sum_snoc_at hz
          rw [tb] at hb2; rw [te] at he2; rw [tg] at hg2; rw [tz] at hz2
          have TB := Lib.hid tb
          have TE := Lib.hid te
          have TG := Lib.hid tg
          have TZ := Lib.hid tz
          clear tb te tg tz
          have hz0 := HZ.out z (List.mem_of_getElem? hz)
          obtain ⟨ad, rfl, hab, e0, e1, e2, e3⟩ := it_of hr0 hx
          obtain ⟨az, u, rfl, haz, hu, hcz⟩ := hr3.at_ hlt
          obtain rfl : u = .int .i64 z := by rw [List.getElem?_map, hz] at hu; simpa using hu.symm
          have k0 : (0 : Int) ≤ (k : Int) := Int.natCast_nonneg _
          have k1 : (k : Int) < (n : Int) := by omega
          have kk := Int.toNat_natCast k
          obtain ⟨b1, b2⟩ := hb1
          obtain ⟨b3, b4⟩ := he1
          obtain ⟨b5, b6⟩ := hg1
          obtain ⟨b7, b8⟩ := hz1
          obtain ⟨b9, b10⟩ := hb2
          obtain ⟨b11, b12⟩ := he2
          obtain ⟨b13, b14⟩ := hg2
          obtain ⟨b15, b16⟩ := hz2
          clear hx hz hu hab haz
          obtain ⟨xb, xe, xg, xs⟩ := x
          simp only at *
          generalize ((l.take k).map FIt.b).sum = SB at *
          generalize ((l.take k).map FIt.e).sum = SE at *
          generalize ((l.take k).map FIt.g).sum = SG at *
          generalize (Z.take k).sum = SZ at *
          have w1 : IntKind.i64.wrap (SB + xb) = SB + xb := by rw [IntKind.wrap_i64]; omega
          have w2 : IntKind.i64.wrap (SE + xe) = SE + xe := by rw [IntKind.wrap_i64]; omega
          have w4 : IntKind.i64.wrap (SG + xg) = SG + xg := by rw [IntKind.wrap_i64]; omega
          have w5 : IntKind.i64.wrap (SZ + z) = SZ + z := by rw [IntKind.wrap_i64]; omega
          go_wp2
          go_quiet (fail)
          go_wp2
          go_roundw
          case rel => exact ⟨k + 1, q + nq, by omega, by go_num, by rw [TB.out], by rw [TE.out], by rw [TZ.out], by rw [TG.out], rfl⟩
          case measure => simp [intOf]; omega
        · obtain rfl : k = n := by omega
          have hT : l.take k = l := List.take_of_length_le (by rw [HL.out]; omega)
          have hTZ : Z.take k = Z := List.take_of_length_le (by rw [HZl.out]; omega)
          rw [hT] at hb1 he1 hg1 ⊢
          rw [hTZ] at hz1 ⊢
          clear hT hTZ
          obtain ⟨b1, b2⟩ := hb1
          obtain ⟨b3, b4⟩ := he1
          obtain ⟨b5, b6⟩ := hg1
          obtain ⟨b7, b8⟩ := hz1
          generalize hSB : (l.map FIt.b).sum = SB at *
          generalize hSE : (l.map FIt.e).sum = SE at *
          generalize hSG : (l.map FIt.g).sum = SG at *
          generalize hSZ : Z.sum = SZ at *
          clear hSB hSE hSG hSZ
          have w1 : IntKind.i64.wrap (SB + SE) = SB + SE := by rw [IntKind.wrap_i64]; omega
          have w2 : IntKind.i64.wrap (SZ + SE) = SZ + SE := by rw [IntKind.wrap_i64]; omega
          have w4 : IntKind.i64.wrap (room - (k : Int)) = room - (k : Int) := by rw [IntKind.wrap_i64]; omega
          by_cases hlk : room < SB + SE
          · obtain ⟨hp, hq⟩ := hlaw.out.1 hlk
            have HP := Lib.hid hp
            have hge : room ≤ SZ + SE := hq
            clear hp hq hlaw
            go_wp2
            go_loopw [76] (fun i wr => ∃ (j q' : Nat), j ≤ k ∧ i = .int .i64 j ∧ wr = w3.drewN q') (fun i _ => k - (intOf i).toNat)
            case atStart => exact ⟨0, q, Nat.zero_le _, rfl, rfl⟩
            case round =>
              obtain ⟨j, q', hj, rfl, rfl⟩ := hrel
              by_cases hlt2 : j < k
              · obtain ⟨x, hx⟩ : ∃ x, l[j]? = some x := ⟨l[j]'(by rw [HL.out]; exact hlt2), List.getElem?_eq_getElem _⟩
                obtain ⟨z, hz⟩ : ∃ z, Z[j]? = some z := ⟨Z[j]'(by rw [HZl.out]; exact hlt2), List.getElem?_eq_getElem _⟩
                have hzx := (HP.out j x z hx hz).2
                obtain ⟨ad, rfl, hab, e0, e1, e2, e3⟩ := it_of hr0 hx
                obtain ⟨az, u, rfl, haz, hu, hcz⟩ := hr3.at_ hlt2
                obtain rfl : u = .int .i64 z := by rw [List.getElem?_map, hz] at hu; simpa using hu.symm
                have k0 : (0 : Int) ≤ (j : Int) := Int.natCast_nonneg _
                have k1 : (j : Int) < (k : Int) := by omega
                have kk := Int.toNat_natCast j
                clear hx hz hu hab haz
                obtain ⟨xb, xe, xg, xs⟩ := x
                simp only at *
                go_wp2
                go_roundw
                case rel => exact ⟨j + 1, q', by omega, by go_num, rfl⟩
                case measure => simp [intOf]; omega
              · go_wp2
                go_ret
                exact ⟨rfl, bdn hB3 _⟩
          · obtain ⟨hp, hq, hq2⟩ := hlaw.out.2 (by omega)
            have HP := Lib.hid hp
            have hge : SZ + SE ≤ room := hq
            have hge2 : SG < 64 ∨ room - k < SZ + SE := by
              by_cases h : SG < 64
              · exact .inl h
              · exact .inr (by have := hq2 (by omega); rwa [HL.out] at this)
            clear hp hq hq2 hlaw
            go_wp2
            go_loopw [96] (fun i wr => ∃ (j q' : Nat), j ≤ k ∧ i = .int .i64 j ∧ wr = w3.drewN q') (fun i _ => k - (intOf i).toNat)
            case atStart => exact ⟨0, q, Nat.zero_le _, rfl, rfl⟩
            case round =>
              obtain ⟨j, q', hj, rfl, rfl⟩ := hrel
              by_cases hlt2 : j < k
              · obtain ⟨x, hx⟩ : ∃ x, l[j]? = some x := ⟨l[j]'(by rw [HL.out]; exact hlt2), List.getElem?_eq_getElem _⟩
                obtain ⟨z, hz⟩ : ∃ z, Z[j]? = some z := ⟨Z[j]'(by rw [HZl.out]; exact hlt2), List.getElem?_eq_getElem _⟩
                have hzx := (HP.out j x z hx hz).2
                obtain ⟨ad, rfl, hab, e0, e1, e2, e3⟩ := it_of hr0 hx
                obtain ⟨az, u, rfl, haz, hu, hcz⟩ := hr3.at_ hlt2
                obtain rfl : u = .int .i64 z := by rw [List.getElem?_map, hz] at hu; simpa using hu.symm
                have k0 : (0 : Int) ≤ (j : Int) := Int.natCast_nonneg _
                have k1 : (j : Int) < (k : Int) := by omega
                have kk := Int.toNat_natCast j
                clear hx hz hu hab haz
                obtain ⟨xb, xe, xg, xs⟩ := x
                simp only at *
                go_wp2
                go_roundw
                case rel => exact ⟨j + 1, q', by omega, by go_num, rfl⟩
                case measure => simp [intOf]; omega
              · rcases hge2 with h | h
                · go_wp2
                  go_ret
                  exact ⟨rfl, bdn hB3 _⟩
                · by_cases h64 : SG < 64
                  · go_wp2
                    go_ret
                    exact ⟨rfl, bdn hB3 _⟩
                  · go_wp2
                    go_ret
                    exact ⟨rfl, bdn hB3 _⟩
end flexRoom
end Go.Proofs.Ytnjnkcjhhgffjaa
