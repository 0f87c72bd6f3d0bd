/- TokenSigned's walk: what is signed tells what it was. Conditions: none beyond the row's own. -/
import Derived.Test.YteopighhhcikcaaGreatDoorTokK
namespace Go.Proofs.YteopighhhcikcaaGreatDoor
open Go.ChangeShapes Go.WideShapes Go.ChangeAt Go.RowKit
namespace tokenSigned
open Tok
theorem not_of {q : Bool} {l : List UInt8} {k : Nat} (h : k < (signL q l).length) : ((((signL q l)[k]).toNat : Int) == 60) = false ∧ ((((signL q l)[k]).toNat : Int) == 62) = false ∧ (q = true → ((((signL q l)[k]).toNat : Int) == 34) = false) := by
  have hm := List.getElem_mem h
  have hne : ∀ d : UInt8, d ∉ signL q l → ((((signL q l)[k]).toNat : Int) == (d.toNat : Int)) = false := by
    intro d hd
    rw [beq_eq_false_iff_ne]
    intro e
    have e2 : (signL q l)[k] = d := UInt8.toNat_inj.1 (by omega)
    rw [e2] at hm
    exact hd hm
  exact ⟨hne 60 (signL_not q l 60 (.inl rfl)), hne 62 (signL_not q l 62 (.inr (.inl rfl))), fun hq => hne 34 (signL_not q l 34 (.inr (.inr ⟨rfl, hq⟩)))⟩
theorem tr_text {w : World} {B : Nat} {A : Option Addr} {x : List UInt8} (h : TR w B A 1 [⟨3, [], x, []⟩]) : ∃ ad, A = some ad ∧ w.cell? ad = some (.int .i64 3) ∧ w.cell? ⟨ad.block, ad.off + 2, none⟩ = some (.string (toB x)) := by
  obtain ⟨cs, h1, h2, h3⟩ := h
  obtain ⟨c, hc⟩ : ∃ c, cs[0]? = some c := ⟨_, List.getElem?_eq_getElem (by rw [h2]; exact Nat.lt_succ_self 0)⟩
  obtain ⟨ad, e, -, e0, -, e2, -⟩ := tok_of h1 hc
  obtain ⟨q1, -, q3, -⟩ := h3 0 _ _ hc rfl
  have e9 : ad.add (0 * 4) = ad := by simp [Addr.add]
  rw [e9] at e0 e2
  rw [q1] at e0
  rw [q3] at e2
  exact ⟨ad, e, e0, e2⟩
set_option maxRecDepth 100000 in
set_option maxHeartbeats 8000000 in
theorem walk (s : ByteArray) (_hs : s.size ≤ maxLen) (q : Bool) (w : World) : Calls Tryz.prog 4 #[.string s, .bool q] w fun e w' => e = .returned (.bool true) ∧ Below w.heap.size w w' := by
  have ca := awakeT_any w
  by_cases hl : 600 < s.size
  · have hl' : (600 : Int) < (s.size : Int) := by omega
    go_enter Tryz.func4, Tryz.ntmps4
    go_wp2_with (go_at_call 15; (with_reducible refine ca.mono ?_); rintro e w1 ⟨rfl, hB1⟩)
    go_ret
    exact ⟨rfl, hB1⟩
  · obtain ⟨l, rfl⟩ : ∃ l, s = toB l := ⟨s.data.toList, bytes_inj rfl⟩
    have hz : (toB l).size = l.length := toB_size l
    have hl1 : l.length ≤ 600 := by omega
    have hsl := signL_len q l
    have cs := fun w => Sg.sign_any l q (by omega) w
    have cr := fun w => read_any (signL q l) (by omega) w
    have ct := fun w => Rep.tell_any (signL q l) (by omega) w
    rw [tell_sign] at ct
    rw [read_sign] at cr
    have hnot := fun k h => not_of (q := q) (l := l) (k := k) h
    have hz2 : (toB (signL q l)).size = (signL q l).length := toB_size _
    have hat : ∀ (k : Nat) (h : k < (toB (signL q l)).size) (h2 : k < (signL q l).length), (toB (signL q l))[k]'h = (signL q l)[k]'h2 := fun k h h2 => rfl
    have HN := Lib.hid hnot
    have HZ := Lib.hid hz
    have HAT := Lib.hid hat
    generalize signL q l = sg at *
    obtain ⟨tx, htx⟩ : ∃ tx, tx = toB sg := ⟨_, rfl⟩
    rw [← htx] at cs cr ct hz2 HAT
    have hd : decide ((600 : Int) < ((toB l).size : Int)) = false := decide_eq_false (by omega)
    clear hnot hz hat htx hl
    go_enter Tryz.func4, Tryz.ntmps4
    go_wp2_with (first
      | (go_at_call 15; (with_reducible refine ca.mono ?_); rintro e w1 ⟨rfl, hB1⟩)
      | (go_at_call 24; (with_reducible refine (cs _).mono ?_); rintro e w2 ⟨rfl, hb2⟩
         have hB2 := below_next hB1 hb2))
    go_loop [6] (fun i => ∃ k : Nat, k ≤ sg.length ∧ i = .int .i64 k) (fun i => sg.length - (intOf i).toNat)
    case atStart => exact ⟨0, Nat.zero_le _, rfl⟩
    case round =>
      obtain ⟨k, hk, rfl⟩ := hrel
      by_cases hlt : k < sg.length
      · have hks : k < tx.size := by rw [hz2]; exact hlt
        obtain ⟨n1, n2, n3⟩ := HN.out k hlt
        have hgc := HAT.out k hks hlt
        generalize sg[k] = c at *
        cases q with
        | false =>
          clear n3
          go_wp2
          go_round
          case rel => exact ⟨k + 1, by omega, by go_num⟩
          case measure => simp [intOf]; omega
        | true =>
          have n3 := n3 rfl
          go_wp2
          go_round
          case rel => exact ⟨k + 1, by omega, by go_num⟩
          case measure => simp [intOf]; omega
      · obtain rfl : k = sg.length := by omega
        clear HN HAT
        cases l with
        | nil =>
          rw [if_pos rfl] at cr
          rw [show toB [] = ⟨#[]⟩ from rfl] at ct HZ ⊢
          go_wp2_with (first
            | (go_at_call 16; (with_reducible refine (cr _).mono ?_); rintro e w3 ⟨v, rfl, hT, hB3⟩
               obtain ⟨A3, c3, rfl, hT3⟩ := hT.tr
               have hBB := below_next hB2 hB3)
            | (go_at_call 22; (with_reducible refine (ct _).mono ?_); rintro e w4 ⟨rfl, hb4⟩))
          go_ret
          exact ⟨rfl, below_next hBB hb4⟩
        | cons c0 l0 =>
          rw [if_neg (List.cons_ne_nil _ _)] at cr
          have hne : (toB (c0 :: l0)).toList.isEmpty = false := by rw [ByteArray.toList_eq]; rfl
          have hne2 : ((toB (c0 :: l0)).toList == []) = false := by rw [ByteArray.toList_eq]; rfl
          have hne3 : (toB (c0 :: l0)).toList ≠ [] := by rw [ByteArray.toList_eq]; exact List.cons_ne_nil _ _
          go_wp2_with (first
            | (go_at_call 16; (with_reducible refine (cr _).mono ?_); rintro e w3 ⟨v, rfl, hT, hB3⟩
               obtain ⟨A3, c3, rfl, hT3⟩ := hT.tr
               have hBB := below_next hB2 hB3)
            | (go_at_call 22; (with_reducible refine (ct _).mono ?_); rintro e w4 ⟨rfl, hb4⟩
               obtain ⟨ad, rfl, e0, e2⟩ := tr_text (hT3.next hb4)))
          go_ret
          exact ⟨rfl, below_next hBB hb4⟩
end tokenSigned
end Go.Proofs.YteopighhhcikcaaGreatDoor
