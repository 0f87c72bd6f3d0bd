/- What the landed package flex's (*sharer).round and Share answer. Conditions: the list lies in memory as it is read. -/
import Derived.Test.YtnjnkcjhhgffjaaFlexG
import Derived.Deep.LoopGhost
namespace Go.Proofs.Ytnjnkcjhhgffjaa
open Go.ChangeShapes Go.WideShapes Go.ChangeAt Go.RowKit
theorem zip_snd {L : List FIt} {F : List Bool} (h : F.length = L.length) : (L.zip F).map (·.2) = F := by
  rw [← List.unzip_snd, List.unzip_zip (by omega)]
theorem next_zip (lack D : Int) (L : List FIt) (F : List Bool) : nextF lack D (L.zip F) = L.zip ((L.zip F).map (iceF lack D)) := by
  unfold nextF
  induction L generalizing F with
  | nil => rfl
  | cons x L ih =>
    cases F with
    | nil => rfl
    | cons b F => simp only [List.zip_cons_cons, List.map_cons, ih]
theorem roundF_grow {room : Int} {P : List FP} (c : Bool) (h : 0 ≤ restN room P) : roundF room P c =
    (P.map (growF (restN room P) (allF FIt.g P)), P, (((c || !restOk room P) || !shareOkF (restN room P) (allF FIt.g P) FIt.g P) || !growOk (restN room P) (allF FIt.g P) P), false) := by unfold roundF; exact if_pos h
theorem roundF_less {room : Int} {P : List FP} (c : Bool) (h : ¬ 0 ≤ restN room P) : roundF room P c =
    (P.map (sizeF (-restN room P) (allF FIt.s P)), nextF (-restN room P) (allF FIt.s P) P, (((c || !restOk room P) || !shareOkF (-restN room P) (allF FIt.s P) FIt.s P) || !lessOk (-restN room P) (allF FIt.s P) P), anyF (-restN room P) (allF FIt.s P) P) := by unfold roundF; exact if_neg h
set_option maxHeartbeats 8000000 in
set_option maxRecDepth 100000 in
theorem round_grow {g : Nat} {c : Bool} {A : Option Addr} {n cI : Nat} {room : Int} {gz gf : Nat} {L : List FIt} {Z : List Int} {F : List Bool} (E : Nat) (w : World) (h : ShS w g c A n cI room gz gf L Z F) (hn : n ≤ 100) (hfit : ∀ x ∈ L, x.fit) (hZF : ∀ k : Nat, F[k]? = some true → Z[k]? = some 0) (hE : E ≤ g) (hEz : E ≤ gz) (hEw : E ≤ w.heap.size) (h0 : 0 ≤ restN room (L.zip F)) :
    Calls Try.prog 43 #[.pointer (some ⟨g, 0, none⟩)] w fun e w' => e = .returned (.bool false) ∧
      ShS w' g (((c || !restOk room (L.zip F)) || !shareOkF (restN room (L.zip F)) (allF FIt.g (L.zip F)) FIt.g (L.zip F)) || !growOk (restN room (L.zip F)) (allF FIt.g (L.zip F)) (L.zip F)) A n cI room gz gf L ((L.zip F).map (growF (restN room (L.zip F)) (allF FIt.g (L.zip F)))) F ∧ Below E w w' := by
  have c1 := rest_any E w h hn hE hEw
  have c2 := fun w1 (h1 : ShS w1 g (c || !restOk room (L.zip F)) A n cI room gz gf L Z F) (hs : E ≤ w1.heap.size) => grow_any E (restN room (L.zip F)) w1 h1 hn hfit hZF hE hEz hs
  generalize restN room (L.zip F) = R at *
  go_enter Try.func43, Try.ntmps43
  go_wp2_with (first
    | (go_at_call 63; (with_reducible refine c1.mono ?_); rintro e w1 ⟨rfl, h1, hB1⟩
       have hs1 : E ≤ w1.heap.size := Nat.le_trans hEw hB1.size
       have c3 := c2 w1 h1 hs1)
    | (go_at_call 65; (with_reducible refine c3.mono ?_); rintro e w2 ⟨rfl, h2, hB2⟩))
  go_ret
  exact ⟨rfl, h2, hB1.trans hB2⟩
set_option maxHeartbeats 8000000 in
set_option maxRecDepth 100000 in
theorem round_less {g : Nat} {c : Bool} {A : Option Addr} {n cI : Nat} {room : Int} {gz gf : Nat} {L : List FIt} {Z : List Int} {F : List Bool} (E : Nat) (w : World) (h : ShS w g c A n cI room gz gf L Z F) (hn : n ≤ 100) (hfit : ∀ x ∈ L, x.fit) (hZF : ∀ k : Nat, F[k]? = some true → Z[k]? = some 0) (hE : E ≤ g) (hEz : E ≤ gz) (hEf : E ≤ gf) (hEw : E ≤ w.heap.size) (h0 : ¬ 0 ≤ restN room (L.zip F)) :
    Calls Try.prog 43 #[.pointer (some ⟨g, 0, none⟩)] w fun e w' => e = .returned (.bool (anyF (-restN room (L.zip F)) (allF FIt.s (L.zip F)) (L.zip F))) ∧
      ShS w' g (((c || !restOk room (L.zip F)) || !shareOkF (-restN room (L.zip F)) (allF FIt.s (L.zip F)) FIt.s (L.zip F)) || !lessOk (-restN room (L.zip F)) (allF FIt.s (L.zip F)) (L.zip F)) A n cI room gz gf L ((L.zip F).map (sizeF (-restN room (L.zip F)) (allF FIt.s (L.zip F)))) ((L.zip F).map (iceF (-restN room (L.zip F)) (allF FIt.s (L.zip F)))) ∧ Below E w w' := by
  have c1 := rest_any E w h hn hE hEw
  have c2 := fun w1 (h1 : ShS w1 g (c || !restOk room (L.zip F)) A n cI room gz gf L Z F) (hs : E ≤ w1.heap.size) => shrink_any E (-restN room (L.zip F)) w1 h1 hn hfit hZF hE hEz hEf hs
  have hlo : -1099511627776 ≤ restN room (L.zip F) := cl_lo _
  generalize restN room (L.zip F) = R at *
  have hR : IntKind.i64.wrap (-R) = -R := by rw [IntKind.wrap_i64]; omega
  go_enter Try.func43, Try.ntmps43
  go_wp2_with (first
    | (go_at_call 63; (with_reducible refine c1.mono ?_); rintro e w1 ⟨rfl, h1, hB1⟩
       have hs1 : E ≤ w1.heap.size := Nat.le_trans hEw hB1.size
       have c3 := c2 w1 h1 hs1)
    | (go_at_call 64; (with_reducible refine c3.mono ?_); rintro e w2 ⟨rfl, h2, hB2⟩))
  go_ret
  exact ⟨rfl, h2, hB1.trans hB2⟩
/-- One round, whichever it is: what is returned, and what the sharer holds then. -/
theorem round_any {g : Nat} {c : Bool} {A : Option Addr} {n cI : Nat} {room : Int} {gz gf : Nat} {L : List FIt} {Z : List Int} {F : List Bool} (E : Nat) (w : World) (h : ShS w g c A n cI room gz gf L Z F) (hn : n ≤ 100) (hfit : ∀ x ∈ L, x.fit) (hZF : ∀ k : Nat, F[k]? = some true → Z[k]? = some 0) (hE : E ≤ g) (hEz : E ≤ gz) (hEf : E ≤ gf) (hEw : E ≤ w.heap.size) :
    Calls Try.prog 43 #[.pointer (some ⟨g, 0, none⟩)] w fun e w' => ∃ F', e = .returned (.bool (roundF room (L.zip F) c).2.2.2) ∧ (roundF room (L.zip F) c).2.1 = L.zip F' ∧
      ShS w' g (roundF room (L.zip F) c).2.2.1 A n cI room gz gf L (roundF room (L.zip F) c).1 F' ∧ (∀ k : Nat, F'[k]? = some true → (roundF room (L.zip F) c).1[k]? = some 0) ∧ Below E w w' := by
  by_cases h0 : 0 ≤ restN room (L.zip F)
  · refine (round_grow E w h hn hfit hZF hE hEz hEw h0).mono fun e w' ⟨he, hs, hb⟩ => ?_
    rw [roundF_grow c h0]
    refine ⟨F, he, rfl, hs, fun k hk => ?_, hb⟩
    have hkl := (List.getElem?_eq_some_iff.1 hk).1
    obtain ⟨x, hx⟩ : ∃ x, L[k]? = some x := ⟨L[k]'(by rw [h.len]; have := h.lf; omega), List.getElem?_eq_getElem _⟩
    simp only [List.getElem?_map, zip_at hx hk, Option.map_some, growF_true]
  · refine (round_less E w h hn hfit hZF hE hEz hEf hEw h0).mono fun e w' ⟨he, hs, hb⟩ => ?_
    rw [roundF_less c h0]
    refine ⟨_, he, next_zip _ _ _ _, hs, fun k hk => ?_, hb⟩
    rw [List.getElem?_map] at hk ⊢
    cases hp : (L.zip F)[k]? with
    | none => rw [hp] at hk; cases hk
    | some p =>
      rw [hp] at hk
      simp only [Option.map_some, Option.some.injEq] at hk ⊢
      unfold sizeF
      split
      · rfl
      · rename_i hb2
        unfold iceF at hk
        have hb2 : p.2 = false := by simpa using hb2
        rw [hb2, Bool.false_or] at hk
        have := of_decide_eq_true hk
        omega
end Go.Proofs.Ytnjnkcjhhgffjaa
