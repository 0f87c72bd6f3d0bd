/- What the landed package flex's Share answers. Conditions: the list lies in memory as it is read. -/
import Derived.Test.YtnjnkcjhhgffjaaFlexH
namespace Go.Proofs.Ytnjnkcjhhgffjaa
open Go.ChangeShapes Go.WideShapes Go.ChangeAt Go.RowKit
/-- What is left to do, and what it comes to. -/
def ToDo (room : Int) (L : List FIt) (k : Nat) (F : List Bool) (c : Bool) (R : List Int × Bool) : Prop := freeF (L.zip F) < k ∧ roundsF room k (L.zip F) c = R
theorem todo_more {room : Int} {L : List FIt} {k : Nat} {F F' : List Bool} {c : Bool} {R : List Int × Bool} (h : ToDo room L k F c R) (hm : (roundF room (L.zip F) c).2.2.2 = true) (hF : (roundF room (L.zip F) c).2.1 = L.zip F') :
    ∃ k', k = k' + 1 ∧ ToDo room L k' F' (roundF room (L.zip F) c).2.2.1 R := by
  obtain ⟨h1, h2⟩ := h
  cases k with
  | zero => omega
  | succ k =>
    refine ⟨k, rfl, ?_, ?_⟩
    · have hn : ¬ 0 ≤ restN room (L.zip F) := by
        intro h0
        rw [roundF_grow c h0] at hm
        cases hm
      rw [roundF_less c hn] at hm hF
      have h3 := free_next hm
      rw [← hF]
      show freeF (nextF (-restN room (L.zip F)) (allF FIt.s (L.zip F)) (L.zip F)) < k
      omega
    · rw [← h2, ← hF]
      show _ = if (roundF room (L.zip F) c).2.2.2 = true then _ else _
      rw [if_pos hm]
theorem todo_done {room : Int} {L : List FIt} {k : Nat} {F : List Bool} {c : Bool} {R : List Int × Bool} (h : ToDo room L k F c R) (hm : (roundF room (L.zip F) c).2.2.2 = false) :
    R = ((roundF room (L.zip F) c).1, (roundF room (L.zip F) c).2.2.1) := by
  obtain ⟨h1, h2⟩ := h
  cases k with
  | zero => omega
  | succ k =>
    rw [← h2]
    show (if (roundF room (L.zip F) c).2.2.2 = true then _ else _) = _
    rw [hm]
    rfl
theorem zip_init (l : List FIt) : l.map (fun x => (x.cnt, false)) = (l.map FIt.cnt).zip (List.replicate l.length false) := by
  induction l with
  | nil => rfl
  | cons x l ih => simp only [List.map_cons, List.length_cons, List.replicate_succ, List.zip_cons_cons, ih]
set_option maxHeartbeats 8000000 in
set_option maxRecDepth 100000 in
theorem share_any (A : Option Addr) (n c : Nat) (l : List FIt) (room : Int) (w : World) (hr : Reads w w.heap.size 4 A n (flatF l)) :
    Calls Try.prog 21 #[.slice A n c, .int .i64 room] w fun e w' => ∃ (A' : Option Addr) (c' : Nat), e = .returned (.tuple #[.slice A' (shareL l room).1.length c', .bool (shareL l room).2]) ∧
      Reads w' w'.heap.size 1 A' (shareL l room).1.length ((shareL l room).1.map (Value.int .i64)) ∧ Below w.heap.size w w' := by
  have hlen : l.length = n := by have := hr.1; rw [flatF_len] at this; omega
  by_cases hn : n ≤ 100
  · have HR : ∃ R, R = roundsF room (l.length + 1) (l.map fun x => (x.cnt, false)) false := ⟨_, rfl⟩
    obtain ⟨R, HR⟩ := HR
    have hS : shareL l room = (R.1, !R.2) := by
      unfold shareL
      rw [if_neg (by omega), ← HR]
    have HR1 : R.1.length = n := by
      rw [HR, rounds_len _ _ _ _ (by have := free_le (l.map fun x => (x.cnt, false)); rw [List.length_map] at this; omega), List.length_map, hlen]
    rw [zip_init] at HR
    rw [hS]
    have HT : Hid (ToDo room (l.map FIt.cnt) (n + 1) (List.replicate n false) false R) := by
      refine Lib.hid ⟨?_, ?_⟩
      · have := free_le ((l.map FIt.cnt).zip (List.replicate n false))
        rw [List.length_zip, List.length_map, List.length_replicate] at this
        omega
      · rw [HR, hlen]
    have HL := Lib.hid HR1
    clear HR HR1 hS
    have hfit : ∀ x ∈ l.map FIt.cnt, x.fit := fun x hx => by
      obtain ⟨y, _, rfl⟩ := List.mem_map.1 hx
      exact y.cnt_fit
    have c0 := sharer_any A n c l room w hr hn
    generalize l.map FIt.cnt = L at *
    have hn' : ¬ (100 : Int) < (n : Int) := by omega
    clear hlen hr
    go_enter Try.func21, Try.ntmps21
    go_wp2_with (go_at_call 42; (with_reducible refine c0.mono ?_); rintro e w1 ⟨g, gz, gf, A', cI, rfl, h1, hB1, hg, hgz, hgf⟩)
    clear c0
    go_loopg [14] (n + 1) (fun k _ wr => ∃ (Z : List Int) (F : List Bool) (c : Bool), ShS wr g c A' n cI room gz gf L Z F ∧ Hid (∀ k : Nat, F[k]? = some true → Z[k]? = some 0) ∧ Hid (ToDo room L k F c R) ∧ Below w.heap.size w wr)
    case atStart => exact ⟨_, _, _, h1, Lib.hid (fun k hk => by rw [List.getElem?_replicate] at hk; split at hk <;> simp at hk), HT, hB1⟩
    case round =>
      obtain ⟨Z, F, cc, hs, HZ, HD, hBr⟩ := hrel
      clear h1 hB1
      have c1 := round_any w.heap.size wr hs hn hfit HZ.out hg hgz hgf hBr.size
      cases hm : (roundF room (L.zip F) cc).2.2.2
      · have HE := Lib.hid (todo_done HD.out hm)
        rw [hm] at c1
        clear hm
        generalize (roundF room (L.zip F) cc).1 = Z1 at *
        generalize (roundF room (L.zip F) cc).2.2.1 = cc1 at *
        go_wp2_with (go_at_call 43; (with_reducible refine c1.mono ?_); rintro e w2 ⟨F', rfl, hF', h2, hZ2, hB2⟩
                     have HF' := Lib.hid hF'
                     have HZ2 := Lib.hid hZ2
                     clear hF' hZ2)
        have q0 : w2.cell? ⟨g, 0, none⟩ = some (.bool cc1) := h2.hG.cell 0
        have q3 : w2.cell? ⟨g, 3, none⟩ = some (.slice (some ⟨gz, 0, none⟩) n n) := h2.hG.cell 3
        go_region
        all_goals
          go_wp2
          go_ret2
          rw [HE.out]
          refine ⟨some ⟨gz, 0, none⟩, n, ?_, ?_, (hBr.trans hB2).drew⟩
          · show _ = Ending.returned (.tuple #[.slice (some ⟨gz, 0, none⟩) Z1.length n, .bool (!cc1)])
            rw [h2.lz]
            rfl
          · have := reads_blk (size := 1) (n := n) (B := w2.heap.size) h2.hZ h2.hZ.lt (by unfold ints; simp; exact h2.lz)
            show Reads w2.drew w2.drew.heap.size 1 (some ⟨gz, 0, none⟩) Z1.length (Z1.map (Value.int .i64))
            rw [h2.lz]
            exact this.drew
      · have HE := fun F' hF => todo_more (F' := F') HD.out hm hF
        have HE := Lib.hid HE
        rw [hm] at c1
        clear hm
        go_wp2_with (go_at_call 43; (with_reducible refine c1.mono ?_); rintro e w2 ⟨F', rfl, hF', h2, hZ2, hB2⟩
                     have HF' := Lib.hid (HE.out F' hF')
                     have HZ2 := Lib.hid hZ2
                     clear hF' hZ2)
        obtain ⟨k', hk', hT'⟩ := HF'.out
        go_roundg k'
        case measure => omega
        case rel => exact ⟨_, _, _, h2, HZ2, Lib.hid hT', hBr.trans hB2⟩
  · have hS : shareL l room = ([], false) := by unfold shareL; exact if_pos (by omega)
    rw [hS]
    have hn' : (100 : Int) < (n : Int) := by omega
    clear hS hn hlen
    go_enter Try.func21, Try.ntmps21
    go_wp2
    go_ret2
    exact ⟨none, 0, rfl, Reads.none_, Below.refl _ _⟩
end Go.Proofs.Ytnjnkcjhhgffjaa
