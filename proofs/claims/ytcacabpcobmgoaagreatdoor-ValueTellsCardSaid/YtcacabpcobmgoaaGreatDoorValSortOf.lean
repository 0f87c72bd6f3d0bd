/- The sort of any property, of the landed code of package value. Conditions: none. -/
import Derived.Test.YtcacabpcobmgoaaGreatDoorValTable
namespace Go.Proofs.YtcacabpcobmgoaaGreatDoor
open Go.ChangeShapes Go.WideShapes Go.ChangeAt Go.RowKit
namespace Val
def kindsT : List Int := [0, 32, 14, 14, 6, 6, 6, 6, 4, 4, 4, 4, 4, 4, 4, 4, 16, 16, 4, 32, 64, 64, 32, 32, 64, 4, 4]
def leastT : List Int := [0, 0, 0, 0, -63999999999, -63999999999, -63999999999, -63999999999, 0, 0, 0, 0, 0, 0, 0, 0, 0, 0, 0, 0, 0, 0, 0, 0, -63999999999, -63999999999, -63999999999]
def wordsT : List (List UInt8) := [[], [98, 108, 111, 99, 107, 32, 105, 110, 108, 105, 110, 101, 32, 102, 108, 101, 120, 32, 110, 111, 110, 101], [], [], [], [], [], [], [], [], [], [], [], [], [], [], [], [], [], [108, 101, 102, 116, 32, 99, 101, 110, 116, 101, 114, 32, 114, 105, 103, 104, 116], [], [], [114, 111, 119, 32, 99, 111, 108, 117, 109, 110], [115, 116, 97, 114, 116, 32, 99, 101, 110, 116, 101, 114, 32, 101, 110, 100, 32, 98, 101, 116, 119, 101, 101, 110], [], [], []]
def kindsN (p : Int) : Int := if 0 ≤ p ∧ p < 27 then kindsT.getD p.toNat 0 else 0
def leastN (p : Int) : Int := if 0 ≤ p ∧ p < 27 then leastT.getD p.toNat 0 else 0
def wordsB (p : Int) : List UInt8 := if 0 ≤ p ∧ p < 27 then wordsT.getD p.toNat [] else []
/-- A sort's cells. -/
def sortCells (p : Int) : Array Value := #[.string (toB (nameP p)), .int .i64 (kindsN p), .int .i64 (leastN p), .string (toB (wordsB p)), .int .i64 (firstP p).1, .int .i64 (firstP p).2]
set_option maxRecDepth 100000 in
theorem row_at (p : Int) (h0 : 0 ≤ p) (h1 : p < 27) (w : World) : (Instr.index 45 (.agg tableCells) (.int .i64 p)).run Tryz.prog w = .ok (.agg (sortCells p)) w := by
  obtain ⟨i, rfl⟩ : ∃ i : Nat, p = (i : Int) := ⟨p.toNat, by omega⟩
  have hi : i < 27 := by omega
  clear h0 h1
  match i, hi with
  | 0, _ =>
    show (Instr.index 45 (.agg tableCells) (.int .i64 0)).run Tryz.prog w = .ok (.agg (sortCells 0)) w
    rfl
  | 1, _ =>
    show (Instr.index 45 (.agg tableCells) (.int .i64 1)).run Tryz.prog w = .ok (.agg (sortCells 1)) w
    rfl
  | 2, _ =>
    show (Instr.index 45 (.agg tableCells) (.int .i64 2)).run Tryz.prog w = .ok (.agg (sortCells 2)) w
    rfl
  | 3, _ =>
    show (Instr.index 45 (.agg tableCells) (.int .i64 3)).run Tryz.prog w = .ok (.agg (sortCells 3)) w
    rfl
  | 4, _ =>
    show (Instr.index 45 (.agg tableCells) (.int .i64 4)).run Tryz.prog w = .ok (.agg (sortCells 4)) w
    rfl
  | 5, _ =>
    show (Instr.index 45 (.agg tableCells) (.int .i64 5)).run Tryz.prog w = .ok (.agg (sortCells 5)) w
    rfl
  | 6, _ =>
    show (Instr.index 45 (.agg tableCells) (.int .i64 6)).run Tryz.prog w = .ok (.agg (sortCells 6)) w
    rfl
  | 7, _ =>
    show (Instr.index 45 (.agg tableCells) (.int .i64 7)).run Tryz.prog w = .ok (.agg (sortCells 7)) w
    rfl
  | 8, _ =>
    show (Instr.index 45 (.agg tableCells) (.int .i64 8)).run Tryz.prog w = .ok (.agg (sortCells 8)) w
    rfl
  | 9, _ =>
    show (Instr.index 45 (.agg tableCells) (.int .i64 9)).run Tryz.prog w = .ok (.agg (sortCells 9)) w
    rfl
  | 10, _ =>
    show (Instr.index 45 (.agg tableCells) (.int .i64 10)).run Tryz.prog w = .ok (.agg (sortCells 10)) w
    rfl
  | 11, _ =>
    show (Instr.index 45 (.agg tableCells) (.int .i64 11)).run Tryz.prog w = .ok (.agg (sortCells 11)) w
    rfl
  | 12, _ =>
    show (Instr.index 45 (.agg tableCells) (.int .i64 12)).run Tryz.prog w = .ok (.agg (sortCells 12)) w
    rfl
  | 13, _ =>
    show (Instr.index 45 (.agg tableCells) (.int .i64 13)).run Tryz.prog w = .ok (.agg (sortCells 13)) w
    rfl
  | 14, _ =>
    show (Instr.index 45 (.agg tableCells) (.int .i64 14)).run Tryz.prog w = .ok (.agg (sortCells 14)) w
    rfl
  | 15, _ =>
    show (Instr.index 45 (.agg tableCells) (.int .i64 15)).run Tryz.prog w = .ok (.agg (sortCells 15)) w
    rfl
  | 16, _ =>
    show (Instr.index 45 (.agg tableCells) (.int .i64 16)).run Tryz.prog w = .ok (.agg (sortCells 16)) w
    rfl
  | 17, _ =>
    show (Instr.index 45 (.agg tableCells) (.int .i64 17)).run Tryz.prog w = .ok (.agg (sortCells 17)) w
    rfl
  | 18, _ =>
    show (Instr.index 45 (.agg tableCells) (.int .i64 18)).run Tryz.prog w = .ok (.agg (sortCells 18)) w
    rfl
  | 19, _ =>
    show (Instr.index 45 (.agg tableCells) (.int .i64 19)).run Tryz.prog w = .ok (.agg (sortCells 19)) w
    rfl
  | 20, _ =>
    show (Instr.index 45 (.agg tableCells) (.int .i64 20)).run Tryz.prog w = .ok (.agg (sortCells 20)) w
    rfl
  | 21, _ =>
    show (Instr.index 45 (.agg tableCells) (.int .i64 21)).run Tryz.prog w = .ok (.agg (sortCells 21)) w
    rfl
  | 22, _ =>
    show (Instr.index 45 (.agg tableCells) (.int .i64 22)).run Tryz.prog w = .ok (.agg (sortCells 22)) w
    rfl
  | 23, _ =>
    show (Instr.index 45 (.agg tableCells) (.int .i64 23)).run Tryz.prog w = .ok (.agg (sortCells 23)) w
    rfl
  | 24, _ =>
    show (Instr.index 45 (.agg tableCells) (.int .i64 24)).run Tryz.prog w = .ok (.agg (sortCells 24)) w
    rfl
  | 25, _ =>
    show (Instr.index 45 (.agg tableCells) (.int .i64 25)).run Tryz.prog w = .ok (.agg (sortCells 25)) w
    rfl
  | 26, _ =>
    show (Instr.index 45 (.agg tableCells) (.int .i64 26)).run Tryz.prog w = .ok (.agg (sortCells 26)) w
    rfl
  | k + 27, h => exact absurd h (by omega)
set_option maxHeartbeats 8000000 in
set_option maxRecDepth 100000 in
theorem sortOf_in (p : Int) (h0 : 0 ≤ p) (h1 : p < 27) (w : World) : Calls Tryz.prog 29 #[.int .i64 p] w fun e w' => e = .returned (.agg (sortCells p)) ∧ Below w.heap.size w w' := by
  have hx := fun w => row_at p h0 h1 w
  unfold sortCells at hx ⊢
  generalize toB (nameP p) = a1 at *
  generalize kindsN p = a2 at *
  generalize leastN p = a3 at *
  generalize toB (wordsB p) = a4 at *
  generalize (firstP p).1 = a5 at *
  generalize (firstP p).2 = a6 at *
  have hB := below_al (Below.refl w.heap.size w) (.cells #[.string ⟨#[]⟩, .int .i64 0, .int .i64 0, .string ⟨#[]⟩, .int .i64 0, .int .i64 0] 44)
  have K0 := Blk.new w 44 #[.string ⟨#[]⟩, .int .i64 0, .int .i64 0, .string ⟨#[]⟩, .int .i64 0, .int .i64 0]
  go_enter Tryz.func29, Tryz.ntmps29
  go_wp2_with (first
    | (go_at_call 28; (with_reducible refine (sorts_any _).mono ?_); rintro e w1 ⟨rfl, hb⟩
       have hB1 := below_next hB hb
       have K1 := K0.next hb
       have c0 := K1.cell 0
       have c1 := K1.cell 1
       have c2 := K1.cell 2
       have c3 := K1.cell 3
       have c4 := K1.cell 4
       have c5 := K1.cell 5
       have f0 := K1.frozen 0
       have f1 := K1.frozen 1
       have f2 := K1.frozen 2
       have f3 := K1.frozen 3
       have f4 := K1.frozen 4
       have f5 := K1.frozen 5))
  refine bodyPost_ret (v := .agg #[.string a1, .int .i64 a2, .int .i64 a3, .string a4, .int .i64 a5, .int .i64 a6]) (by simp [results, Tryz.results29, go_sem, c0, c1, c2, c3, c4, c5]) rfl ⟨rfl, ?_⟩
  repeat (first | (with_reducible refine below_set ?_ (Nat.le_refl _) _) | (with_reducible exact hB1))
set_option maxHeartbeats 4000000 in
set_option maxRecDepth 100000 in
theorem sortOf_out (p : Int) (h : p < 0 ∨ 27 ≤ p) (w : World) : Calls Tryz.prog 29 #[.int .i64 p] w fun e w' => e = .returned (.agg (sortCells p)) ∧ Below w.heap.size w w' := by
  have hn : ¬ (0 ≤ p ∧ p < 27) := by omega
  have hc : sortCells p = #[.string ⟨#[]⟩, .int .i64 0, .int .i64 0, .string ⟨#[]⟩, .int .i64 0, .int .i64 0] := by
    unfold sortCells nameP kindsN leastN wordsB
    rw [if_neg hn, if_neg hn, if_neg hn, if_neg hn, first_else (by omega)]
    rfl
  rw [hc]
  rcases h with h | h
  · have h2 : ¬ 0 ≤ p := by omega
    go_enter Tryz.func29, Tryz.ntmps29
    go_wp2
    refine bodyPost_ret (v := .agg #[.string ⟨#[]⟩, .int .i64 0, .int .i64 0, .string ⟨#[]⟩, .int .i64 0, .int .i64 0]) (by simp [results, Tryz.results29, go_sem]) rfl ⟨rfl, ?_⟩
    repeat (first | (with_reducible refine below_set ?_ (Nat.le_refl _) _) | (with_reducible refine below_al ?_ _) | (with_reducible exact Below.refl _ _))
  · have h2 : 0 ≤ p := by omega
    go_enter Tryz.func29, Tryz.ntmps29
    go_wp2
    refine bodyPost_ret (v := .agg #[.string ⟨#[]⟩, .int .i64 0, .int .i64 0, .string ⟨#[]⟩, .int .i64 0, .int .i64 0]) (by simp [results, Tryz.results29, go_sem]) rfl ⟨rfl, ?_⟩
    repeat (first | (with_reducible refine below_set ?_ (Nat.le_refl _) _) | (with_reducible refine below_al ?_ _) | (with_reducible exact Below.refl _ _))
theorem sortOf_any (p : Int) (w : World) : Calls Tryz.prog 29 #[.int .i64 p] w fun e w' => e = .returned (.agg (sortCells p)) ∧ Below w.heap.size w w' := by
  by_cases h : 0 ≤ p ∧ p < 27
  · exact sortOf_in p h.1 h.2 w
  · exact sortOf_out p (by omega) w
set_option maxRecDepth 100000 in
theorem field0 (a1 : ByteArray) (a2 a3 : Int) (a4 : ByteArray) (a5 a6 : Int) (w : World) : (Instr.field 44 (.agg #[.string a1, .int .i64 a2, .int .i64 a3, .string a4, .int .i64 a5, .int .i64 a6]) 0).run Tryz.prog w = .ok (.string a1) w := rfl
set_option maxRecDepth 100000 in
theorem field4 (a1 : ByteArray) (a2 a3 : Int) (a4 : ByteArray) (a5 a6 : Int) (w : World) : (Instr.field 44 (.agg #[.string a1, .int .i64 a2, .int .i64 a3, .string a4, .int .i64 a5, .int .i64 a6]) 4).run Tryz.prog w = .ok (.agg #[.int .i64 a5, .int .i64 a6]) w := rfl
set_option maxHeartbeats 4000000 in
set_option maxRecDepth 100000 in
theorem name_any : NameC := by
  intro p w
  have c := sortOf_any p w
  unfold sortCells at c
  have hf := fun w => field0 (toB (nameP p)) (kindsN p) (leastN p) (toB (wordsB p)) (firstP p).1 (firstP p).2 w
  generalize toB (nameP p) = a1 at *
  go_enter Tryz.func12, Tryz.ntmps12
  go_wp2_with (first
    | (go_at_call 29; (with_reducible refine c.mono ?_); rintro e w1 ⟨rfl, hb⟩))
  go_ret
  exact ⟨rfl, hb⟩
set_option maxHeartbeats 4000000 in
set_option maxRecDepth 100000 in
theorem first_any : FirstC := by
  intro p w
  have hB := below_al (Below.refl w.heap.size w) (.cells #[.int .i64 0, .int .i64 0] 23)
  have K0 := Blk.new w 23 #[.int .i64 0, .int .i64 0]
  have c := sortOf_any p (w.alloc (.cells #[.int .i64 0, .int .i64 0] 23))
  unfold sortCells at c
  unfold vV
  have hf := fun w => field4 (toB (nameP p)) (kindsN p) (leastN p) (toB (wordsB p)) (firstP p).1 (firstP p).2 w
  generalize (firstP p).1 = a5 at *
  generalize (firstP p).2 = a6 at *
  go_enter Tryz.func18, Tryz.ntmps18
  go_wp2_with (first
    | (go_at_call 29; (with_reducible refine c.mono ?_); rintro e w1 ⟨rfl, hb⟩
       have hB1 := below_next hB hb
       have K1 := K0.next hb
       have c0 := K1.cell 0
       have c1 := K1.cell 1
       have f0 := K1.frozen 0
       have f1 := K1.frozen 1))
  refine bodyPost_ret (v := .agg #[.int .i64 a5, .int .i64 a6]) (by simp [results, Tryz.results18, go_sem, c0, c1]) rfl ⟨rfl, ?_⟩
  repeat (first | (with_reducible refine below_set ?_ (Nat.le_refl _) _) | (with_reducible exact hB1))
end Val
end Go.Proofs.YtcacabpcobmgoaaGreatDoor
