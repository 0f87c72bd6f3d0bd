/- token's readName, readBegin, readEnd, readValue, readAttr over bytes that lie in memory. Conditions: the bytes lie in memory, and are not too many. -/
import Derived.Test.YthacboofbbfmlaaGreatDoorTokA
import Derived.Test.YthacboofbbfmlaaGreatDoorTokMath3
import Derived.Test.YthacboofbbfmlaaGreatDoorRepK
import Derived.Lib.Case
namespace Go.Proofs.YthacboofbbfmlaaGreatDoor
open Go.ChangeShapes Go.WideShapes Go.ChangeAt Go.RowKit
namespace Tok
open Rep (tellL)
/-- A slice value: bytes in block g. -/
def LfV (w : World) (g : Nat) (v : Value) (l : List UInt8) : Prop := ∃ o c, v = .slice (some ⟨g, o, none⟩) l.length c ∧ l.length ≤ c ∧ Lf w g o l
theorem LfV.next {w w' : World} {g : Nat} {v : Value} {l : List UInt8} (h : LfV w g v l) (hb : Below w.heap.size w w') : LfV w' g v l := by
  obtain ⟨o, c, h1, h2, h3⟩ := h
  exact ⟨o, c, h1, h2, h3.next hb⟩
/-- What readName and readBegin answer. -/
def NmV (w : World) (g : Nat) (x : Option (List UInt8 × List UInt8)) (e : Ending) : Prop := match x with
  | none => e = .returned (.tuple #[.string ⟨#[]⟩, .slice none 0 0, .bool false])
  | some (n, r) => ∃ v, e = .returned (.tuple #[.string (toB n), v, .bool true]) ∧ LfV w g v r
/-- What readEnd answers. -/
def EnV (w : World) (g : Nat) (x : Option (List UInt8)) (e : Ending) : Prop := match x with
  | none => e = .returned (.tuple #[.slice none 0 0, .bool false])
  | some r => ∃ v, e = .returned (.tuple #[v, .bool true]) ∧ LfV w g v r
theorem lowerB_lowC (l : List UInt8) : Lib.toLowerA l = lowL l := by
  unfold Lib.toLowerA lowL
  congr 1
  funext c
  unfold Lib.lowerB lowC Lib.isUpperB
  by_cases h : 65 ≤ c ∧ c ≤ 90
  · rw [if_pos h, if_pos (by simp [h])]
  · rw [if_neg h, if_neg (by simpa using h)]
theorem inNm_ascii (k : Nat) (c : UInt8) : inNm k c = true → c.toNat < 128 := by
  have : ∀ c : Fin 256, (isL (UInt8.ofNat c.val) || isN (UInt8.ofNat c.val)) = true → c.val < 128 := by decide +kernel
  intro h
  have h2 := this ⟨c.toNat, c.toNat_lt⟩
  simp only [UInt8.ofNat_toNat] at h2
  apply h2
  unfold inNm at h
  rw [Bool.or_eq_true] at h ⊢
  rcases h with h | h
  · exact .inl h
  · rw [Bool.and_eq_true] at h; exact .inr h.2
theorem behindV {w : World} {g : Nat} {v : Value} {l : List UInt8} (h : LfV w g v l) (n : Nat) (hn : n ≤ l.length) : Calls Tryz.prog 82 #[v, .int .i64 n] w fun e w' => (∃ v', e = .returned v' ∧ LfV w' g v' (l.drop n)) ∧ w = w' := by
  obtain ⟨o, c, rfl, hc, hL⟩ := h
  refine (behind_any g o l c n hn hc w hL).mono fun e w' h => ?_
  obtain ⟨⟨o', rfl, h2⟩, rfl⟩ := h
  exact ⟨⟨_, rfl, o', _, rfl, Nat.le_refl _, h2⟩, rfl⟩
/-- The text of the first n bytes. -/
theorem textV {w : World} {g o : Nat} {l : List UInt8} (h : Lf w g o l) (n cap : Nat) (hn : n ≤ l.length) : (convert 70 9 (.slice (some ⟨g, o, none⟩) n cap)).run Tryz.prog w = .ok (.string (toB (l.take n))) w := by
  have hz : (l.take n).length = n := by rw [List.length_take]; omega
  have := run_convert_bytes_back (P := Tryz.prog) w 70 9 5 ⟨g, o, none⟩ cap (l.take n) Tryz.underlying70 Tryz.underlying5 Tryz.underlying9 (fun j hj => by
    have hj' : j < l.length := by omega
    have h2 := h.at_ hj'
    rw [List.getElem_take]
    unfold Addr.add
    split
    · rename_i e; subst e; exact h2
    · exact h2)
  rw [hz] at this
  exact this
set_option maxRecDepth 100000 in
theorem cut_run (g o N cap n : Nat) (hn : n ≤ N) (hc : N ≤ cap) (w : World) : (Instr.slice 70 (.slice (some ⟨g, o, none⟩) N cap) none (some (.int .i64 n)) none).run Tryz.prog w = .ok (.slice (some ⟨g, o, none⟩) n cap) w := by
  have h1 := run_slice_h (P := Tryz.prog) (w := w) (t := 70) (a := some ⟨g, o, none⟩) (len := N) (cap := cap) Tryz.underlying70 .i64 n (by omega) (by omega)
  have hs : ∀ w, (sizeOf (Tryz.prog.elem 70)).run Tryz.prog w = .ok 1 w := fun w => by kernel_rfl
  rw [h1, hs]
  simp [Result.andThen, sliced, Addr.add]
set_option maxRecDepth 100000 in
set_option maxHeartbeats 4000000 in
theorem readName_any (g : Nat) (v : Value) (l : List UInt8) (hl : l.length ≤ maxLen) (w : World) (h : LfV w g v l) :
    Calls Tryz.prog 68 #[v] w fun e w' => NmV w' g (nameP l) e ∧ Below w.heap.size w w' := by
  obtain ⟨o, cap, rfl, hc, hL⟩ := h
  have c1 := countName_any g o l cap hl w hL
  clear hl
  have n0 : (0 : Int) ≤ (nm l : Int) := Int.natCast_nonneg _
  have hle := nm_le l
  by_cases hz : nm l = 0 ∨ 20 < nm l
  · have hP : nameP l = none := by unfold nameP; rw [if_pos hz]
    rw [hP]
    show Calls _ _ _ _ (fun e w' => e = _ ∧ _)
    rcases hz with hz | hz
    · rw [hz] at c1
      clear hz n0 hle hP
      go_enter Tryz.func68, Tryz.ntmps68
      go_wp2_with (go_at_call 80; (with_reducible refine c1.mono ?_); rintro e w' ⟨rfl, rfl⟩)
      go_ret3
      exact ⟨rfl, Below.refl _ _⟩
    · have z1 : ((nm l : Int) == 0) = false := by rw [beq_eq_false_iff_ne]; omega
      have z2 : (20 : Int) < (nm l : Int) := by omega
      clear hz hP
      go_enter Tryz.func68, Tryz.ntmps68
      go_wp2_with (go_at_call 80; (with_reducible refine c1.mono ?_); rintro e w' ⟨rfl, rfl⟩)
      go_ret3
      exact ⟨rfl, Below.refl _ _⟩
  · have hP : nameP l = some (lowL (l.take (nm l)), l.drop (nm l)) := by unfold nameP; rw [if_neg hz]
    rw [hP]
    have c2 := fun w (h : LfV w g (.slice (some ⟨g, o, none⟩) l.length cap) l) => behindV h (nm l) hle
    have hcut := fun w => cut_run g o l.length cap (nm l) hle hc w
    have htx := textV hL (nm l) cap hle
    have c3 := fun w => Tryz.strings_ToLower_ascii (toB (l.take (nm l))) w (by rw [toB_size, List.length_take]; omega) (by
      intro j b hb
      have hj : j < (l.take (nm l)).length := (List.getElem?_eq_some_iff.1 hb).1
      have e : (l.take (nm l))[j] = b := (List.getElem?_eq_some_iff.1 hb).2
      rw [List.getElem_take] at e
      rw [List.length_take] at hj
      have := nm_at l j (by omega)
      rw [e] at this
      exact inNm_ascii j b this)
    rw [show (toB (l.take (nm l))).data.toList = l.take (nm l) from rfl, lowerB_lowC] at c3
    generalize nm l = m at *
    have z1 : ((m : Int) == 0) = false := by rw [beq_eq_false_iff_ne]; omega
    have z2 : decide ((20 : Int) < (m : Int)) = false := decide_eq_false (by omega)
    generalize toB (l.take m) = tx at *
    obtain ⟨low, hlow⟩ : ∃ low, low = lowL (l.take m) := ⟨_, rfl⟩
    rw [← hlow] at c3 ⊢
    obtain ⟨rest, hrest⟩ : ∃ rest, rest = l.drop m := ⟨_, rfl⟩
    rw [← hrest] at c2 ⊢
    clear hlow hrest hP hz hle
    go_enter Tryz.func68, Tryz.ntmps68
    go_wp2_with (first
      | (go_at_call 80; (with_reducible refine c1.mono ?_); rintro e w' ⟨rfl, rfl⟩)
      | (go_at_call 81; (with_reducible refine (c3 _).mono ?_); rintro e w2 ⟨rfl, hb⟩
         have hL2 : LfV w2 g (.slice (some ⟨g, o, none⟩) l.length cap) l := ⟨o, cap, rfl, hc, hL.next hb⟩)
      | (go_at_call 82; (with_reducible refine (c2 _ hL2).mono ?_); rintro e w3 ⟨⟨v3, rfl, hv3⟩, rfl⟩))
    go_ret3
    exact ⟨⟨v3, rfl, hv3⟩, hb⟩
theorem run_bytes (p : List UInt8) (w : World) : ∃ w1 c, (convert 9 70 (.string (toB p))).run Tryz.prog w = .ok (.slice (some ⟨w.heap.size, 0, none⟩) p.length c) w1 ∧ p.length ≤ c ∧ Lf w1 w.heap.size 0 p ∧ Below w.heap.size w w1 ∧ w1.heap.size = w.heap.size + 1 := by
  have h := run_bytes_of_string (P := Tryz.prog) w 9 70 5 (toB p) Tryz.underlying9 Tryz.underlying70 Tryz.underlying5
  rw [toB_size] at h
  refine ⟨_, _, h, ?_, ⟨?_, ?_⟩, ?_, ?_⟩
  · rw [← toB_size p]; exact grownCap_ge _ _ _ _
  · rw [size_al]; exact Nat.lt_succ_self _
  · intro j c hc
    have hj : j < p.length := (List.getElem?_eq_some_iff.1 hc).1
    have hj' : j < (toB p).size := by rw [toB_size]; exact hj
    rw [Nat.zero_add]
    refine (World.cell?_alloc_mark w.drew _ _ _ j).trans ?_
    rw [bytesRow_at (toB p) _ j hj']
    have : (toB p).data[j] = c := by
      have := (List.getElem?_eq_some_iff.1 hc).2
      simpa [toB] using this
    rw [this]
    rfl
  · exact below_al (Below.refl _ _).drew _
  · rw [size_al]; rfl
end Tok
end Go.Proofs.YthacboofbbfmlaaGreatDoor
