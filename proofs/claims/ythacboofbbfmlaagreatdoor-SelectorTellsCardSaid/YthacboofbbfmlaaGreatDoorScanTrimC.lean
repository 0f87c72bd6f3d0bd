/- What scan's own Trim answers. Conditions: the text is not too long. -/
import Derived.Test.YthacboofbbfmlaaGreatDoorScanLib
import Derived.Test.YthacboofbbfmlaaGreatDoorScanSpec
import Derived.Test.YthacboofbbfmlaaGreatDoorShelfB
namespace Go.Proofs.YthacboofbbfmlaaGreatDoor
open Go.ChangeShapes Go.WideShapes Go.ChangeAt Go.RowKit
theorem ascii_of {l : List UInt8} (h : l.all (fun b => decide (b.toNat < 128)) = true) : ∀ (j : Nat) b, l[j]? = some b → b.toNat < 128 := by
  intro j b hb
  exact of_decide_eq_true (List.all_eq_true.1 h b (List.mem_of_getElem? hb))
theorem trim_any : TrimC := by
  intro s w hs
  unfold mostB at hs
  have c1 := fun w => Tryz.strings_Trim_any s ⟨#[32, 9, 10, 13]⟩ w (by omega) (by decide) (ascii_of (by decide))
  have e : (⟨(Lib.trimS s.data.toList [32, 9, 10, 13]).toArray⟩ : ByteArray) = onB trimL s := by unfold onB; rw [trim_set]
  simp only [e] at c1
  clear e
  generalize onB trimL s = r at *
  go_enter Tryz.func21, Tryz.ntmps21
  go_wp2_with (go_at_call 45; (with_reducible refine (c1 _).mono ?_); rintro e w' ⟨rfl, hb⟩)
  go_ret
  exact ⟨rfl, hb⟩
end Go.Proofs.YthacboofbbfmlaaGreatDoor
