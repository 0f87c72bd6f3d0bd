/- Rows.SheetBackSaid: the row's step. Conditions: none beyond the row's own. -/
import Derived.Test.YtdfcahdipalmkaaGreatDoorSheetBack
import Derived.Test.YtdfcahdipalmkaaGreatDoorShtT
import Derived.Test.YtdfcahdipalmkaaGreatDoorOpenU
import Derived.Test.YtdfcahdipalmkaaGreatDoorTie
import Derived.Test.YtdfcahdipalmkaaGreatDoorCards
import Derived.Test.YtdfcahdipalmkaaGreatDoorOpenS
import Derived.WalkLawsBesides
import Derived.ChangeMaps5
namespace Go.Proofs.YtdfcahdipalmkaaGreatDoor
open Go.ChangeShapes Go.WideShapes Go.ChangeAt Go.RowKit
namespace sheetBack
/-! ### the row's step -/
theorem own : ownKnob Tryz.prog.godebug = none := by kernel_rfl
theorem laidOut : laidOutB Tryz.prog = true := by kernel_rfl
theorem rec_rules : Tryz.prog.readableRec 22 = true ∧ 22 < Tryz.prog.types.size := ⟨by kernel_rfl, of_decide_eq_true (by kernel_rfl)⟩
theorem rec_string : Tryz.prog.readableRec 9 = true ∧ 9 < Tryz.prog.types.size := ⟨by kernel_rfl, of_decide_eq_true (by kernel_rfl)⟩
theorem cells_rul : Tryz.prog.cellsOf 65 = 2 := by kernel_rfl
theorem cells_slr : Tryz.prog.cellsOf 68 = 2 := by kernel_rfl
theorem cells_sim : Tryz.prog.cellsOf 70 = 5 := by kernel_rfl
theorem cells_strx : Tryz.prog.cellsOf 9 = 1 := by kernel_rfl
theorem cells_boolx : Tryz.prog.cellsOf 4 = 1 := by kernel_rfl
theorem cells_dcl : Tryz.prog.cellsOf 54 = 4 := by kernel_rfl
theorem cells_intx : Tryz.prog.cellsOf 3 = 1 := by kernel_rfl
theorem cells_valx : Tryz.prog.cellsOf 52 = 2 := by kernel_rfl
theorem cells_i64x : Tryz.prog.cellsOf 2 = 1 := by kernel_rfl
theorem bytes_rul : Tryz.prog.bytesOf 65 = 48 := by kernel_rfl
theorem bytes_slr : Tryz.prog.bytesOf 68 = 48 := by kernel_rfl
theorem bytes_sim : Tryz.prog.bytesOf 70 = 72 := by kernel_rfl
theorem bytes_strx : Tryz.prog.bytesOf 9 = 16 := by kernel_rfl
theorem bytes_dcl : Tryz.prog.bytesOf 54 = 32 := by kernel_rfl
end sheetBack
end Go.Proofs.YtdfcahdipalmkaaGreatDoor
