/-
  DERIVED. GIVEN WITH THE SEED: THE CARDS: each row of YteopighhhcikcaaGreatDoorRows.lean that lists a variable, with what it lists TIED to the program's text (the seventh form; the later family's looks); each row that meets fmt, with fmt's text TOLD by the authors' own Lean function (tested against real Go, not proved from fmt's source: count such statements apart). THE CARD IS WHAT COUNTS. Prove the row's statement (the work); the ties are given (YteopighhhcikcaaGreatDoorTie.lean); close each card by the builder's one call (the guide's Derived/Test/ToyasCard.lean, 'card_holds'). Laid BY PROGRAM, IN A SANDBOX (cutbox-door.mjs). By AI agents, Wed Nov 11 2026. No macro, syntax, notation, axiom, sorry.
-/
import Derived.Test.YteopighhhcikcaaGreatDoorRows
import GoSem.ClaimSeven
namespace Go.Proofs.YteopighhhcikcaaGreatDoor
namespace Rows

/-- THE TIED CARD OF 'scrimlaw04.TokenTells'. -/
def tokenTellsCard : Claim7 := { stood := { row := tokenTellsRow, standIns := [], harness := (true, "20ec211b225f0faa80b3cba095bba70e00a58fb418b118b30755f2d06ad29fac"), looks := true }, kinds := [], alts := [], laidByText := true, laidKinds := [.data, .pinned, .pinned], laidTests := true, laidLooks := .later }
def TokenTellsCardSaid : Prop := Claim7.holds Tryz.pinned (.plain (OpenSpec.ofChange tokenTellsSpec)) tokenTellsCard

/-- THE TIED CARD OF 'scrimlaw04.TokenSigned'. -/
def tokenSignedCard : Claim7 := { stood := { row := tokenSignedRow, standIns := [], harness := (true, "20ec211b225f0faa80b3cba095bba70e00a58fb418b118b30755f2d06ad29fac"), looks := true }, kinds := [], alts := [], laidByText := true, laidKinds := [.data, .pinned, .pinned], laidTests := true, laidLooks := .later }
def TokenSignedCardSaid : Prop := Claim7.holds Tryz.pinned (.plain (OpenSpec.ofChange tokenSignedSpec)) tokenSignedCard

/-- THE TIED CARD OF 'scrimlaw04.TokenParts'. -/
def tokenPartsCard : Claim7 := { stood := { row := tokenPartsRow, standIns := [], harness := (true, "20ec211b225f0faa80b3cba095bba70e00a58fb418b118b30755f2d06ad29fac"), looks := true }, kinds := [], alts := [], laidByText := true, laidKinds := [.data, .pinned, .pinned], laidTests := true, laidLooks := .later }
def TokenPartsCardSaid : Prop := Claim7.holds Tryz.pinned (.plain (OpenSpec.ofChange tokenPartsSpec)) tokenPartsCard

/-- THE TIED CARD OF 'scrimlaw04.TokenWritten'. -/
def tokenWrittenCard : Claim7 := { stood := { row := tokenWrittenRow, standIns := [], harness := (true, "20ec211b225f0faa80b3cba095bba70e00a58fb418b118b30755f2d06ad29fac"), looks := true }, kinds := [], alts := [], laidByText := true, laidKinds := [.data, .pinned, .pinned], laidTests := true, laidLooks := .later }
def TokenWrittenCardSaid : Prop := Claim7.holds Tryz.pinned (.plain (OpenSpec.ofChange tokenWrittenSpec)) tokenWrittenCard

/-- THE TIED CARD OF 'scrimlaw05.TreeMay'. -/
def treeMayCard : Claim7 := { stood := { row := treeMayRow, standIns := [], harness := (true, "20ec211b225f0faa80b3cba095bba70e00a58fb418b118b30755f2d06ad29fac"), looks := true }, kinds := [], alts := [], laidByText := true, laidKinds := [.data, .pinned, .pinned], laidTests := true, laidLooks := .later }
def TreeMayCardSaid : Prop := Claim7.holds Tryz.pinned (.plain (OpenSpec.ofChange treeMaySpec)) treeMayCard

/-- THE TIED CARD OF 'scrimlaw05.TreeTexts'. -/
def treeTextsCard : Claim7 := { stood := { row := treeTextsRow, standIns := [], harness := (true, "20ec211b225f0faa80b3cba095bba70e00a58fb418b118b30755f2d06ad29fac"), looks := true }, kinds := [], alts := [], laidByText := true, laidKinds := [.data, .pinned, .pinned], laidTests := true, laidLooks := .later }
def TreeTextsCardSaid : Prop := Claim7.holds Tryz.pinned (.plain (OpenSpec.ofChange treeTextsSpec)) treeTextsCard

/-- THE TIED CARD OF 'scrimlaw05.TreeClosed'. -/
def treeClosedCard : Claim7 := { stood := { row := treeClosedRow, standIns := [], harness := (true, "20ec211b225f0faa80b3cba095bba70e00a58fb418b118b30755f2d06ad29fac"), looks := true }, kinds := [], alts := [], laidByText := true, laidKinds := [.data, .pinned, .pinned], laidTests := true, laidLooks := .later }
def TreeClosedCardSaid : Prop := Claim7.holds Tryz.pinned (.plain (OpenSpec.ofChange treeClosedSpec)) treeClosedCard

/-- THE TIED CARD OF 'scrimlaw06.DomDoes'. -/
def domDoesCard : Claim7 := { stood := { row := domDoesRow, standIns := [], harness := (true, "20ec211b225f0faa80b3cba095bba70e00a58fb418b118b30755f2d06ad29fac"), looks := true }, kinds := [], alts := [], laidByText := true, laidKinds := [.data, .pinned, .pinned], laidTests := true, laidLooks := .later }
def DomDoesCardSaid : Prop := Claim7.holds Tryz.pinned (.plain (OpenSpec.ofChange domDoesSpec)) domDoesCard

/-- THE TIED CARD OF 'scrimlaw06.DomMay'. -/
def domMayCard : Claim7 := { stood := { row := domMayRow, standIns := [], harness := (true, "20ec211b225f0faa80b3cba095bba70e00a58fb418b118b30755f2d06ad29fac"), looks := true }, kinds := [], alts := [], laidByText := true, laidKinds := [.data, .pinned, .pinned], laidTests := true, laidLooks := .later }
def DomMayCardSaid : Prop := Claim7.holds Tryz.pinned (.plain (OpenSpec.ofChange domMaySpec)) domMayCard

/-- THE TIED CARD OF 'scrimlaw06.DomBack'. -/
def domBackCard : Claim7 := { stood := { row := domBackRow, standIns := [], harness := (true, "20ec211b225f0faa80b3cba095bba70e00a58fb418b118b30755f2d06ad29fac"), looks := true }, kinds := [], alts := [], laidByText := true, laidKinds := [.data, .pinned, .pinned], laidTests := true, laidLooks := .later }
def DomBackCardSaid : Prop := Claim7.holds Tryz.pinned (.plain (OpenSpec.ofChange domBackSpec)) domBackCard

/-- THE TIED CARD OF 'scrimlaw06.DomSets'. -/
def domSetsCard : Claim7 := { stood := { row := domSetsRow, standIns := [], harness := (true, "20ec211b225f0faa80b3cba095bba70e00a58fb418b118b30755f2d06ad29fac"), looks := true }, kinds := [], alts := [], laidByText := true, laidKinds := [.data, .pinned, .pinned], laidTests := true, laidLooks := .later }
def DomSetsCardSaid : Prop := Claim7.holds Tryz.pinned (.plain (OpenSpec.ofChange domSetsSpec)) domSetsCard

/-- THE TIED CARD OF 'scrimlaw06.DomLast'. -/
def domLastCard : Claim7 := { stood := { row := domLastRow, standIns := [], harness := (true, "20ec211b225f0faa80b3cba095bba70e00a58fb418b118b30755f2d06ad29fac"), looks := true }, kinds := [], alts := [], laidByText := true, laidKinds := [.data, .pinned, .pinned], laidTests := true, laidLooks := .later }
def DomLastCardSaid : Prop := Claim7.holds Tryz.pinned (.plain (OpenSpec.ofChange domLastSpec)) domLastCard

/-- THE SECOND FORM's CARD OF 'scrimlaw04.TokenTells'. -/
def tokenTellsUptoCard : Claim7 := { stood := { row := tokenTellsUptoRow, standIns := [], harness := (true, "20ec211b225f0faa80b3cba095bba70e00a58fb418b118b30755f2d06ad29fac"), looks := true }, kinds := [], alts := [], laidByText := true, laidKinds := [.data, .pinned, .pinned], laidTests := true, laidLooks := .later }
def TokenTellsUptoCardSaid : Prop := Claim7.holds Tryz.pinned (.plain (OpenSpec.upto tokenTellsSpec)) tokenTellsUptoCard

/-- THE SECOND FORM's CARD OF 'scrimlaw04.TokenSigned'. -/
def tokenSignedUptoCard : Claim7 := { stood := { row := tokenSignedUptoRow, standIns := [], harness := (true, "20ec211b225f0faa80b3cba095bba70e00a58fb418b118b30755f2d06ad29fac"), looks := true }, kinds := [], alts := [], laidByText := true, laidKinds := [.data, .pinned, .pinned], laidTests := true, laidLooks := .later }
def TokenSignedUptoCardSaid : Prop := Claim7.holds Tryz.pinned (.plain (OpenSpec.upto tokenSignedSpec)) tokenSignedUptoCard

/-- THE SECOND FORM's CARD OF 'scrimlaw04.TokenParts'. -/
def tokenPartsUptoCard : Claim7 := { stood := { row := tokenPartsUptoRow, standIns := [], harness := (true, "20ec211b225f0faa80b3cba095bba70e00a58fb418b118b30755f2d06ad29fac"), looks := true }, kinds := [], alts := [], laidByText := true, laidKinds := [.data, .pinned, .pinned], laidTests := true, laidLooks := .later }
def TokenPartsUptoCardSaid : Prop := Claim7.holds Tryz.pinned (.plain (OpenSpec.upto tokenPartsSpec)) tokenPartsUptoCard

/-- THE SECOND FORM's CARD OF 'scrimlaw04.TokenWritten'. -/
def tokenWrittenUptoCard : Claim7 := { stood := { row := tokenWrittenUptoRow, standIns := [], harness := (true, "20ec211b225f0faa80b3cba095bba70e00a58fb418b118b30755f2d06ad29fac"), looks := true }, kinds := [], alts := [], laidByText := true, laidKinds := [.data, .pinned, .pinned], laidTests := true, laidLooks := .later }
def TokenWrittenUptoCardSaid : Prop := Claim7.holds Tryz.pinned (.plain (OpenSpec.upto tokenWrittenSpec)) tokenWrittenUptoCard

/-- THE SECOND FORM's CARD OF 'scrimlaw05.TreeMay'. -/
def treeMayUptoCard : Claim7 := { stood := { row := treeMayUptoRow, standIns := [], harness := (true, "20ec211b225f0faa80b3cba095bba70e00a58fb418b118b30755f2d06ad29fac"), looks := true }, kinds := [], alts := [], laidByText := true, laidKinds := [.data, .pinned, .pinned], laidTests := true, laidLooks := .later }
def TreeMayUptoCardSaid : Prop := Claim7.holds Tryz.pinned (.plain (OpenSpec.upto treeMaySpec)) treeMayUptoCard

/-- THE SECOND FORM's CARD OF 'scrimlaw05.TreeTexts'. -/
def treeTextsUptoCard : Claim7 := { stood := { row := treeTextsUptoRow, standIns := [], harness := (true, "20ec211b225f0faa80b3cba095bba70e00a58fb418b118b30755f2d06ad29fac"), looks := true }, kinds := [], alts := [], laidByText := true, laidKinds := [.data, .pinned, .pinned], laidTests := true, laidLooks := .later }
def TreeTextsUptoCardSaid : Prop := Claim7.holds Tryz.pinned (.plain (OpenSpec.upto treeTextsSpec)) treeTextsUptoCard

/-- THE SECOND FORM's CARD OF 'scrimlaw05.TreeClosed'. -/
def treeClosedUptoCard : Claim7 := { stood := { row := treeClosedUptoRow, standIns := [], harness := (true, "20ec211b225f0faa80b3cba095bba70e00a58fb418b118b30755f2d06ad29fac"), looks := true }, kinds := [], alts := [], laidByText := true, laidKinds := [.data, .pinned, .pinned], laidTests := true, laidLooks := .later }
def TreeClosedUptoCardSaid : Prop := Claim7.holds Tryz.pinned (.plain (OpenSpec.upto treeClosedSpec)) treeClosedUptoCard

/-- THE SECOND FORM's CARD OF 'scrimlaw06.DomDoes'. -/
def domDoesUptoCard : Claim7 := { stood := { row := domDoesUptoRow, standIns := [], harness := (true, "20ec211b225f0faa80b3cba095bba70e00a58fb418b118b30755f2d06ad29fac"), looks := true }, kinds := [], alts := [], laidByText := true, laidKinds := [.data, .pinned, .pinned], laidTests := true, laidLooks := .later }
def DomDoesUptoCardSaid : Prop := Claim7.holds Tryz.pinned (.plain (OpenSpec.upto domDoesSpec)) domDoesUptoCard

/-- THE SECOND FORM's CARD OF 'scrimlaw06.DomMay'. -/
def domMayUptoCard : Claim7 := { stood := { row := domMayUptoRow, standIns := [], harness := (true, "20ec211b225f0faa80b3cba095bba70e00a58fb418b118b30755f2d06ad29fac"), looks := true }, kinds := [], alts := [], laidByText := true, laidKinds := [.data, .pinned, .pinned], laidTests := true, laidLooks := .later }
def DomMayUptoCardSaid : Prop := Claim7.holds Tryz.pinned (.plain (OpenSpec.upto domMaySpec)) domMayUptoCard

/-- THE SECOND FORM's CARD OF 'scrimlaw06.DomBack'. -/
def domBackUptoCard : Claim7 := { stood := { row := domBackUptoRow, standIns := [], harness := (true, "20ec211b225f0faa80b3cba095bba70e00a58fb418b118b30755f2d06ad29fac"), looks := true }, kinds := [], alts := [], laidByText := true, laidKinds := [.data, .pinned, .pinned], laidTests := true, laidLooks := .later }
def DomBackUptoCardSaid : Prop := Claim7.holds Tryz.pinned (.plain (OpenSpec.upto domBackSpec)) domBackUptoCard

/-- THE SECOND FORM's CARD OF 'scrimlaw06.DomSets'. -/
def domSetsUptoCard : Claim7 := { stood := { row := domSetsUptoRow, standIns := [], harness := (true, "20ec211b225f0faa80b3cba095bba70e00a58fb418b118b30755f2d06ad29fac"), looks := true }, kinds := [], alts := [], laidByText := true, laidKinds := [.data, .pinned, .pinned], laidTests := true, laidLooks := .later }
def DomSetsUptoCardSaid : Prop := Claim7.holds Tryz.pinned (.plain (OpenSpec.upto domSetsSpec)) domSetsUptoCard

/-- THE SECOND FORM's CARD OF 'scrimlaw06.DomLast'. -/
def domLastUptoCard : Claim7 := { stood := { row := domLastUptoRow, standIns := [], harness := (true, "20ec211b225f0faa80b3cba095bba70e00a58fb418b118b30755f2d06ad29fac"), looks := true }, kinds := [], alts := [], laidByText := true, laidKinds := [.data, .pinned, .pinned], laidTests := true, laidLooks := .later }
def DomLastUptoCardSaid : Prop := Claim7.holds Tryz.pinned (.plain (OpenSpec.upto domLastSpec)) domLastUptoCard
end Rows
end Go.Proofs.YteopighhhcikcaaGreatDoor
