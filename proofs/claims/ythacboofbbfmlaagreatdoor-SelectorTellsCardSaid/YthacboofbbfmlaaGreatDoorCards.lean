/-
  DERIVED. GIVEN WITH THE SEED: THE CARDS: each row of YthacboofbbfmlaaGreatDoorRows.lean that lists a variable, with what it lists TIED to the program's text (the seventh form; the later family's looks); each row that meets fmt, with fmt's text TOLD by the authors' own Lean function (tested against real Go, not proved from fmt's source: count such statements apart). THE CARD IS WHAT COUNTS. Prove the row's statement (the work); the ties are given (YthacboofbbfmlaaGreatDoorTie.lean); close each card by the builder's one call (the guide's Derived/Test/ToyasCard.lean, 'card_holds'). Laid BY PROGRAM, IN A SANDBOX (cutbox-door.mjs). By AI agents, Wed Nov 11 2026. No macro, syntax, notation, axiom, sorry.
-/
import Derived.Test.YthacboofbbfmlaaGreatDoorRows
import GoSem.ClaimSeven
namespace Go.Proofs.YthacboofbbfmlaaGreatDoor
namespace Rows

/-- THE TIED CARD OF 'scrimlaw09.SelectorTells'. -/
def selectorTellsCard : Claim7 := { stood := { row := selectorTellsRow, standIns := [], harness := (true, "66ea4da8351c96ec80b093b7231e9112676f2c0266d5dc3b64924b891bd2283f"), looks := false }, kinds := [], alts := [], laidByText := true, laidKinds := [.data, .pinned, .pinned], laidTests := true, laidLooks := .later }
def SelectorTellsCardSaid : Prop := Claim7.holds Tryz.pinned (.plain (OpenSpec.ofChange selectorTellsSpec)) selectorTellsCard

/-- THE SECOND FORM's CARD OF 'scrimlaw09.SelectorTells'. -/
def selectorTellsUptoCard : Claim7 := { stood := { row := selectorTellsUptoRow, standIns := [], harness := (true, "66ea4da8351c96ec80b093b7231e9112676f2c0266d5dc3b64924b891bd2283f"), looks := false }, kinds := [], alts := [], laidByText := true, laidKinds := [.data, .pinned, .pinned], laidTests := true, laidLooks := .later }
def SelectorTellsUptoCardSaid : Prop := Claim7.holds Tryz.pinned (.plain (OpenSpec.upto selectorTellsSpec)) selectorTellsUptoCard
end Rows
end Go.Proofs.YthacboofbbfmlaaGreatDoor
