/-
  No cell of these rows narrows 'for every input' (looked for: loops, veiled, ifaces, maps, wideKeys, modest, calm, conditions, laid).
  DERIVED. THE GIVEN ROWS OF THIS SEAT. 3 by the template 'for every input the law returns true; each argument reads behind the call as it read before'; 0 by the template 'total and deterministic' (their statements: YtibpjfeghpmoiaaTotals.lean).
  GIVEN WITH THE SEED: the statements are not yours to turn. If you find one false, say at which input.
  Laid BY PROGRAM, IN A SANDBOX (cutbox-rows.mjs): the forced cells as the released guide's own fill.sh prints them over the translation 11904def41c045c3… (all of the seat's roots in one cut). By AI agents, Wed Nov 11 2026. No macro, syntax, notation, axiom, sorry.
-/
import Derived.Test.YtibpjfeghpmoiaaChecked
import GoSem.Claim
import GoSem.ClaimJoined
import GoSem.ClaimMapViews
import Derived.JoinedTies
import Derived.KernelRfl
namespace Go.Proofs.Ytibpjfeghpmoiaa
/- THE CELL 'sum', in the pinned program and in every row, IS THE sha256 OF THE DUMP (.gsa) THAT YtibpjfeghpmoiaaProg.lean LOADS. Nothing in Lean hashes anything: it is a label: what it is worth is what the hold of that sum in a sandbox is worth. -/
noncomputable def Try.pinned : Pinned := { name := "ytibpjfeghpmoiaa", sum := "11904def41c045c30e12c411a87dc9fec346296a9c66634165fde88a9bc90ae2", checked := Try.checked }
namespace Rows
def none {H : Type} : Left H := { results := [], args := [] }

/-- 'scrimlaw13.ResTells': WHATEVER THE INPUT: true; the input reads as it did. -/
def resTellsSpec : ChangeSpec := { name := "resTells", fn := fun _ => fun
  | [d1, d2, d3] => { results := [.lit (.bool true)], args := [d1, d2, d3] }
  | _ => none }
def resTellsRow : OpenClaim := { program := "ytibpjfeghpmoiaa", sum := "11904def41c045c30e12c411a87dc9fec346296a9c66634165fde88a9bc90ae2", func := "scrim/scrimlaw13.ResTells", spec := "resTells", unfollowed := true, recurses := true, apart := false }
def ResTellsSaid : Prop := resTellsRow.holds Try.pinned (OpenSpec.ofChange resTellsSpec)

/-- ITS FALSE NEIGHBOUR: 'it returns false'. Refute it at one input. -/
def resTellsWrong : ChangeSpec := { name := "resTells", fn := fun _ => fun
  | [d1, d2, d3] => { results := [.lit (.bool false)], args := [d1, d2, d3] }
  | _ => none }
def ResTellsWrongFalsely : Prop := resTellsRow.holds Try.pinned (OpenSpec.ofChange resTellsWrong)

/-- 'scrimlaw13.ResHides': WHATEVER THE INPUT: true; the input reads as it did. -/
def resHidesSpec : ChangeSpec := { name := "resHides", fn := fun _ => fun
  | [d1, d2, d3] => { results := [.lit (.bool true)], args := [d1, d2, d3] }
  | _ => none }
def resHidesRow : OpenClaim := { program := "ytibpjfeghpmoiaa", sum := "11904def41c045c30e12c411a87dc9fec346296a9c66634165fde88a9bc90ae2", func := "scrim/scrimlaw13.ResHides", spec := "resHides", unfollowed := true, recurses := true, apart := false }
def ResHidesSaid : Prop := resHidesRow.holds Try.pinned (OpenSpec.ofChange resHidesSpec)

/-- ITS FALSE NEIGHBOUR: 'it returns false'. Refute it at one input. -/
def resHidesWrong : ChangeSpec := { name := "resHides", fn := fun _ => fun
  | [d1, d2, d3] => { results := [.lit (.bool false)], args := [d1, d2, d3] }
  | _ => none }
def ResHidesWrongFalsely : Prop := resHidesRow.holds Try.pinned (OpenSpec.ofChange resHidesWrong)

/-- 'scrimlaw13.ResTurned': WHATEVER THE INPUT: true; the input reads as it did. -/
def resTurnedSpec : ChangeSpec := { name := "resTurned", fn := fun _ => fun
  | [d1, d2, d3] => { results := [.lit (.bool true)], args := [d1, d2, d3] }
  | _ => none }
def resTurnedRow : OpenClaim := { program := "ytibpjfeghpmoiaa", sum := "11904def41c045c30e12c411a87dc9fec346296a9c66634165fde88a9bc90ae2", func := "scrim/scrimlaw13.ResTurned", spec := "resTurned", unfollowed := true, recurses := true, apart := false }
def ResTurnedSaid : Prop := resTurnedRow.holds Try.pinned (OpenSpec.ofChange resTurnedSpec)

/-- ITS FALSE NEIGHBOUR: 'it returns false'. Refute it at one input. -/
def resTurnedWrong : ChangeSpec := { name := "resTurned", fn := fun _ => fun
  | [d1, d2, d3] => { results := [.lit (.bool false)], args := [d1, d2, d3] }
  | _ => none }
def ResTurnedWrongFalsely : Prop := resTurnedRow.holds Try.pinned (OpenSpec.ofChange resTurnedWrong)

/- THE SECOND FORM. 'bulk': how many values and letters a reading holds, each counted each time it is reached (what is shared counts as often as it is met; a slice's spare places count too). A statement '..UptoSaid' is the law's where the arguments, and the package variables that the reading takes, are together of bulk at most 1048576: NARROWER than '..Said'. Prove '..Said' where nothing that the law and all that it calls make is longer than what came in: it says more and counts as full. Else prove '..UptoSaid'. A law counts once. -/
mutual
def uptoBulk {H : Type} : DataW H → Nat
  | .lit (.string bytes) => bytes.length + 1
  | .lit _ => 1
  | .nil => 1
  | .ptr d => uptoBulk d + 1
  | .slice elems spare => uptoBulkAll elems + uptoBulkAll spare + 1
  | .agg parts => uptoBulkAll parts + 1
  | .iface _ d => uptoBulk d + 1
  | .map entries => uptoBulkEntries entries + 1
  | .held _ => 1
def uptoBulkAll {H : Type} : List (DataW H) → Nat
  | [] => 0
  | d :: r => uptoBulk d + uptoBulkAll r
def uptoBulkEntries {H : Type} : List (Lit × DataW H) → Nat
  | [] => 0
  | x :: r => uptoBulkEntry x + uptoBulkEntries r
def uptoBulkEntry {H : Type} : Lit × DataW H → Nat
  | (.string bytes, d) => bytes.length + uptoBulk d + 1
  | (_, d) => uptoBulk d + 1
 end
def uptoSmall : (H : Type) → List (DataW H) → Bool := fun _ ds => decide (uptoBulkAll ds ≤ 1048576)
def OpenSpec.upto (s : _root_.Go.ChangeSpec) : _root_.Go.OpenSpec := { _root_.Go.OpenSpec.ofChange s with cond := some uptoSmall }

/-- 'scrimlaw13.ResTells', WHERE WHAT IT READS IS OF BULK AT MOST 1048576: true; the input reads as it did. -/
def resTellsUptoRow : OpenClaim := { program := "ytibpjfeghpmoiaa", sum := "11904def41c045c30e12c411a87dc9fec346296a9c66634165fde88a9bc90ae2", func := "scrim/scrimlaw13.ResTells", spec := "resTells", unfollowed := true, recurses := true, apart := false, narrowed := true }
def ResTellsUptoSaid : Prop := resTellsUptoRow.holds Try.pinned (OpenSpec.upto resTellsSpec)

/-- 'scrimlaw13.ResHides', WHERE WHAT IT READS IS OF BULK AT MOST 1048576: true; the input reads as it did. -/
def resHidesUptoRow : OpenClaim := { program := "ytibpjfeghpmoiaa", sum := "11904def41c045c30e12c411a87dc9fec346296a9c66634165fde88a9bc90ae2", func := "scrim/scrimlaw13.ResHides", spec := "resHides", unfollowed := true, recurses := true, apart := false, narrowed := true }
def ResHidesUptoSaid : Prop := resHidesUptoRow.holds Try.pinned (OpenSpec.upto resHidesSpec)

/-- 'scrimlaw13.ResTurned', WHERE WHAT IT READS IS OF BULK AT MOST 1048576: true; the input reads as it did. -/
def resTurnedUptoRow : OpenClaim := { program := "ytibpjfeghpmoiaa", sum := "11904def41c045c30e12c411a87dc9fec346296a9c66634165fde88a9bc90ae2", func := "scrim/scrimlaw13.ResTurned", spec := "resTurned", unfollowed := true, recurses := true, apart := false, narrowed := true }
def ResTurnedUptoSaid : Prop := resTurnedUptoRow.holds Try.pinned (OpenSpec.upto resTurnedSpec)

end Rows
end Go.Proofs.Ytibpjfeghpmoiaa
