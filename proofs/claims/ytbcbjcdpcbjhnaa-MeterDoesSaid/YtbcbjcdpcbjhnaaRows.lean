/-
  No cell of these rows narrows 'for every input' (looked for: loops, veiled, ifaces, maps, wideKeys, modest, calm, conditions, laid).
  DERIVED. THE GIVEN ROWS OF THIS SEAT. 3 by the template 'for every input the law returns true; each argument reads behind the call as it read before'; 0 by the template 'total and deterministic' (their statements: YtbcbjcdpcbjhnaaTotals.lean).
  GIVEN WITH THE SEED: the statements are not yours to turn. If you find one false, say at which input.
  Laid BY PROGRAM, IN A SANDBOX (cutbox-rows.mjs): the forced cells as the released guide's own fill.sh prints them over the translation 24a70edf8765f4b0… (all of the seat's roots in one cut). By AI agents, Wed Nov 11 2026. No macro, syntax, notation, axiom, sorry.
-/
import Derived.Test.YtbcbjcdpcbjhnaaChecked
import GoSem.Claim
import GoSem.ClaimJoined
import GoSem.ClaimMapViews
import Derived.JoinedTies
import Derived.KernelRfl
namespace Go.Proofs.Ytbcbjcdpcbjhnaa
/- THE CELL 'sum', in the pinned program and in every row, IS THE sha256 OF THE DUMP (.gsa) THAT YtbcbjcdpcbjhnaaProg.lean LOADS. Nothing in Lean hashes anything: it is a label: what it is worth is what the hold of that sum in a sandbox is worth. -/
noncomputable def Try.pinned : Pinned := { name := "ytbcbjcdpcbjhnaa", sum := "24a70edf8765f4b09f1e385d4a9f2d46236c7b8f991afe50e97727524c6dddc4", checked := Try.checked }
namespace Rows
def none {H : Type} : Left H := { results := [], args := [] }

/-- 'scrimlaw03.MeterDoes': WHATEVER THE INPUT: true; the input reads as it did. -/
def meterDoesSpec : ChangeSpec := { name := "meterDoes", fn := fun _ => fun
  | [d1, d2, d3, d4, d5] => { results := [.lit (.bool true)], args := [d1, d2, d3, d4, d5] }
  | _ => none }
def meterDoesRow : OpenClaim := { program := "ytbcbjcdpcbjhnaa", sum := "24a70edf8765f4b09f1e385d4a9f2d46236c7b8f991afe50e97727524c6dddc4", func := "scrim/scrimlaw03.MeterDoes", spec := "meterDoes", unfollowed := true, recurses := true, apart := false }
def MeterDoesSaid : Prop := meterDoesRow.holds Try.pinned (OpenSpec.ofChange meterDoesSpec)

/-- ITS FALSE NEIGHBOUR: 'it returns false'. Refute it at one input. -/
def meterDoesWrong : ChangeSpec := { name := "meterDoes", fn := fun _ => fun
  | [d1, d2, d3, d4, d5] => { results := [.lit (.bool false)], args := [d1, d2, d3, d4, d5] }
  | _ => none }
def MeterDoesWrongFalsely : Prop := meterDoesRow.holds Try.pinned (OpenSpec.ofChange meterDoesWrong)

/-- 'scrimlaw18.FlexTells': WHATEVER THE INPUT: true; the input reads as it did. -/
def flexTellsSpec : ChangeSpec := { name := "flexTells", fn := fun _ => fun
  | [d1, d2, d3, d4] => { results := [.lit (.bool true)], args := [d1, d2, d3, d4] }
  | _ => none }
def flexTellsRow : OpenClaim := { program := "ytbcbjcdpcbjhnaa", sum := "24a70edf8765f4b09f1e385d4a9f2d46236c7b8f991afe50e97727524c6dddc4", func := "scrim/scrimlaw18.FlexTells", spec := "flexTells", unfollowed := true, recurses := true, apart := false }
def FlexTellsSaid : Prop := flexTellsRow.holds Try.pinned (OpenSpec.ofChange flexTellsSpec)

/-- ITS FALSE NEIGHBOUR: 'it returns false'. Refute it at one input. -/
def flexTellsWrong : ChangeSpec := { name := "flexTells", fn := fun _ => fun
  | [d1, d2, d3, d4] => { results := [.lit (.bool false)], args := [d1, d2, d3, d4] }
  | _ => none }
def FlexTellsWrongFalsely : Prop := flexTellsRow.holds Try.pinned (OpenSpec.ofChange flexTellsWrong)

/-- 'scrimlaw18.FlexOrder': WHATEVER THE INPUT: true; the input reads as it did. -/
def flexOrderSpec : ChangeSpec := { name := "flexOrder", fn := fun _ => fun
  | [d] => { results := [.lit (.bool true)], args := [d] }
  | _ => none }
def flexOrderRow : OpenClaim := { program := "ytbcbjcdpcbjhnaa", sum := "24a70edf8765f4b09f1e385d4a9f2d46236c7b8f991afe50e97727524c6dddc4", func := "scrim/scrimlaw18.FlexOrder", spec := "flexOrder", unfollowed := true, recurses := true, apart := false }
def FlexOrderSaid : Prop := flexOrderRow.holds Try.pinned (OpenSpec.ofChange flexOrderSpec)

/-- ITS FALSE NEIGHBOUR: 'it returns false'. Refute it at one input. -/
def flexOrderWrong : ChangeSpec := { name := "flexOrder", fn := fun _ => fun
  | [d] => { results := [.lit (.bool false)], args := [d] }
  | _ => none }
def FlexOrderWrongFalsely : Prop := flexOrderRow.holds Try.pinned (OpenSpec.ofChange flexOrderWrong)

/- THE SECOND FORM. 'bulk': how many values and letters a reading holds, each counted each time it is reached (what is shared counts as often as it is met; a slice's spare places count too). A statement '..UptoSaid' is the law's where the arguments, and the package variables that the reading takes, are together of bulk at most 1048576: NARROWER than '..Said'. Prove '..Said' where nothing that the law and all that it calls make is longer than what came in: it says more and counts as full. Else prove '..UptoSaid'. A law counts once. -/
mutual
def uptoBulk {H : Type} : DataW H → Nat
  | .lit (.string bytes) => bytes.length + 1
  | .lit _ => 1
  | .nil => 1
  | .ptr d => uptoBulk d + 1
  | .slice elems spare => uptoBulkAll elems + uptoBulkAll spare + 1
  | .agg parts => uptoBulkAll parts + 1
  | .iface _ d => uptoBulk d + 1
  | .map entries => uptoBulkEntries entries + 1
  | .held _ => 1
def uptoBulkAll {H : Type} : List (DataW H) → Nat
  | [] => 0
  | d :: r => uptoBulk d + uptoBulkAll r
def uptoBulkEntries {H : Type} : List (Lit × DataW H) → Nat
  | [] => 0
  | x :: r => uptoBulkEntry x + uptoBulkEntries r
def uptoBulkEntry {H : Type} : Lit × DataW H → Nat
  | (.string bytes, d) => bytes.length + uptoBulk d + 1
  | (_, d) => uptoBulk d + 1
 end
def uptoSmall : (H : Type) → List (DataW H) → Bool := fun _ ds => decide (uptoBulkAll ds ≤ 1048576)
def OpenSpec.upto (s : _root_.Go.ChangeSpec) : _root_.Go.OpenSpec := { _root_.Go.OpenSpec.ofChange s with cond := some uptoSmall }

/-- 'scrimlaw03.MeterDoes', WHERE WHAT IT READS IS OF BULK AT MOST 1048576: true; the input reads as it did. -/
def meterDoesUptoRow : OpenClaim := { program := "ytbcbjcdpcbjhnaa", sum := "24a70edf8765f4b09f1e385d4a9f2d46236c7b8f991afe50e97727524c6dddc4", func := "scrim/scrimlaw03.MeterDoes", spec := "meterDoes", unfollowed := true, recurses := true, apart := false, narrowed := true }
def MeterDoesUptoSaid : Prop := meterDoesUptoRow.holds Try.pinned (OpenSpec.upto meterDoesSpec)

/-- 'scrimlaw18.FlexTells', WHERE WHAT IT READS IS OF BULK AT MOST 1048576: true; the input reads as it did. -/
def flexTellsUptoRow : OpenClaim := { program := "ytbcbjcdpcbjhnaa", sum := "24a70edf8765f4b09f1e385d4a9f2d46236c7b8f991afe50e97727524c6dddc4", func := "scrim/scrimlaw18.FlexTells", spec := "flexTells", unfollowed := true, recurses := true, apart := false, narrowed := true }
def FlexTellsUptoSaid : Prop := flexTellsUptoRow.holds Try.pinned (OpenSpec.upto flexTellsSpec)

/-- 'scrimlaw18.FlexOrder', WHERE WHAT IT READS IS OF BULK AT MOST 1048576: true; the input reads as it did. -/
def flexOrderUptoRow : OpenClaim := { program := "ytbcbjcdpcbjhnaa", sum := "24a70edf8765f4b09f1e385d4a9f2d46236c7b8f991afe50e97727524c6dddc4", func := "scrim/scrimlaw18.FlexOrder", spec := "flexOrder", unfollowed := true, recurses := true, apart := false, narrowed := true }
def FlexOrderUptoSaid : Prop := flexOrderUptoRow.holds Try.pinned (OpenSpec.upto flexOrderSpec)

end Rows
end Go.Proofs.Ytbcbjcdpcbjhnaa
