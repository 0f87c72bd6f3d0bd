/-
  No cell of these rows narrows 'for every input' (looked for: loops, veiled, ifaces, maps, wideKeys, modest, calm, conditions, laid).
  DERIVED. THE GIVEN ROWS OF THIS SEAT. 8 by the template 'for every input the law returns true; each argument reads behind the call as it read before'; 0 by the template 'total and deterministic' (their statements: YtabijoohoofogaaTotals.lean).
  GIVEN WITH THE SEED: the statements are not yours to turn. If you find one false, say at which input.
  Laid BY PROGRAM, IN A SANDBOX (cutbox-rows.mjs): the forced cells as the released guide's own fill.sh prints them over the translation 2c2d7f2c251c30f8… (all of the seat's roots in one cut). By AI agents, Wed Nov 11 2026. No macro, syntax, notation, axiom, sorry.
-/
import Derived.Test.YtabijoohoofogaaChecked
import GoSem.Claim
import GoSem.ClaimJoined
import GoSem.ClaimMapViews
import Derived.JoinedTies
import Derived.KernelRfl
namespace Go.Proofs.Ytabijoohoofogaa
/- THE CELL 'sum', in the pinned program and in every row, IS THE sha256 OF THE DUMP (.gsa) THAT YtabijoohoofogaaProg.lean LOADS. Nothing in Lean hashes anything: it is a label: what it is worth is what the hold of that sum in a sandbox is worth. -/
noncomputable def Try.pinned : Pinned := { name := "ytabijoohoofogaa", sum := "2c2d7f2c251c30f8b6a7bbde004ed2ccca4a276e0b684f68e5d810591e5384be", checked := Try.checked }
namespace Rows
def none {H : Type} : Left H := { results := [], args := [] }

/-- 'scrimlaw02.RectTells': WHATEVER THE INPUT: true; the input reads as it did. -/
def rectTellsSpec : ChangeSpec := { name := "rectTells", fn := fun _ => fun
  | [d1, d2, d3, d4] => { results := [.lit (.bool true)], args := [d1, d2, d3, d4] }
  | _ => none }
def rectTellsRow : OpenClaim := { program := "ytabijoohoofogaa", sum := "2c2d7f2c251c30f8b6a7bbde004ed2ccca4a276e0b684f68e5d810591e5384be", func := "scrim/scrimlaw02.RectTells", spec := "rectTells", unfollowed := true, recurses := true, apart := false }
def RectTellsSaid : Prop := rectTellsRow.holds Try.pinned (OpenSpec.ofChange rectTellsSpec)

/-- ITS FALSE NEIGHBOUR: 'it returns false'. Refute it at one input. -/
def rectTellsWrong : ChangeSpec := { name := "rectTells", fn := fun _ => fun
  | [d1, d2, d3, d4] => { results := [.lit (.bool false)], args := [d1, d2, d3, d4] }
  | _ => none }
def RectTellsWrongFalsely : Prop := rectTellsRow.holds Try.pinned (OpenSpec.ofChange rectTellsWrong)

/-- 'scrimlaw02.RectBack': WHATEVER THE INPUT: true; the input reads as it did. -/
def rectBackSpec : ChangeSpec := { name := "rectBack", fn := fun _ => fun
  | [d1, d2, d3, d4, d5] => { results := [.lit (.bool true)], args := [d1, d2, d3, d4, d5] }
  | _ => none }
def rectBackRow : OpenClaim := { program := "ytabijoohoofogaa", sum := "2c2d7f2c251c30f8b6a7bbde004ed2ccca4a276e0b684f68e5d810591e5384be", func := "scrim/scrimlaw02.RectBack", spec := "rectBack", unfollowed := true, recurses := true, apart := false }
def RectBackSaid : Prop := rectBackRow.holds Try.pinned (OpenSpec.ofChange rectBackSpec)

/-- ITS FALSE NEIGHBOUR: 'it returns false'. Refute it at one input. -/
def rectBackWrong : ChangeSpec := { name := "rectBack", fn := fun _ => fun
  | [d1, d2, d3, d4, d5] => { results := [.lit (.bool false)], args := [d1, d2, d3, d4, d5] }
  | _ => none }
def RectBackWrongFalsely : Prop := rectBackRow.holds Try.pinned (OpenSpec.ofChange rectBackWrong)

/-- 'scrimlaw02.RectMeets': WHATEVER THE INPUT: true; the input reads as it did. -/
def rectMeetsSpec : ChangeSpec := { name := "rectMeets", fn := fun _ => fun
  | [d1, d2, d3, d4] => { results := [.lit (.bool true)], args := [d1, d2, d3, d4] }
  | _ => none }
def rectMeetsRow : OpenClaim := { program := "ytabijoohoofogaa", sum := "2c2d7f2c251c30f8b6a7bbde004ed2ccca4a276e0b684f68e5d810591e5384be", func := "scrim/scrimlaw02.RectMeets", spec := "rectMeets", unfollowed := true, recurses := true, apart := false }
def RectMeetsSaid : Prop := rectMeetsRow.holds Try.pinned (OpenSpec.ofChange rectMeetsSpec)

/-- ITS FALSE NEIGHBOUR: 'it returns false'. Refute it at one input. -/
def rectMeetsWrong : ChangeSpec := { name := "rectMeets", fn := fun _ => fun
  | [d1, d2, d3, d4] => { results := [.lit (.bool false)], args := [d1, d2, d3, d4] }
  | _ => none }
def RectMeetsWrongFalsely : Prop := rectMeetsRow.holds Try.pinned (OpenSpec.ofChange rectMeetsWrong)

/-- 'scrimlaw02.RectUnites': WHATEVER THE INPUT: true; the input reads as it did. -/
def rectUnitesSpec : ChangeSpec := { name := "rectUnites", fn := fun _ => fun
  | [d1, d2, d3] => { results := [.lit (.bool true)], args := [d1, d2, d3] }
  | _ => none }
def rectUnitesRow : OpenClaim := { program := "ytabijoohoofogaa", sum := "2c2d7f2c251c30f8b6a7bbde004ed2ccca4a276e0b684f68e5d810591e5384be", func := "scrim/scrimlaw02.RectUnites", spec := "rectUnites", unfollowed := true, recurses := true, apart := false }
def RectUnitesSaid : Prop := rectUnitesRow.holds Try.pinned (OpenSpec.ofChange rectUnitesSpec)

/-- ITS FALSE NEIGHBOUR: 'it returns false'. Refute it at one input. -/
def rectUnitesWrong : ChangeSpec := { name := "rectUnites", fn := fun _ => fun
  | [d1, d2, d3] => { results := [.lit (.bool false)], args := [d1, d2, d3] }
  | _ => none }
def RectUnitesWrongFalsely : Prop := rectUnitesRow.holds Try.pinned (OpenSpec.ofChange rectUnitesWrong)

/-- 'scrimlaw02.RectInsets': WHATEVER THE INPUT: true; the input reads as it did. -/
def rectInsetsSpec : ChangeSpec := { name := "rectInsets", fn := fun _ => fun
  | [d1, d2] => { results := [.lit (.bool true)], args := [d1, d2] }
  | _ => none }
def rectInsetsRow : OpenClaim := { program := "ytabijoohoofogaa", sum := "2c2d7f2c251c30f8b6a7bbde004ed2ccca4a276e0b684f68e5d810591e5384be", func := "scrim/scrimlaw02.RectInsets", spec := "rectInsets", unfollowed := true, recurses := true, apart := false }
def RectInsetsSaid : Prop := rectInsetsRow.holds Try.pinned (OpenSpec.ofChange rectInsetsSpec)

/-- ITS FALSE NEIGHBOUR: 'it returns false'. Refute it at one input. -/
def rectInsetsWrong : ChangeSpec := { name := "rectInsets", fn := fun _ => fun
  | [d1, d2] => { results := [.lit (.bool false)], args := [d1, d2] }
  | _ => none }
def RectInsetsWrongFalsely : Prop := rectInsetsRow.holds Try.pinned (OpenSpec.ofChange rectInsetsWrong)

/-- 'scrimlaw03.MeterDoes': WHATEVER THE INPUT: true; the input reads as it did. -/
def meterDoesSpec : ChangeSpec := { name := "meterDoes", fn := fun _ => fun
  | [d1, d2, d3, d4, d5] => { results := [.lit (.bool true)], args := [d1, d2, d3, d4, d5] }
  | _ => none }
def meterDoesRow : OpenClaim := { program := "ytabijoohoofogaa", sum := "2c2d7f2c251c30f8b6a7bbde004ed2ccca4a276e0b684f68e5d810591e5384be", func := "scrim/scrimlaw03.MeterDoes", spec := "meterDoes", unfollowed := true, recurses := true, apart := false }
def MeterDoesSaid : Prop := meterDoesRow.holds Try.pinned (OpenSpec.ofChange meterDoesSpec)

/-- ITS FALSE NEIGHBOUR: 'it returns false'. Refute it at one input. -/
def meterDoesWrong : ChangeSpec := { name := "meterDoes", fn := fun _ => fun
  | [d1, d2, d3, d4, d5] => { results := [.lit (.bool false)], args := [d1, d2, d3, d4, d5] }
  | _ => none }
def MeterDoesWrongFalsely : Prop := meterDoesRow.holds Try.pinned (OpenSpec.ofChange meterDoesWrong)

/-- 'scrimlaw03.MeterRises': WHATEVER THE INPUT: true; the input reads as it did. -/
def meterRisesSpec : ChangeSpec := { name := "meterRises", fn := fun _ => fun
  | [d1, d2] => { results := [.lit (.bool true)], args := [d1, d2] }
  | _ => none }
def meterRisesRow : OpenClaim := { program := "ytabijoohoofogaa", sum := "2c2d7f2c251c30f8b6a7bbde004ed2ccca4a276e0b684f68e5d810591e5384be", func := "scrim/scrimlaw03.MeterRises", spec := "meterRises", unfollowed := true, recurses := true, apart := false }
def MeterRisesSaid : Prop := meterRisesRow.holds Try.pinned (OpenSpec.ofChange meterRisesSpec)

/-- ITS FALSE NEIGHBOUR: 'it returns false'. Refute it at one input. -/
def meterRisesWrong : ChangeSpec := { name := "meterRises", fn := fun _ => fun
  | [d1, d2] => { results := [.lit (.bool false)], args := [d1, d2] }
  | _ => none }
def MeterRisesWrongFalsely : Prop := meterRisesRow.holds Try.pinned (OpenSpec.ofChange meterRisesWrong)

/-- 'scrimlaw03.MeterParts': WHATEVER THE INPUT: true; the input reads as it did. -/
def meterPartsSpec : ChangeSpec := { name := "meterParts", fn := fun _ => fun
  | [d1, d2] => { results := [.lit (.bool true)], args := [d1, d2] }
  | _ => none }
def meterPartsRow : OpenClaim := { program := "ytabijoohoofogaa", sum := "2c2d7f2c251c30f8b6a7bbde004ed2ccca4a276e0b684f68e5d810591e5384be", func := "scrim/scrimlaw03.MeterParts", spec := "meterParts", unfollowed := true, recurses := true, apart := false }
def MeterPartsSaid : Prop := meterPartsRow.holds Try.pinned (OpenSpec.ofChange meterPartsSpec)

/-- ITS FALSE NEIGHBOUR: 'it returns false'. Refute it at one input. -/
def meterPartsWrong : ChangeSpec := { name := "meterParts", fn := fun _ => fun
  | [d1, d2] => { results := [.lit (.bool false)], args := [d1, d2] }
  | _ => none }
def MeterPartsWrongFalsely : Prop := meterPartsRow.holds Try.pinned (OpenSpec.ofChange meterPartsWrong)

/- THE SECOND FORM. 'bulk': how many values and letters a reading holds, each counted each time it is reached (what is shared counts as often as it is met; a slice's spare places count too). A statement '..UptoSaid' is the law's where the arguments, and the package variables that the reading takes, are together of bulk at most 1048576: NARROWER than '..Said'. Prove '..Said' where nothing that the law and all that it calls make is longer than what came in: it says more and counts as full. Else prove '..UptoSaid'. A law counts once. -/
mutual
def uptoBulk {H : Type} : DataW H → Nat
  | .lit (.string bytes) => bytes.length + 1
  | .lit _ => 1
  | .nil => 1
  | .ptr d => uptoBulk d + 1
  | .slice elems spare => uptoBulkAll elems + uptoBulkAll spare + 1
  | .agg parts => uptoBulkAll parts + 1
  | .iface _ d => uptoBulk d + 1
  | .map entries => uptoBulkEntries entries + 1
  | .held _ => 1
def uptoBulkAll {H : Type} : List (DataW H) → Nat
  | [] => 0
  | d :: r => uptoBulk d + uptoBulkAll r
def uptoBulkEntries {H : Type} : List (Lit × DataW H) → Nat
  | [] => 0
  | x :: r => uptoBulkEntry x + uptoBulkEntries r
def uptoBulkEntry {H : Type} : Lit × DataW H → Nat
  | (.string bytes, d) => bytes.length + uptoBulk d + 1
  | (_, d) => uptoBulk d + 1
 end
def uptoSmall : (H : Type) → List (DataW H) → Bool := fun _ ds => decide (uptoBulkAll ds ≤ 1048576)
def OpenSpec.upto (s : _root_.Go.ChangeSpec) : _root_.Go.OpenSpec := { _root_.Go.OpenSpec.ofChange s with cond := some uptoSmall }

/-- 'scrimlaw02.RectTells', WHERE WHAT IT READS IS OF BULK AT MOST 1048576: true; the input reads as it did. -/
def rectTellsUptoRow : OpenClaim := { program := "ytabijoohoofogaa", sum := "2c2d7f2c251c30f8b6a7bbde004ed2ccca4a276e0b684f68e5d810591e5384be", func := "scrim/scrimlaw02.RectTells", spec := "rectTells", unfollowed := true, recurses := true, apart := false, narrowed := true }
def RectTellsUptoSaid : Prop := rectTellsUptoRow.holds Try.pinned (OpenSpec.upto rectTellsSpec)

/-- 'scrimlaw02.RectBack', WHERE WHAT IT READS IS OF BULK AT MOST 1048576: true; the input reads as it did. -/
def rectBackUptoRow : OpenClaim := { program := "ytabijoohoofogaa", sum := "2c2d7f2c251c30f8b6a7bbde004ed2ccca4a276e0b684f68e5d810591e5384be", func := "scrim/scrimlaw02.RectBack", spec := "rectBack", unfollowed := true, recurses := true, apart := false, narrowed := true }
def RectBackUptoSaid : Prop := rectBackUptoRow.holds Try.pinned (OpenSpec.upto rectBackSpec)

/-- 'scrimlaw02.RectMeets', WHERE WHAT IT READS IS OF BULK AT MOST 1048576: true; the input reads as it did. -/
def rectMeetsUptoRow : OpenClaim := { program := "ytabijoohoofogaa", sum := "2c2d7f2c251c30f8b6a7bbde004ed2ccca4a276e0b684f68e5d810591e5384be", func := "scrim/scrimlaw02.RectMeets", spec := "rectMeets", unfollowed := true, recurses := true, apart := false, narrowed := true }
def RectMeetsUptoSaid : Prop := rectMeetsUptoRow.holds Try.pinned (OpenSpec.upto rectMeetsSpec)

/-- 'scrimlaw02.RectUnites', WHERE WHAT IT READS IS OF BULK AT MOST 1048576: true; the input reads as it did. -/
def rectUnitesUptoRow : OpenClaim := { program := "ytabijoohoofogaa", sum := "2c2d7f2c251c30f8b6a7bbde004ed2ccca4a276e0b684f68e5d810591e5384be", func := "scrim/scrimlaw02.RectUnites", spec := "rectUnites", unfollowed := true, recurses := true, apart := false, narrowed := true }
def RectUnitesUptoSaid : Prop := rectUnitesUptoRow.holds Try.pinned (OpenSpec.upto rectUnitesSpec)

/-- 'scrimlaw02.RectInsets', WHERE WHAT IT READS IS OF BULK AT MOST 1048576: true; the input reads as it did. -/
def rectInsetsUptoRow : OpenClaim := { program := "ytabijoohoofogaa", sum := "2c2d7f2c251c30f8b6a7bbde004ed2ccca4a276e0b684f68e5d810591e5384be", func := "scrim/scrimlaw02.RectInsets", spec := "rectInsets", unfollowed := true, recurses := true, apart := false, narrowed := true }
def RectInsetsUptoSaid : Prop := rectInsetsUptoRow.holds Try.pinned (OpenSpec.upto rectInsetsSpec)

/-- 'scrimlaw03.MeterDoes', WHERE WHAT IT READS IS OF BULK AT MOST 1048576: true; the input reads as it did. -/
def meterDoesUptoRow : OpenClaim := { program := "ytabijoohoofogaa", sum := "2c2d7f2c251c30f8b6a7bbde004ed2ccca4a276e0b684f68e5d810591e5384be", func := "scrim/scrimlaw03.MeterDoes", spec := "meterDoes", unfollowed := true, recurses := true, apart := false, narrowed := true }
def MeterDoesUptoSaid : Prop := meterDoesUptoRow.holds Try.pinned (OpenSpec.upto meterDoesSpec)

/-- 'scrimlaw03.MeterRises', WHERE WHAT IT READS IS OF BULK AT MOST 1048576: true; the input reads as it did. -/
def meterRisesUptoRow : OpenClaim := { program := "ytabijoohoofogaa", sum := "2c2d7f2c251c30f8b6a7bbde004ed2ccca4a276e0b684f68e5d810591e5384be", func := "scrim/scrimlaw03.MeterRises", spec := "meterRises", unfollowed := true, recurses := true, apart := false, narrowed := true }
def MeterRisesUptoSaid : Prop := meterRisesUptoRow.holds Try.pinned (OpenSpec.upto meterRisesSpec)

/-- 'scrimlaw03.MeterParts', WHERE WHAT IT READS IS OF BULK AT MOST 1048576: true; the input reads as it did. -/
def meterPartsUptoRow : OpenClaim := { program := "ytabijoohoofogaa", sum := "2c2d7f2c251c30f8b6a7bbde004ed2ccca4a276e0b684f68e5d810591e5384be", func := "scrim/scrimlaw03.MeterParts", spec := "meterParts", unfollowed := true, recurses := true, apart := false, narrowed := true }
def MeterPartsUptoSaid : Prop := meterPartsUptoRow.holds Try.pinned (OpenSpec.upto meterPartsSpec)

end Rows
end Go.Proofs.Ytabijoohoofogaa
