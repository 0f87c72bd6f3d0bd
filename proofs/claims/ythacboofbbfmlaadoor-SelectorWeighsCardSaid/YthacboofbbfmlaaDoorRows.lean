/-
  NARROWER THAN 'FOR EVERY INPUT', by the rows' own cells (each row's printed sentence says how): SelectorBack: laid · SelectorBlanks: laid · SelectorWeighs: laid · SelectorLists: laid.
  DERIVED. THE GIVEN ROWS OF THIS SEAT. 4 by the template 'for every input the law returns true; each argument reads behind the call as it read before'; 0 by the template 'total and deterministic' (their statements: YthacboofbbfmlaaDoorTotals.lean).
  GIVEN WITH THE SEED: the statements are not yours to turn. If you find one false, say at which input.
  Laid BY PROGRAM, IN A SANDBOX (cutbox-rows.mjs): the forced cells as the released guide's own fill.sh prints them over the translation e1561cf434cf8dcd… (all of the seat's roots in one cut). By AI agents, Wed Nov 11 2026. No macro, syntax, notation, axiom, sorry.
-/
import Derived.Test.YthacboofbbfmlaaDoorChecked
import GoSem.PinnedTables
import GoSem.Claim
import GoSem.ClaimJoined
import GoSem.ClaimMapViews
import Derived.JoinedTies
import Derived.KernelRfl
namespace Go.Proofs.YthacboofbbfmlaaDoor
/- THE CELL 'sum', in the pinned program and in every row, IS THE sha256 OF THE DUMP (.gsa) THAT YthacboofbbfmlaaDoorProg.lean LOADS. Nothing in Lean hashes anything: it is a label: what it is worth is what the hold of that sum in a sandbox is worth. -/
noncomputable def Tryd.pinned : Pinned := { name := "ythacboofbbfmlaadoor", sum := "e1561cf434cf8dcdc8a02d0ed75d9defb002895cec166d87e3ed3ebc70ebda4b", checked := Tryd.checked }
namespace Rows
def none {H : Type} : Left H := { results := [], args := [] }

/- WHAT THE LISTED PACKAGE-LEVEL VARIABLES READ AS WHEN THE CALL BEGINS. Each datum BY PROGRAM (the guide's laid-datum.mjs) off the statement by which the dump's own 'gosem.cut.vars' lays the variable. In a bare row this is a premise. The card (YthacboofbbfmlaaDoorCards.lean) ties it to the program's text. -/
def laid_unicode_utf8_acceptRanges {H : Type} : DataW H := .agg [.agg [.lit (.int .u8 128), .lit (.int .u8 191)], .agg [.lit (.int .u8 160), .lit (.int .u8 191)], .agg [.lit (.int .u8 128), .lit (.int .u8 159)], .agg [.lit (.int .u8 144), .lit (.int .u8 191)], .agg [.lit (.int .u8 128), .lit (.int .u8 143)], .agg [.lit (.int .u8 0), .lit (.int .u8 0)], .agg [.lit (.int .u8 0), .lit (.int .u8 0)], .agg [.lit (.int .u8 0), .lit (.int .u8 0)], .agg [.lit (.int .u8 0), .lit (.int .u8 0)], .agg [.lit (.int .u8 0), .lit (.int .u8 0)], .agg [.lit (.int .u8 0), .lit (.int .u8 0)], .agg [.lit (.int .u8 0), .lit (.int .u8 0)], .agg [.lit (.int .u8 0), .lit (.int .u8 0)], .agg [.lit (.int .u8 0), .lit (.int .u8 0)], .agg [.lit (.int .u8 0), .lit (.int .u8 0)], .agg [.lit (.int .u8 0), .lit (.int .u8 0)]]
/-- One of Go's own tables, pinned by name: the form's constant. -/
def laid_unicode_CaseRanges : DataW Unit := Go.Pinned.caseRanges
/-- One of Go's own tables, pinned by name: the form's constant. -/
def laid_unicode_utf8_first : DataW Unit := Go.Pinned.utf8First

/-- 'scrimlaw09.SelectorBack': WHATEVER THE INPUT: true; the input reads as it did. -/
def selectorBackSpec : ChangeSpec := { name := "selectorBack", fn := fun _ => fun
  | [d1, d2] => { results := [.lit (.bool true)], args := [d1, d2] }
  | _ => none }
def selectorBackRow : OpenClaim := { program := "ythacboofbbfmlaadoor", sum := "e1561cf434cf8dcdc8a02d0ed75d9defb002895cec166d87e3ed3ebc70ebda4b", func := "scrim/scrimlaw09.SelectorBack", spec := "selectorBack", inPlace := ["internal/bytealg.IndexByteString", "internal/bytealg.IndexString", "internal/abi.NoEscape", "internal/bytealg.MakeNoZero"], unfollowed := true, recurses := true, named := ["unicode/utf8.first", "unicode/utf8.acceptRanges", "unicode.CaseRanges", "internal/bytealg.MaxLen"], apart := false, laid := [("unicode/utf8.acceptRanges", laid_unicode_utf8_acceptRanges), ("unicode.CaseRanges", laid_unicode_CaseRanges), ("unicode/utf8.first", laid_unicode_utf8_first)] }
def SelectorBackSaid : Prop := selectorBackRow.holds Tryd.pinned (OpenSpec.ofChange selectorBackSpec)

/-- ITS FALSE NEIGHBOUR: 'it returns false'. Refute it at one input. -/
def selectorBackWrong : ChangeSpec := { name := "selectorBack", fn := fun _ => fun
  | [d1, d2] => { results := [.lit (.bool false)], args := [d1, d2] }
  | _ => none }
def SelectorBackWrongFalsely : Prop := selectorBackRow.holds Tryd.pinned (OpenSpec.ofChange selectorBackWrong)

/-- 'scrimlaw09.SelectorBlanks': WHATEVER THE INPUT: true; the input reads as it did. -/
def selectorBlanksSpec : ChangeSpec := { name := "selectorBlanks", fn := fun _ => fun
  | [d] => { results := [.lit (.bool true)], args := [d] }
  | _ => none }
def selectorBlanksRow : OpenClaim := { program := "ythacboofbbfmlaadoor", sum := "e1561cf434cf8dcdc8a02d0ed75d9defb002895cec166d87e3ed3ebc70ebda4b", func := "scrim/scrimlaw09.SelectorBlanks", spec := "selectorBlanks", inPlace := ["internal/bytealg.IndexByteString", "internal/bytealg.IndexString", "internal/abi.NoEscape", "internal/bytealg.MakeNoZero"], unfollowed := true, recurses := true, named := ["unicode/utf8.first", "unicode/utf8.acceptRanges", "unicode.CaseRanges", "internal/bytealg.MaxLen"], apart := false, laid := [("unicode/utf8.acceptRanges", laid_unicode_utf8_acceptRanges), ("unicode.CaseRanges", laid_unicode_CaseRanges), ("unicode/utf8.first", laid_unicode_utf8_first)] }
def SelectorBlanksSaid : Prop := selectorBlanksRow.holds Tryd.pinned (OpenSpec.ofChange selectorBlanksSpec)

/-- ITS FALSE NEIGHBOUR: 'it returns false'. Refute it at one input. -/
def selectorBlanksWrong : ChangeSpec := { name := "selectorBlanks", fn := fun _ => fun
  | [d] => { results := [.lit (.bool false)], args := [d] }
  | _ => none }
def SelectorBlanksWrongFalsely : Prop := selectorBlanksRow.holds Tryd.pinned (OpenSpec.ofChange selectorBlanksWrong)

/-- 'scrimlaw09.SelectorWeighs': WHATEVER THE INPUT: true; the input reads as it did. -/
def selectorWeighsSpec : ChangeSpec := { name := "selectorWeighs", fn := fun _ => fun
  | [d1, d2] => { results := [.lit (.bool true)], args := [d1, d2] }
  | _ => none }
def selectorWeighsRow : OpenClaim := { program := "ythacboofbbfmlaadoor", sum := "e1561cf434cf8dcdc8a02d0ed75d9defb002895cec166d87e3ed3ebc70ebda4b", func := "scrim/scrimlaw09.SelectorWeighs", spec := "selectorWeighs", inPlace := ["internal/bytealg.IndexByteString", "internal/bytealg.IndexString", "internal/abi.NoEscape", "internal/bytealg.MakeNoZero"], unfollowed := true, recurses := true, named := ["unicode/utf8.first", "unicode/utf8.acceptRanges", "unicode.CaseRanges", "internal/bytealg.MaxLen"], apart := false, laid := [("unicode/utf8.acceptRanges", laid_unicode_utf8_acceptRanges), ("unicode.CaseRanges", laid_unicode_CaseRanges), ("unicode/utf8.first", laid_unicode_utf8_first)] }
def SelectorWeighsSaid : Prop := selectorWeighsRow.holds Tryd.pinned (OpenSpec.ofChange selectorWeighsSpec)

/-- ITS FALSE NEIGHBOUR: 'it returns false'. Refute it at one input. -/
def selectorWeighsWrong : ChangeSpec := { name := "selectorWeighs", fn := fun _ => fun
  | [d1, d2] => { results := [.lit (.bool false)], args := [d1, d2] }
  | _ => none }
def SelectorWeighsWrongFalsely : Prop := selectorWeighsRow.holds Tryd.pinned (OpenSpec.ofChange selectorWeighsWrong)

/-- 'scrimlaw09.SelectorLists': WHATEVER THE INPUT: true; the input reads as it did. -/
def selectorListsSpec : ChangeSpec := { name := "selectorLists", fn := fun _ => fun
  | [d] => { results := [.lit (.bool true)], args := [d] }
  | _ => none }
def selectorListsRow : OpenClaim := { program := "ythacboofbbfmlaadoor", sum := "e1561cf434cf8dcdc8a02d0ed75d9defb002895cec166d87e3ed3ebc70ebda4b", func := "scrim/scrimlaw09.SelectorLists", spec := "selectorLists", inPlace := ["internal/bytealg.IndexByteString", "internal/bytealg.IndexString", "internal/abi.NoEscape", "internal/bytealg.MakeNoZero"], unfollowed := true, recurses := true, named := ["unicode/utf8.first", "unicode/utf8.acceptRanges", "unicode.CaseRanges", "internal/bytealg.MaxLen"], apart := false, laid := [("unicode/utf8.acceptRanges", laid_unicode_utf8_acceptRanges), ("unicode.CaseRanges", laid_unicode_CaseRanges), ("unicode/utf8.first", laid_unicode_utf8_first)] }
def SelectorListsSaid : Prop := selectorListsRow.holds Tryd.pinned (OpenSpec.ofChange selectorListsSpec)

/-- ITS FALSE NEIGHBOUR: 'it returns false'. Refute it at one input. -/
def selectorListsWrong : ChangeSpec := { name := "selectorLists", fn := fun _ => fun
  | [d] => { results := [.lit (.bool false)], args := [d] }
  | _ => none }
def SelectorListsWrongFalsely : Prop := selectorListsRow.holds Tryd.pinned (OpenSpec.ofChange selectorListsWrong)

/- THE SECOND FORM. 'bulk': how many values and letters a reading holds, each counted each time it is reached (what is shared counts as often as it is met; a slice's spare places count too). A statement '..UptoSaid' is the law's where the arguments, and the package variables that the reading takes, are together of bulk at most 1048576: NARROWER than '..Said'. Prove '..Said' where nothing that the law and all that it calls make is longer than what came in: it says more and counts as full. Else prove '..UptoSaid'. A law counts once. -/
mutual
def uptoBulk {H : Type} : DataW H → Nat
  | .lit (.string bytes) => bytes.length + 1
  | .lit _ => 1
  | .nil => 1
  | .ptr d => uptoBulk d + 1
  | .slice elems spare => uptoBulkAll elems + uptoBulkAll spare + 1
  | .agg parts => uptoBulkAll parts + 1
  | .iface _ d => uptoBulk d + 1
  | .map entries => uptoBulkEntries entries + 1
  | .held _ => 1
def uptoBulkAll {H : Type} : List (DataW H) → Nat
  | [] => 0
  | d :: r => uptoBulk d + uptoBulkAll r
def uptoBulkEntries {H : Type} : List (Lit × DataW H) → Nat
  | [] => 0
  | x :: r => uptoBulkEntry x + uptoBulkEntries r
def uptoBulkEntry {H : Type} : Lit × DataW H → Nat
  | (.string bytes, d) => bytes.length + uptoBulk d + 1
  | (_, d) => uptoBulk d + 1
 end
def uptoSmall : (H : Type) → List (DataW H) → Bool := fun _ ds => decide (uptoBulkAll ds ≤ 1048576)
def OpenSpec.upto (s : _root_.Go.ChangeSpec) : _root_.Go.OpenSpec := { _root_.Go.OpenSpec.ofChange s with cond := some uptoSmall }

/-- 'scrimlaw09.SelectorBack', WHERE WHAT IT READS IS OF BULK AT MOST 1048576: true; the input reads as it did. -/
def selectorBackUptoRow : OpenClaim := { program := "ythacboofbbfmlaadoor", sum := "e1561cf434cf8dcdc8a02d0ed75d9defb002895cec166d87e3ed3ebc70ebda4b", func := "scrim/scrimlaw09.SelectorBack", spec := "selectorBack", inPlace := ["internal/bytealg.IndexByteString", "internal/bytealg.IndexString", "internal/abi.NoEscape", "internal/bytealg.MakeNoZero"], unfollowed := true, recurses := true, named := ["unicode/utf8.first", "unicode/utf8.acceptRanges", "unicode.CaseRanges", "internal/bytealg.MaxLen"], apart := false, laid := [("unicode/utf8.acceptRanges", laid_unicode_utf8_acceptRanges), ("unicode.CaseRanges", laid_unicode_CaseRanges), ("unicode/utf8.first", laid_unicode_utf8_first)], narrowed := true }
def SelectorBackUptoSaid : Prop := selectorBackUptoRow.holds Tryd.pinned (OpenSpec.upto selectorBackSpec)

/-- 'scrimlaw09.SelectorBlanks', WHERE WHAT IT READS IS OF BULK AT MOST 1048576: true; the input reads as it did. -/
def selectorBlanksUptoRow : OpenClaim := { program := "ythacboofbbfmlaadoor", sum := "e1561cf434cf8dcdc8a02d0ed75d9defb002895cec166d87e3ed3ebc70ebda4b", func := "scrim/scrimlaw09.SelectorBlanks", spec := "selectorBlanks", inPlace := ["internal/bytealg.IndexByteString", "internal/bytealg.IndexString", "internal/abi.NoEscape", "internal/bytealg.MakeNoZero"], unfollowed := true, recurses := true, named := ["unicode/utf8.first", "unicode/utf8.acceptRanges", "unicode.CaseRanges", "internal/bytealg.MaxLen"], apart := false, laid := [("unicode/utf8.acceptRanges", laid_unicode_utf8_acceptRanges), ("unicode.CaseRanges", laid_unicode_CaseRanges), ("unicode/utf8.first", laid_unicode_utf8_first)], narrowed := true }
def SelectorBlanksUptoSaid : Prop := selectorBlanksUptoRow.holds Tryd.pinned (OpenSpec.upto selectorBlanksSpec)

/-- 'scrimlaw09.SelectorWeighs', WHERE WHAT IT READS IS OF BULK AT MOST 1048576: true; the input reads as it did. -/
def selectorWeighsUptoRow : OpenClaim := { program := "ythacboofbbfmlaadoor", sum := "e1561cf434cf8dcdc8a02d0ed75d9defb002895cec166d87e3ed3ebc70ebda4b", func := "scrim/scrimlaw09.SelectorWeighs", spec := "selectorWeighs", inPlace := ["internal/bytealg.IndexByteString", "internal/bytealg.IndexString", "internal/abi.NoEscape", "internal/bytealg.MakeNoZero"], unfollowed := true, recurses := true, named := ["unicode/utf8.first", "unicode/utf8.acceptRanges", "unicode.CaseRanges", "internal/bytealg.MaxLen"], apart := false, laid := [("unicode/utf8.acceptRanges", laid_unicode_utf8_acceptRanges), ("unicode.CaseRanges", laid_unicode_CaseRanges), ("unicode/utf8.first", laid_unicode_utf8_first)], narrowed := true }
def SelectorWeighsUptoSaid : Prop := selectorWeighsUptoRow.holds Tryd.pinned (OpenSpec.upto selectorWeighsSpec)

/-- 'scrimlaw09.SelectorLists', WHERE WHAT IT READS IS OF BULK AT MOST 1048576: true; the input reads as it did. -/
def selectorListsUptoRow : OpenClaim := { program := "ythacboofbbfmlaadoor", sum := "e1561cf434cf8dcdc8a02d0ed75d9defb002895cec166d87e3ed3ebc70ebda4b", func := "scrim/scrimlaw09.SelectorLists", spec := "selectorLists", inPlace := ["internal/bytealg.IndexByteString", "internal/bytealg.IndexString", "internal/abi.NoEscape", "internal/bytealg.MakeNoZero"], unfollowed := true, recurses := true, named := ["unicode/utf8.first", "unicode/utf8.acceptRanges", "unicode.CaseRanges", "internal/bytealg.MaxLen"], apart := false, laid := [("unicode/utf8.acceptRanges", laid_unicode_utf8_acceptRanges), ("unicode.CaseRanges", laid_unicode_CaseRanges), ("unicode/utf8.first", laid_unicode_utf8_first)], narrowed := true }
def SelectorListsUptoSaid : Prop := selectorListsUptoRow.holds Tryd.pinned (OpenSpec.upto selectorListsSpec)

end Rows
end Go.Proofs.YthacboofbbfmlaaDoor
