/-
  NARROWER THAN 'FOR EVERY INPUT', by the rows' own cells (each row's printed sentence says how): RetainRuns: laid · RetainTears: laid · RetainBoots: laid · RetainEnds: laid.
  DERIVED. THE GIVEN ROWS OF THIS SEAT. 4 by the template 'for every input the law returns true; each argument reads behind the call as it read before'; 0 by the template 'total and deterministic' (their statements: YtahmngmbgbcmhaaDoorTotals.lean).
  GIVEN WITH THE SEED: the statements are not yours to turn. If you find one false, say at which input.
  Laid BY PROGRAM, IN A SANDBOX (cutbox-rows.mjs): the forced cells as the released guide's own fill.sh prints them over the translation 53a746c2d9d2046b… (all of the seat's roots in one cut). By AI agents, Wed Nov 11 2026. No macro, syntax, notation, axiom, sorry.
-/
import Derived.Test.YtahmngmbgbcmhaaDoorChecked
import GoSem.PinnedTables
import GoSem.Claim
import GoSem.ClaimJoined
import GoSem.ClaimMapViews
import Derived.JoinedTies
import Derived.KernelRfl
namespace Go.Proofs.YtahmngmbgbcmhaaDoor
/- THE CELL 'sum', in the pinned program and in every row, IS THE sha256 OF THE DUMP (.gsa) THAT YtahmngmbgbcmhaaDoorProg.lean LOADS. Nothing in Lean hashes anything: it is a label: what it is worth is what the hold of that sum in a sandbox is worth. -/
noncomputable def Tryd.pinned : Pinned := { name := "ytahmngmbgbcmhaadoor", sum := "53a746c2d9d2046b265beac67ff6c6c90b08ecc30696dd32f01b42f995045739", checked := Tryd.checked }
namespace Rows
def none {H : Type} : Left H := { results := [], args := [] }

/- WHAT THE LISTED PACKAGE-LEVEL VARIABLES READ AS WHEN THE CALL BEGINS. Each datum BY PROGRAM (the guide's laid-datum.mjs) off the statement by which the dump's own 'gosem.cut.vars' lays the variable. In a bare row this is a premise. The card (YtahmngmbgbcmhaaDoorCards.lean) ties it to the program's text. -/
def laid_unicode_utf8_acceptRanges {H : Type} : DataW H := .agg [.agg [.lit (.int .u8 128), .lit (.int .u8 191)], .agg [.lit (.int .u8 160), .lit (.int .u8 191)], .agg [.lit (.int .u8 128), .lit (.int .u8 159)], .agg [.lit (.int .u8 144), .lit (.int .u8 191)], .agg [.lit (.int .u8 128), .lit (.int .u8 143)], .agg [.lit (.int .u8 0), .lit (.int .u8 0)], .agg [.lit (.int .u8 0), .lit (.int .u8 0)], .agg [.lit (.int .u8 0), .lit (.int .u8 0)], .agg [.lit (.int .u8 0), .lit (.int .u8 0)], .agg [.lit (.int .u8 0), .lit (.int .u8 0)], .agg [.lit (.int .u8 0), .lit (.int .u8 0)], .agg [.lit (.int .u8 0), .lit (.int .u8 0)], .agg [.lit (.int .u8 0), .lit (.int .u8 0)], .agg [.lit (.int .u8 0), .lit (.int .u8 0)], .agg [.lit (.int .u8 0), .lit (.int .u8 0)], .agg [.lit (.int .u8 0), .lit (.int .u8 0)]]
/-- One of Go's own tables, pinned by name: the form's constant. -/
def laid_unicode_utf8_first : DataW Unit := Go.Pinned.utf8First

/-- 'fuglemanlaw07.RetainRuns': WHATEVER THE INPUT: true; the input reads as it did. -/
def retainRunsSpec : ChangeSpec := { name := "retainRuns", fn := fun _ => fun
  | [d1, d2] => { results := [.lit (.bool true)], args := [d1, d2] }
  | _ => none }
def retainRunsRow : OpenClaim := { program := "ytahmngmbgbcmhaadoor", sum := "53a746c2d9d2046b265beac67ff6c6c90b08ecc30696dd32f01b42f995045739", func := "fugleman/fuglemanlaw07.RetainRuns", spec := "retainRuns", inPlace := ["internal/bytealg.IndexByteString", "internal/bytealg.IndexString", "internal/abi.NoEscape", "internal/bytealg.MakeNoZero"], named := ["unicode/utf8.first", "unicode/utf8.acceptRanges", "internal/bytealg.MaxLen"], apart := false, laid := [("unicode/utf8.acceptRanges", laid_unicode_utf8_acceptRanges), ("unicode/utf8.first", laid_unicode_utf8_first)] }
def RetainRunsSaid : Prop := retainRunsRow.holds Tryd.pinned (OpenSpec.ofChange retainRunsSpec)

/-- ITS FALSE NEIGHBOUR: 'it returns false'. Refute it at one input. -/
def retainRunsWrong : ChangeSpec := { name := "retainRuns", fn := fun _ => fun
  | [d1, d2] => { results := [.lit (.bool false)], args := [d1, d2] }
  | _ => none }
def RetainRunsWrongFalsely : Prop := retainRunsRow.holds Tryd.pinned (OpenSpec.ofChange retainRunsWrong)

/-- 'fuglemanlaw07.RetainTears': WHATEVER THE INPUT: true; the input reads as it did. -/
def retainTearsSpec : ChangeSpec := { name := "retainTears", fn := fun _ => fun
  | [d1, d2, d3] => { results := [.lit (.bool true)], args := [d1, d2, d3] }
  | _ => none }
def retainTearsRow : OpenClaim := { program := "ytahmngmbgbcmhaadoor", sum := "53a746c2d9d2046b265beac67ff6c6c90b08ecc30696dd32f01b42f995045739", func := "fugleman/fuglemanlaw07.RetainTears", spec := "retainTears", inPlace := ["internal/bytealg.IndexByteString", "internal/bytealg.IndexString", "internal/abi.NoEscape", "internal/bytealg.MakeNoZero"], named := ["unicode/utf8.first", "unicode/utf8.acceptRanges", "internal/bytealg.MaxLen"], apart := false, laid := [("unicode/utf8.acceptRanges", laid_unicode_utf8_acceptRanges), ("unicode/utf8.first", laid_unicode_utf8_first)] }
def RetainTearsSaid : Prop := retainTearsRow.holds Tryd.pinned (OpenSpec.ofChange retainTearsSpec)

/-- ITS FALSE NEIGHBOUR: 'it returns false'. Refute it at one input. -/
def retainTearsWrong : ChangeSpec := { name := "retainTears", fn := fun _ => fun
  | [d1, d2, d3] => { results := [.lit (.bool false)], args := [d1, d2, d3] }
  | _ => none }
def RetainTearsWrongFalsely : Prop := retainTearsRow.holds Tryd.pinned (OpenSpec.ofChange retainTearsWrong)

/-- 'fuglemanlaw07.RetainBoots': WHATEVER THE INPUT: true; the input reads as it did. -/
def retainBootsSpec : ChangeSpec := { name := "retainBoots", fn := fun _ => fun
  | [d1, d2] => { results := [.lit (.bool true)], args := [d1, d2] }
  | _ => none }
def retainBootsRow : OpenClaim := { program := "ytahmngmbgbcmhaadoor", sum := "53a746c2d9d2046b265beac67ff6c6c90b08ecc30696dd32f01b42f995045739", func := "fugleman/fuglemanlaw07.RetainBoots", spec := "retainBoots", inPlace := ["internal/bytealg.IndexByteString", "internal/bytealg.IndexString", "internal/abi.NoEscape", "internal/bytealg.MakeNoZero"], named := ["unicode/utf8.first", "unicode/utf8.acceptRanges", "internal/bytealg.MaxLen"], apart := false, laid := [("unicode/utf8.acceptRanges", laid_unicode_utf8_acceptRanges), ("unicode/utf8.first", laid_unicode_utf8_first)] }
def RetainBootsSaid : Prop := retainBootsRow.holds Tryd.pinned (OpenSpec.ofChange retainBootsSpec)

/-- ITS FALSE NEIGHBOUR: 'it returns false'. Refute it at one input. -/
def retainBootsWrong : ChangeSpec := { name := "retainBoots", fn := fun _ => fun
  | [d1, d2] => { results := [.lit (.bool false)], args := [d1, d2] }
  | _ => none }
def RetainBootsWrongFalsely : Prop := retainBootsRow.holds Tryd.pinned (OpenSpec.ofChange retainBootsWrong)

/-- 'fuglemanlaw07.RetainEnds': WHATEVER THE INPUT: true; the input reads as it did. -/
def retainEndsSpec : ChangeSpec := { name := "retainEnds", fn := fun _ => fun
  | [d1, d2] => { results := [.lit (.bool true)], args := [d1, d2] }
  | _ => none }
def retainEndsRow : OpenClaim := { program := "ytahmngmbgbcmhaadoor", sum := "53a746c2d9d2046b265beac67ff6c6c90b08ecc30696dd32f01b42f995045739", func := "fugleman/fuglemanlaw07.RetainEnds", spec := "retainEnds", inPlace := ["internal/bytealg.IndexByteString", "internal/bytealg.IndexString", "internal/abi.NoEscape", "internal/bytealg.MakeNoZero"], named := ["unicode/utf8.first", "unicode/utf8.acceptRanges", "internal/bytealg.MaxLen"], apart := false, laid := [("unicode/utf8.acceptRanges", laid_unicode_utf8_acceptRanges), ("unicode/utf8.first", laid_unicode_utf8_first)] }
def RetainEndsSaid : Prop := retainEndsRow.holds Tryd.pinned (OpenSpec.ofChange retainEndsSpec)

/-- ITS FALSE NEIGHBOUR: 'it returns false'. Refute it at one input. -/
def retainEndsWrong : ChangeSpec := { name := "retainEnds", fn := fun _ => fun
  | [d1, d2] => { results := [.lit (.bool false)], args := [d1, d2] }
  | _ => none }
def RetainEndsWrongFalsely : Prop := retainEndsRow.holds Tryd.pinned (OpenSpec.ofChange retainEndsWrong)

/- THE SECOND FORM. 'bulk': how many values and letters a reading holds, each counted each time it is reached (what is shared counts as often as it is met; a slice's spare places count too). A statement '..UptoSaid' is the law's where the arguments, and the package variables that the reading takes, are together of bulk at most 1048576: NARROWER than '..Said'. Prove '..Said' where nothing that the law and all that it calls make is longer than what came in: it says more and counts as full. Else prove '..UptoSaid'. A law counts once. -/
mutual
def uptoBulk {H : Type} : DataW H → Nat
  | .lit (.string bytes) => bytes.length + 1
  | .lit _ => 1
  | .nil => 1
  | .ptr d => uptoBulk d + 1
  | .slice elems spare => uptoBulkAll elems + uptoBulkAll spare + 1
  | .agg parts => uptoBulkAll parts + 1
  | .iface _ d => uptoBulk d + 1
  | .map entries => uptoBulkEntries entries + 1
  | .held _ => 1
def uptoBulkAll {H : Type} : List (DataW H) → Nat
  | [] => 0
  | d :: r => uptoBulk d + uptoBulkAll r
def uptoBulkEntries {H : Type} : List (Lit × DataW H) → Nat
  | [] => 0
  | x :: r => uptoBulkEntry x + uptoBulkEntries r
def uptoBulkEntry {H : Type} : Lit × DataW H → Nat
  | (.string bytes, d) => bytes.length + uptoBulk d + 1
  | (_, d) => uptoBulk d + 1
 end
def uptoSmall : (H : Type) → List (DataW H) → Bool := fun _ ds => decide (uptoBulkAll ds ≤ 1048576)
def OpenSpec.upto (s : _root_.Go.ChangeSpec) : _root_.Go.OpenSpec := { _root_.Go.OpenSpec.ofChange s with cond := some uptoSmall }

/-- 'fuglemanlaw07.RetainRuns', WHERE WHAT IT READS IS OF BULK AT MOST 1048576: true; the input reads as it did. -/
def retainRunsUptoRow : OpenClaim := { program := "ytahmngmbgbcmhaadoor", sum := "53a746c2d9d2046b265beac67ff6c6c90b08ecc30696dd32f01b42f995045739", func := "fugleman/fuglemanlaw07.RetainRuns", spec := "retainRuns", inPlace := ["internal/bytealg.IndexByteString", "internal/bytealg.IndexString", "internal/abi.NoEscape", "internal/bytealg.MakeNoZero"], named := ["unicode/utf8.first", "unicode/utf8.acceptRanges", "internal/bytealg.MaxLen"], apart := false, laid := [("unicode/utf8.acceptRanges", laid_unicode_utf8_acceptRanges), ("unicode/utf8.first", laid_unicode_utf8_first)], narrowed := true }
def RetainRunsUptoSaid : Prop := retainRunsUptoRow.holds Tryd.pinned (OpenSpec.upto retainRunsSpec)

/-- 'fuglemanlaw07.RetainTears', WHERE WHAT IT READS IS OF BULK AT MOST 1048576: true; the input reads as it did. -/
def retainTearsUptoRow : OpenClaim := { program := "ytahmngmbgbcmhaadoor", sum := "53a746c2d9d2046b265beac67ff6c6c90b08ecc30696dd32f01b42f995045739", func := "fugleman/fuglemanlaw07.RetainTears", spec := "retainTears", inPlace := ["internal/bytealg.IndexByteString", "internal/bytealg.IndexString", "internal/abi.NoEscape", "internal/bytealg.MakeNoZero"], named := ["unicode/utf8.first", "unicode/utf8.acceptRanges", "internal/bytealg.MaxLen"], apart := false, laid := [("unicode/utf8.acceptRanges", laid_unicode_utf8_acceptRanges), ("unicode/utf8.first", laid_unicode_utf8_first)], narrowed := true }
def RetainTearsUptoSaid : Prop := retainTearsUptoRow.holds Tryd.pinned (OpenSpec.upto retainTearsSpec)

/-- 'fuglemanlaw07.RetainBoots', WHERE WHAT IT READS IS OF BULK AT MOST 1048576: true; the input reads as it did. -/
def retainBootsUptoRow : OpenClaim := { program := "ytahmngmbgbcmhaadoor", sum := "53a746c2d9d2046b265beac67ff6c6c90b08ecc30696dd32f01b42f995045739", func := "fugleman/fuglemanlaw07.RetainBoots", spec := "retainBoots", inPlace := ["internal/bytealg.IndexByteString", "internal/bytealg.IndexString", "internal/abi.NoEscape", "internal/bytealg.MakeNoZero"], named := ["unicode/utf8.first", "unicode/utf8.acceptRanges", "internal/bytealg.MaxLen"], apart := false, laid := [("unicode/utf8.acceptRanges", laid_unicode_utf8_acceptRanges), ("unicode/utf8.first", laid_unicode_utf8_first)], narrowed := true }
def RetainBootsUptoSaid : Prop := retainBootsUptoRow.holds Tryd.pinned (OpenSpec.upto retainBootsSpec)

/-- 'fuglemanlaw07.RetainEnds', WHERE WHAT IT READS IS OF BULK AT MOST 1048576: true; the input reads as it did. -/
def retainEndsUptoRow : OpenClaim := { program := "ytahmngmbgbcmhaadoor", sum := "53a746c2d9d2046b265beac67ff6c6c90b08ecc30696dd32f01b42f995045739", func := "fugleman/fuglemanlaw07.RetainEnds", spec := "retainEnds", inPlace := ["internal/bytealg.IndexByteString", "internal/bytealg.IndexString", "internal/abi.NoEscape", "internal/bytealg.MakeNoZero"], named := ["unicode/utf8.first", "unicode/utf8.acceptRanges", "internal/bytealg.MaxLen"], apart := false, laid := [("unicode/utf8.acceptRanges", laid_unicode_utf8_acceptRanges), ("unicode/utf8.first", laid_unicode_utf8_first)], narrowed := true }
def RetainEndsUptoSaid : Prop := retainEndsUptoRow.holds Tryd.pinned (OpenSpec.upto retainEndsSpec)

end Rows
end Go.Proofs.YtahmngmbgbcmhaaDoor
