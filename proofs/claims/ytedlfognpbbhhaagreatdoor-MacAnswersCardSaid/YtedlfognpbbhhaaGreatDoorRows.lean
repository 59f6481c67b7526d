/-
  NARROWER THAN 'FOR EVERY INPUT', by the rows' own cells (each row's printed sentence says how): MacRises: laid · MacOnce: laid · MacElder: laid · MacMine: laid · MacAnswers: laid.
  DERIVED. THE GIVEN ROWS OF THIS SEAT. 5 by the template 'for every input the law returns true; each argument reads behind the call as it read before'; 0 by the template 'total and deterministic' (their statements: YtedlfognpbbhhaaGreatDoorTotals.lean).
  GIVEN WITH THE SEED: the statements are not yours to turn. If you find one false, say at which input.
  Laid BY PROGRAM, IN A SANDBOX (cutbox-rows.mjs): the forced cells as the released guide's own fill.sh prints them over the translation 690b3bb5f7d9d059… (all of the seat's roots in one cut). By AI agents, Wed Nov 11 2026. No macro, syntax, notation, axiom, sorry.
-/
import Derived.Test.YtedlfognpbbhhaaGreatDoorChecked
import GoSem.Claim
import GoSem.ClaimJoined
import GoSem.ClaimMapViews
import Derived.JoinedTies
import Derived.KernelRfl
namespace Go.Proofs.YtedlfognpbbhhaaGreatDoor
/- THE CELL 'sum', in the pinned program and in every row, IS THE sha256 OF THE DUMP (.gsa) THAT YtedlfognpbbhhaaGreatDoorProg.lean LOADS. Nothing in Lean hashes anything: it is a label: what it is worth is what the hold of that sum in a sandbox is worth. -/
noncomputable def Tryz.pinned : Pinned := { name := "ytedlfognpbbhhaagreatdoor", sum := "690b3bb5f7d9d05989aabacaad517d577dc22c5d1b613c6737ad478aa58cd435", checked := Tryz.checked }
namespace Rows
def none {H : Type} : Left H := { results := [], args := [] }

/- WHAT THE LISTED PACKAGE-LEVEL VARIABLES READ AS WHEN THE CALL BEGINS. Each datum BY PROGRAM (the guide's laid-datum.mjs) off the statement by which the dump's own 'gosem.cut.vars' lays the variable. In a bare row this is a premise. The card (YtedlfognpbbhhaaGreatDoorCards.lean) ties it to the program's text. -/
def laid_math_bits_deBruijn32tab {H : Type} : DataW H := .agg [.lit (.int .u8 0), .lit (.int .u8 1), .lit (.int .u8 28), .lit (.int .u8 2), .lit (.int .u8 29), .lit (.int .u8 14), .lit (.int .u8 24), .lit (.int .u8 3), .lit (.int .u8 30), .lit (.int .u8 22), .lit (.int .u8 20), .lit (.int .u8 15), .lit (.int .u8 25), .lit (.int .u8 17), .lit (.int .u8 4), .lit (.int .u8 8), .lit (.int .u8 31), .lit (.int .u8 27), .lit (.int .u8 13), .lit (.int .u8 23), .lit (.int .u8 21), .lit (.int .u8 19), .lit (.int .u8 16), .lit (.int .u8 7), .lit (.int .u8 26), .lit (.int .u8 12), .lit (.int .u8 18), .lit (.int .u8 6), .lit (.int .u8 11), .lit (.int .u8 5), .lit (.int .u8 10), .lit (.int .u8 9)]

/-- 'fuglemanlaw21.MacRises': WHATEVER THE INPUT: true; the input reads as it did. -/
def macRisesSpec : ChangeSpec := { name := "macRises", fn := fun _ => fun
  | [d1, d2, d3] => { results := [.lit (.bool true)], args := [d1, d2, d3] }
  | _ => none }
def macRisesRow : OpenClaim := { program := "ytedlfognpbbhhaagreatdoor", sum := "690b3bb5f7d9d05989aabacaad517d577dc22c5d1b613c6737ad478aa58cd435", func := "fugleman/fuglemanlaw21.MacRises", spec := "macRises", named := ["math/bits.deBruijn32tab"], apart := false, laid := [("math/bits.deBruijn32tab", laid_math_bits_deBruijn32tab)] }
def MacRisesSaid : Prop := macRisesRow.holds Tryz.pinned (OpenSpec.ofChange macRisesSpec)

/-- ITS FALSE NEIGHBOUR: 'it returns false'. Refute it at one input. -/
def macRisesWrong : ChangeSpec := { name := "macRises", fn := fun _ => fun
  | [d1, d2, d3] => { results := [.lit (.bool false)], args := [d1, d2, d3] }
  | _ => none }
def MacRisesWrongFalsely : Prop := macRisesRow.holds Tryz.pinned (OpenSpec.ofChange macRisesWrong)

/-- 'fuglemanlaw21.MacOnce': WHATEVER THE INPUT: true; the input reads as it did. -/
def macOnceSpec : ChangeSpec := { name := "macOnce", fn := fun _ => fun
  | [d1, d2, d3] => { results := [.lit (.bool true)], args := [d1, d2, d3] }
  | _ => none }
def macOnceRow : OpenClaim := { program := "ytedlfognpbbhhaagreatdoor", sum := "690b3bb5f7d9d05989aabacaad517d577dc22c5d1b613c6737ad478aa58cd435", func := "fugleman/fuglemanlaw21.MacOnce", spec := "macOnce", named := ["math/bits.deBruijn32tab"], apart := false, laid := [("math/bits.deBruijn32tab", laid_math_bits_deBruijn32tab)] }
def MacOnceSaid : Prop := macOnceRow.holds Tryz.pinned (OpenSpec.ofChange macOnceSpec)

/-- ITS FALSE NEIGHBOUR: 'it returns false'. Refute it at one input. -/
def macOnceWrong : ChangeSpec := { name := "macOnce", fn := fun _ => fun
  | [d1, d2, d3] => { results := [.lit (.bool false)], args := [d1, d2, d3] }
  | _ => none }
def MacOnceWrongFalsely : Prop := macOnceRow.holds Tryz.pinned (OpenSpec.ofChange macOnceWrong)

/-- 'fuglemanlaw21.MacElder': WHATEVER THE INPUT: true; the input reads as it did. -/
def macElderSpec : ChangeSpec := { name := "macElder", fn := fun _ => fun
  | [d1, d2] => { results := [.lit (.bool true)], args := [d1, d2] }
  | _ => none }
def macElderRow : OpenClaim := { program := "ytedlfognpbbhhaagreatdoor", sum := "690b3bb5f7d9d05989aabacaad517d577dc22c5d1b613c6737ad478aa58cd435", func := "fugleman/fuglemanlaw21.MacElder", spec := "macElder", named := ["math/bits.deBruijn32tab"], apart := false, laid := [("math/bits.deBruijn32tab", laid_math_bits_deBruijn32tab)] }
def MacElderSaid : Prop := macElderRow.holds Tryz.pinned (OpenSpec.ofChange macElderSpec)

/-- ITS FALSE NEIGHBOUR: 'it returns false'. Refute it at one input. -/
def macElderWrong : ChangeSpec := { name := "macElder", fn := fun _ => fun
  | [d1, d2] => { results := [.lit (.bool false)], args := [d1, d2] }
  | _ => none }
def MacElderWrongFalsely : Prop := macElderRow.holds Tryz.pinned (OpenSpec.ofChange macElderWrong)

/-- 'fuglemanlaw21.MacMine': WHATEVER THE INPUT: true; the input reads as it did. -/
def macMineSpec : ChangeSpec := { name := "macMine", fn := fun _ => fun
  | [d1, d2, d3] => { results := [.lit (.bool true)], args := [d1, d2, d3] }
  | _ => none }
def macMineRow : OpenClaim := { program := "ytedlfognpbbhhaagreatdoor", sum := "690b3bb5f7d9d05989aabacaad517d577dc22c5d1b613c6737ad478aa58cd435", func := "fugleman/fuglemanlaw21.MacMine", spec := "macMine", named := ["math/bits.deBruijn32tab"], apart := false, laid := [("math/bits.deBruijn32tab", laid_math_bits_deBruijn32tab)] }
def MacMineSaid : Prop := macMineRow.holds Tryz.pinned (OpenSpec.ofChange macMineSpec)

/-- ITS FALSE NEIGHBOUR: 'it returns false'. Refute it at one input. -/
def macMineWrong : ChangeSpec := { name := "macMine", fn := fun _ => fun
  | [d1, d2, d3] => { results := [.lit (.bool false)], args := [d1, d2, d3] }
  | _ => none }
def MacMineWrongFalsely : Prop := macMineRow.holds Tryz.pinned (OpenSpec.ofChange macMineWrong)

/-- 'fuglemanlaw21.MacAnswers': WHATEVER THE INPUT: true; the input reads as it did. -/
def macAnswersSpec : ChangeSpec := { name := "macAnswers", fn := fun _ => fun
  | [d1, d2] => { results := [.lit (.bool true)], args := [d1, d2] }
  | _ => none }
def macAnswersRow : OpenClaim := { program := "ytedlfognpbbhhaagreatdoor", sum := "690b3bb5f7d9d05989aabacaad517d577dc22c5d1b613c6737ad478aa58cd435", func := "fugleman/fuglemanlaw21.MacAnswers", spec := "macAnswers", named := ["math/bits.deBruijn32tab"], apart := false, laid := [("math/bits.deBruijn32tab", laid_math_bits_deBruijn32tab)] }
def MacAnswersSaid : Prop := macAnswersRow.holds Tryz.pinned (OpenSpec.ofChange macAnswersSpec)

/-- ITS FALSE NEIGHBOUR: 'it returns false'. Refute it at one input. -/
def macAnswersWrong : ChangeSpec := { name := "macAnswers", fn := fun _ => fun
  | [d1, d2] => { results := [.lit (.bool false)], args := [d1, d2] }
  | _ => none }
def MacAnswersWrongFalsely : Prop := macAnswersRow.holds Tryz.pinned (OpenSpec.ofChange macAnswersWrong)

/- THE SECOND FORM. 'bulk': how many values and letters a reading holds, each counted each time it is reached (what is shared counts as often as it is met; a slice's spare places count too). A statement '..UptoSaid' is the law's where the arguments, and the package variables that the reading takes, are together of bulk at most 1048576: NARROWER than '..Said'. Prove '..Said' where nothing that the law and all that it calls make is longer than what came in: it says more and counts as full. Else prove '..UptoSaid'. A law counts once. -/
mutual
def uptoBulk {H : Type} : DataW H → Nat
  | .lit (.string bytes) => bytes.length + 1
  | .lit _ => 1
  | .nil => 1
  | .ptr d => uptoBulk d + 1
  | .slice elems spare => uptoBulkAll elems + uptoBulkAll spare + 1
  | .agg parts => uptoBulkAll parts + 1
  | .iface _ d => uptoBulk d + 1
  | .map entries => uptoBulkEntries entries + 1
  | .held _ => 1
def uptoBulkAll {H : Type} : List (DataW H) → Nat
  | [] => 0
  | d :: r => uptoBulk d + uptoBulkAll r
def uptoBulkEntries {H : Type} : List (Lit × DataW H) → Nat
  | [] => 0
  | x :: r => uptoBulkEntry x + uptoBulkEntries r
def uptoBulkEntry {H : Type} : Lit × DataW H → Nat
  | (.string bytes, d) => bytes.length + uptoBulk d + 1
  | (_, d) => uptoBulk d + 1
 end
def uptoSmall : (H : Type) → List (DataW H) → Bool := fun _ ds => decide (uptoBulkAll ds ≤ 1048576)
def OpenSpec.upto (s : _root_.Go.ChangeSpec) : _root_.Go.OpenSpec := { _root_.Go.OpenSpec.ofChange s with cond := some uptoSmall }

/-- 'fuglemanlaw21.MacRises', WHERE WHAT IT READS IS OF BULK AT MOST 1048576: true; the input reads as it did. -/
def macRisesUptoRow : OpenClaim := { program := "ytedlfognpbbhhaagreatdoor", sum := "690b3bb5f7d9d05989aabacaad517d577dc22c5d1b613c6737ad478aa58cd435", func := "fugleman/fuglemanlaw21.MacRises", spec := "macRises", named := ["math/bits.deBruijn32tab"], apart := false, laid := [("math/bits.deBruijn32tab", laid_math_bits_deBruijn32tab)], narrowed := true }
def MacRisesUptoSaid : Prop := macRisesUptoRow.holds Tryz.pinned (OpenSpec.upto macRisesSpec)

/-- 'fuglemanlaw21.MacOnce', WHERE WHAT IT READS IS OF BULK AT MOST 1048576: true; the input reads as it did. -/
def macOnceUptoRow : OpenClaim := { program := "ytedlfognpbbhhaagreatdoor", sum := "690b3bb5f7d9d05989aabacaad517d577dc22c5d1b613c6737ad478aa58cd435", func := "fugleman/fuglemanlaw21.MacOnce", spec := "macOnce", named := ["math/bits.deBruijn32tab"], apart := false, laid := [("math/bits.deBruijn32tab", laid_math_bits_deBruijn32tab)], narrowed := true }
def MacOnceUptoSaid : Prop := macOnceUptoRow.holds Tryz.pinned (OpenSpec.upto macOnceSpec)

/-- 'fuglemanlaw21.MacElder', WHERE WHAT IT READS IS OF BULK AT MOST 1048576: true; the input reads as it did. -/
def macElderUptoRow : OpenClaim := { program := "ytedlfognpbbhhaagreatdoor", sum := "690b3bb5f7d9d05989aabacaad517d577dc22c5d1b613c6737ad478aa58cd435", func := "fugleman/fuglemanlaw21.MacElder", spec := "macElder", named := ["math/bits.deBruijn32tab"], apart := false, laid := [("math/bits.deBruijn32tab", laid_math_bits_deBruijn32tab)], narrowed := true }
def MacElderUptoSaid : Prop := macElderUptoRow.holds Tryz.pinned (OpenSpec.upto macElderSpec)

/-- 'fuglemanlaw21.MacMine', WHERE WHAT IT READS IS OF BULK AT MOST 1048576: true; the input reads as it did. -/
def macMineUptoRow : OpenClaim := { program := "ytedlfognpbbhhaagreatdoor", sum := "690b3bb5f7d9d05989aabacaad517d577dc22c5d1b613c6737ad478aa58cd435", func := "fugleman/fuglemanlaw21.MacMine", spec := "macMine", named := ["math/bits.deBruijn32tab"], apart := false, laid := [("math/bits.deBruijn32tab", laid_math_bits_deBruijn32tab)], narrowed := true }
def MacMineUptoSaid : Prop := macMineUptoRow.holds Tryz.pinned (OpenSpec.upto macMineSpec)

/-- 'fuglemanlaw21.MacAnswers', WHERE WHAT IT READS IS OF BULK AT MOST 1048576: true; the input reads as it did. -/
def macAnswersUptoRow : OpenClaim := { program := "ytedlfognpbbhhaagreatdoor", sum := "690b3bb5f7d9d05989aabacaad517d577dc22c5d1b613c6737ad478aa58cd435", func := "fugleman/fuglemanlaw21.MacAnswers", spec := "macAnswers", named := ["math/bits.deBruijn32tab"], apart := false, laid := [("math/bits.deBruijn32tab", laid_math_bits_deBruijn32tab)], narrowed := true }
def MacAnswersUptoSaid : Prop := macAnswersUptoRow.holds Tryz.pinned (OpenSpec.upto macAnswersSpec)

end Rows
end Go.Proofs.YtedlfognpbbhhaaGreatDoor
