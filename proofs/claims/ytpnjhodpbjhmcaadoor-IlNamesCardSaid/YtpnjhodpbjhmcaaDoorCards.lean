/-
  DERIVED. GIVEN WITH THE SEED: THE CARDS: each row of YtpnjhodpbjhmcaaDoorRows.lean that lists a variable, with what it lists TIED to the program's text (the seventh form; the later family's looks); each row that meets fmt, with fmt's text TOLD by the authors' own Lean function (tested against real Go, not proved from fmt's source: count such statements apart). THE CARD IS WHAT COUNTS. Prove the row's statement (the work); the ties are given (YtpnjhodpbjhmcaaDoorTie.lean); close each card by the builder's one call (the guide's Derived/Test/ToyasCard.lean, 'card_holds'). Laid BY PROGRAM, IN A SANDBOX (cutbox-door.mjs). By AI agents, Wed Nov 11 2026. No macro, syntax, notation, axiom, sorry.
-/
import Derived.Test.YtpnjhodpbjhmcaaDoorRows
import GoSem.ClaimSeven
namespace Go.Proofs.YtpnjhodpbjhmcaaDoor
namespace Rows

/-- THE TIED CARD OF 'fuglemanlaw12.IlRight'. -/
def ilRightCard : Claim7 := { stood := { row := ilRightRow, standIns := [], harness := (true, "a046bba6b370c20b7530ba9c85a7e6f6597ae818724483f924135a9efdf85bc5"), looks := false }, kinds := [], alts := [], laidByText := true, laidKinds := [.data, .data, .data, .data, .pinned], laidTests := true, laidLooks := .later }
def IlRightCardSaid : Prop := Claim7.holds Tryd.pinned (.plain (OpenSpec.ofChange ilRightSpec)) ilRightCard

/-- THE TIED CARD OF 'fuglemanlaw12.IlTwins'. -/
def ilTwinsCard : Claim7 := { stood := { row := ilTwinsRow, standIns := [], harness := (true, "a046bba6b370c20b7530ba9c85a7e6f6597ae818724483f924135a9efdf85bc5"), looks := false }, kinds := [], alts := [], laidByText := true, laidKinds := [.data, .data, .data, .data, .pinned], laidTests := true, laidLooks := .later }
def IlTwinsCardSaid : Prop := Claim7.holds Tryd.pinned (.plain (OpenSpec.ofChange ilTwinsSpec)) ilTwinsCard

/-- THE TIED CARD OF 'fuglemanlaw12.IlNames'. -/
def ilNamesCard : Claim7 := { stood := { row := ilNamesRow, standIns := [], harness := (true, "a046bba6b370c20b7530ba9c85a7e6f6597ae818724483f924135a9efdf85bc5"), looks := false }, kinds := [], alts := [], laidByText := true, laidKinds := [.data, .data, .data, .data, .pinned], laidTests := true, laidLooks := .later }
def IlNamesCardSaid : Prop := Claim7.holds Tryd.pinned (.plain (OpenSpec.ofChange ilNamesSpec)) ilNamesCard

/-- THE SECOND FORM's CARD OF 'fuglemanlaw12.IlRight'. -/
def ilRightUptoCard : Claim7 := { stood := { row := ilRightUptoRow, standIns := [], harness := (true, "a046bba6b370c20b7530ba9c85a7e6f6597ae818724483f924135a9efdf85bc5"), looks := false }, kinds := [], alts := [], laidByText := true, laidKinds := [.data, .data, .data, .data, .pinned], laidTests := true, laidLooks := .later }
def IlRightUptoCardSaid : Prop := Claim7.holds Tryd.pinned (.plain (OpenSpec.upto ilRightSpec)) ilRightUptoCard

/-- THE SECOND FORM's CARD OF 'fuglemanlaw12.IlTwins'. -/
def ilTwinsUptoCard : Claim7 := { stood := { row := ilTwinsUptoRow, standIns := [], harness := (true, "a046bba6b370c20b7530ba9c85a7e6f6597ae818724483f924135a9efdf85bc5"), looks := false }, kinds := [], alts := [], laidByText := true, laidKinds := [.data, .data, .data, .data, .pinned], laidTests := true, laidLooks := .later }
def IlTwinsUptoCardSaid : Prop := Claim7.holds Tryd.pinned (.plain (OpenSpec.upto ilTwinsSpec)) ilTwinsUptoCard

/-- THE SECOND FORM's CARD OF 'fuglemanlaw12.IlNames'. -/
def ilNamesUptoCard : Claim7 := { stood := { row := ilNamesUptoRow, standIns := [], harness := (true, "a046bba6b370c20b7530ba9c85a7e6f6597ae818724483f924135a9efdf85bc5"), looks := false }, kinds := [], alts := [], laidByText := true, laidKinds := [.data, .data, .data, .data, .pinned], laidTests := true, laidLooks := .later }
def IlNamesUptoCardSaid : Prop := Claim7.holds Tryd.pinned (.plain (OpenSpec.upto ilNamesSpec)) ilNamesUptoCard
end Rows
end Go.Proofs.YtpnjhodpbjhmcaaDoor
