/-
  DERIVED. GIVEN WITH THE SEED: THE CARDS: each row of YtpnjhodpbjhmcaaGreatDoorRows.lean that lists a variable, with what it lists TIED to the program's text (the seventh form; the later family's looks); each row that meets fmt, with fmt's text TOLD by the authors' own Lean function (tested against real Go, not proved from fmt's source: count such statements apart). THE CARD IS WHAT COUNTS. Prove the row's statement (the work); the ties are given (YtpnjhodpbjhmcaaGreatDoorTie.lean); close each card by the builder's one call (the guide's Derived/Test/ToyasCard.lean, 'card_holds'). Laid BY PROGRAM, IN A SANDBOX (cutbox-door.mjs). By AI agents, Wed Nov 11 2026. No macro, syntax, notation, axiom, sorry.
-/
import Derived.Test.YtpnjhodpbjhmcaaGreatDoorRows
import GoSem.ClaimSeven
namespace Go.Proofs.YtpnjhodpbjhmcaaGreatDoor
namespace Rows

/-- THE TIED CARD OF 'fuglemanlaw12.IlPrints'. -/
def ilPrintsCard : Claim7 := { stood := { row := ilPrintsRow, standIns := [], harness := (true, "6daa73e20f16ff62c428174e904d5c0d911b3370a51005192e1e1079dd02399b"), looks := false }, kinds := [], alts := [], laidByText := true, laidKinds := [.data, .data, .data, .data, .pinned], laidTests := true, laidLooks := .later }
def IlPrintsCardSaid : Prop := Claim7.holds Tryz.pinned (.plain (OpenSpec.ofChange ilPrintsSpec)) ilPrintsCard

/-- THE SECOND FORM's CARD OF 'fuglemanlaw12.IlPrints'. -/
def ilPrintsUptoCard : Claim7 := { stood := { row := ilPrintsUptoRow, standIns := [], harness := (true, "6daa73e20f16ff62c428174e904d5c0d911b3370a51005192e1e1079dd02399b"), looks := false }, kinds := [], alts := [], laidByText := true, laidKinds := [.data, .data, .data, .data, .pinned], laidTests := true, laidLooks := .later }
def IlPrintsUptoCardSaid : Prop := Claim7.holds Tryz.pinned (.plain (OpenSpec.upto ilPrintsSpec)) ilPrintsUptoCard
end Rows
end Go.Proofs.YtpnjhodpbjhmcaaGreatDoor
