/-
  DERIVED. GIVEN WITH THE SEED: THE CARDS: each row of YtedlfognpbbhhaaGreatDoorRows.lean that lists a variable, with what it lists TIED to the program's text (the seventh form; the later family's looks); each row that meets fmt, with fmt's text TOLD by the authors' own Lean function (tested against real Go, not proved from fmt's source: count such statements apart). THE CARD IS WHAT COUNTS. Prove the row's statement (the work); the ties are given (YtedlfognpbbhhaaGreatDoorTie.lean); close each card by the builder's one call (the guide's Derived/Test/ToyasCard.lean, 'card_holds'). Laid BY PROGRAM, IN A SANDBOX (cutbox-door.mjs). By AI agents, Wed Nov 11 2026. No macro, syntax, notation, axiom, sorry.
-/
import Derived.Test.YtedlfognpbbhhaaGreatDoorRows
import GoSem.ClaimSeven
namespace Go.Proofs.YtedlfognpbbhhaaGreatDoor
namespace Rows

/-- THE TIED CARD OF 'fuglemanlaw21.MacRises'. -/
def macRisesCard : Claim7 := { stood := { row := macRisesRow, standIns := [], harness := (true, "b409b129eb46a460c59a67deb5eb9a1a4618a8534c47272602f7a4d0c8bef15c"), looks := false }, kinds := [], alts := [], laidByText := true, laidKinds := [.data], laidTests := true, laidLooks := .later }
def MacRisesCardSaid : Prop := Claim7.holds Tryz.pinned (.plain (OpenSpec.ofChange macRisesSpec)) macRisesCard

/-- THE TIED CARD OF 'fuglemanlaw21.MacOnce'. -/
def macOnceCard : Claim7 := { stood := { row := macOnceRow, standIns := [], harness := (true, "b409b129eb46a460c59a67deb5eb9a1a4618a8534c47272602f7a4d0c8bef15c"), looks := false }, kinds := [], alts := [], laidByText := true, laidKinds := [.data], laidTests := true, laidLooks := .later }
def MacOnceCardSaid : Prop := Claim7.holds Tryz.pinned (.plain (OpenSpec.ofChange macOnceSpec)) macOnceCard

/-- THE TIED CARD OF 'fuglemanlaw21.MacElder'. -/
def macElderCard : Claim7 := { stood := { row := macElderRow, standIns := [], harness := (true, "b409b129eb46a460c59a67deb5eb9a1a4618a8534c47272602f7a4d0c8bef15c"), looks := false }, kinds := [], alts := [], laidByText := true, laidKinds := [.data], laidTests := true, laidLooks := .later }
def MacElderCardSaid : Prop := Claim7.holds Tryz.pinned (.plain (OpenSpec.ofChange macElderSpec)) macElderCard

/-- THE TIED CARD OF 'fuglemanlaw21.MacMine'. -/
def macMineCard : Claim7 := { stood := { row := macMineRow, standIns := [], harness := (true, "b409b129eb46a460c59a67deb5eb9a1a4618a8534c47272602f7a4d0c8bef15c"), looks := false }, kinds := [], alts := [], laidByText := true, laidKinds := [.data], laidTests := true, laidLooks := .later }
def MacMineCardSaid : Prop := Claim7.holds Tryz.pinned (.plain (OpenSpec.ofChange macMineSpec)) macMineCard

/-- THE TIED CARD OF 'fuglemanlaw21.MacAnswers'. -/
def macAnswersCard : Claim7 := { stood := { row := macAnswersRow, standIns := [], harness := (true, "b409b129eb46a460c59a67deb5eb9a1a4618a8534c47272602f7a4d0c8bef15c"), looks := false }, kinds := [], alts := [], laidByText := true, laidKinds := [.data], laidTests := true, laidLooks := .later }
def MacAnswersCardSaid : Prop := Claim7.holds Tryz.pinned (.plain (OpenSpec.ofChange macAnswersSpec)) macAnswersCard

/-- THE SECOND FORM's CARD OF 'fuglemanlaw21.MacRises'. -/
def macRisesUptoCard : Claim7 := { stood := { row := macRisesUptoRow, standIns := [], harness := (true, "b409b129eb46a460c59a67deb5eb9a1a4618a8534c47272602f7a4d0c8bef15c"), looks := false }, kinds := [], alts := [], laidByText := true, laidKinds := [.data], laidTests := true, laidLooks := .later }
def MacRisesUptoCardSaid : Prop := Claim7.holds Tryz.pinned (.plain (OpenSpec.upto macRisesSpec)) macRisesUptoCard

/-- THE SECOND FORM's CARD OF 'fuglemanlaw21.MacOnce'. -/
def macOnceUptoCard : Claim7 := { stood := { row := macOnceUptoRow, standIns := [], harness := (true, "b409b129eb46a460c59a67deb5eb9a1a4618a8534c47272602f7a4d0c8bef15c"), looks := false }, kinds := [], alts := [], laidByText := true, laidKinds := [.data], laidTests := true, laidLooks := .later }
def MacOnceUptoCardSaid : Prop := Claim7.holds Tryz.pinned (.plain (OpenSpec.upto macOnceSpec)) macOnceUptoCard

/-- THE SECOND FORM's CARD OF 'fuglemanlaw21.MacElder'. -/
def macElderUptoCard : Claim7 := { stood := { row := macElderUptoRow, standIns := [], harness := (true, "b409b129eb46a460c59a67deb5eb9a1a4618a8534c47272602f7a4d0c8bef15c"), looks := false }, kinds := [], alts := [], laidByText := true, laidKinds := [.data], laidTests := true, laidLooks := .later }
def MacElderUptoCardSaid : Prop := Claim7.holds Tryz.pinned (.plain (OpenSpec.upto macElderSpec)) macElderUptoCard

/-- THE SECOND FORM's CARD OF 'fuglemanlaw21.MacMine'. -/
def macMineUptoCard : Claim7 := { stood := { row := macMineUptoRow, standIns := [], harness := (true, "b409b129eb46a460c59a67deb5eb9a1a4618a8534c47272602f7a4d0c8bef15c"), looks := false }, kinds := [], alts := [], laidByText := true, laidKinds := [.data], laidTests := true, laidLooks := .later }
def MacMineUptoCardSaid : Prop := Claim7.holds Tryz.pinned (.plain (OpenSpec.upto macMineSpec)) macMineUptoCard

/-- THE SECOND FORM's CARD OF 'fuglemanlaw21.MacAnswers'. -/
def macAnswersUptoCard : Claim7 := { stood := { row := macAnswersUptoRow, standIns := [], harness := (true, "b409b129eb46a460c59a67deb5eb9a1a4618a8534c47272602f7a4d0c8bef15c"), looks := false }, kinds := [], alts := [], laidByText := true, laidKinds := [.data], laidTests := true, laidLooks := .later }
def MacAnswersUptoCardSaid : Prop := Claim7.holds Tryz.pinned (.plain (OpenSpec.upto macAnswersSpec)) macAnswersUptoCard
end Rows
end Go.Proofs.YtedlfognpbbhhaaGreatDoor
