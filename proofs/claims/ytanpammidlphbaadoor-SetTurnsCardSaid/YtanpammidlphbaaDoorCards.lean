/-
  DERIVED. GIVEN WITH THE SEED: THE CARDS: each row of YtanpammidlphbaaDoorRows.lean that lists a variable, with what it lists TIED to the program's text (the seventh form; the later family's looks); each row that meets fmt, with fmt's text TOLD by the authors' own Lean function (tested against real Go, not proved from fmt's source: count such statements apart). THE CARD IS WHAT COUNTS. Prove the row's statement (the work); the ties are given (YtanpammidlphbaaDoorTie.lean); close each card by the builder's one call (the guide's Derived/Test/ToyasCard.lean, 'card_holds'). Laid BY PROGRAM, IN A SANDBOX (cutbox-door.mjs). By AI agents, Wed Nov 11 2026. No macro, syntax, notation, axiom, sorry.
-/
import Derived.Test.YtanpammidlphbaaDoorRows
import GoSem.ClaimSeven
namespace Go.Proofs.YtanpammidlphbaaDoor
namespace Rows

/-- THE TIED CARD OF 'whittlelaw01.SetMakes'. -/
def setMakesCard : Claim7 := { stood := { row := setMakesRow, standIns := [], harness := (true, "fdeb80b938777e2d39cb6047bc6bc08f659da886a4061f00308e48a6ecfacdee"), looks := false }, kinds := [], alts := [], laidByText := true, laidKinds := [.data], laidTests := true, laidLooks := .later }
def SetMakesCardSaid : Prop := Claim7.holds Tryd.pinned (.plain (OpenSpec.ofChange setMakesSpec)) setMakesCard

/-- THE TIED CARD OF 'whittlelaw01.SetTurns'. -/
def setTurnsCard : Claim7 := { stood := { row := setTurnsRow, standIns := [], harness := (true, "fdeb80b938777e2d39cb6047bc6bc08f659da886a4061f00308e48a6ecfacdee"), looks := false }, kinds := [], alts := [], laidByText := true, laidKinds := [.data], laidTests := true, laidLooks := .later }
def SetTurnsCardSaid : Prop := Claim7.holds Tryd.pinned (.plain (OpenSpec.ofChange setTurnsSpec)) setTurnsCard

/-- THE TIED CARD OF 'whittlelaw01.SetLaws'. -/
def setLawsCard : Claim7 := { stood := { row := setLawsRow, standIns := [], harness := (true, "fdeb80b938777e2d39cb6047bc6bc08f659da886a4061f00308e48a6ecfacdee"), looks := false }, kinds := [], alts := [], laidByText := true, laidKinds := [.data], laidTests := true, laidLooks := .later }
def SetLawsCardSaid : Prop := Claim7.holds Tryd.pinned (.plain (OpenSpec.ofChange setLawsSpec)) setLawsCard

/-- THE TIED CARD OF 'whittlelaw01.SetRows'. -/
def setRowsCard : Claim7 := { stood := { row := setRowsRow, standIns := [], harness := (true, "fdeb80b938777e2d39cb6047bc6bc08f659da886a4061f00308e48a6ecfacdee"), looks := false }, kinds := [], alts := [], laidByText := true, laidKinds := [.data], laidTests := true, laidLooks := .later }
def SetRowsCardSaid : Prop := Claim7.holds Tryd.pinned (.plain (OpenSpec.ofChange setRowsSpec)) setRowsCard

/-- THE SECOND FORM's CARD OF 'whittlelaw01.SetMakes'. -/
def setMakesUptoCard : Claim7 := { stood := { row := setMakesUptoRow, standIns := [], harness := (true, "fdeb80b938777e2d39cb6047bc6bc08f659da886a4061f00308e48a6ecfacdee"), looks := false }, kinds := [], alts := [], laidByText := true, laidKinds := [.data], laidTests := true, laidLooks := .later }
def SetMakesUptoCardSaid : Prop := Claim7.holds Tryd.pinned (.plain (OpenSpec.upto setMakesSpec)) setMakesUptoCard

/-- THE SECOND FORM's CARD OF 'whittlelaw01.SetTurns'. -/
def setTurnsUptoCard : Claim7 := { stood := { row := setTurnsUptoRow, standIns := [], harness := (true, "fdeb80b938777e2d39cb6047bc6bc08f659da886a4061f00308e48a6ecfacdee"), looks := false }, kinds := [], alts := [], laidByText := true, laidKinds := [.data], laidTests := true, laidLooks := .later }
def SetTurnsUptoCardSaid : Prop := Claim7.holds Tryd.pinned (.plain (OpenSpec.upto setTurnsSpec)) setTurnsUptoCard

/-- THE SECOND FORM's CARD OF 'whittlelaw01.SetLaws'. -/
def setLawsUptoCard : Claim7 := { stood := { row := setLawsUptoRow, standIns := [], harness := (true, "fdeb80b938777e2d39cb6047bc6bc08f659da886a4061f00308e48a6ecfacdee"), looks := false }, kinds := [], alts := [], laidByText := true, laidKinds := [.data], laidTests := true, laidLooks := .later }
def SetLawsUptoCardSaid : Prop := Claim7.holds Tryd.pinned (.plain (OpenSpec.upto setLawsSpec)) setLawsUptoCard

/-- THE SECOND FORM's CARD OF 'whittlelaw01.SetRows'. -/
def setRowsUptoCard : Claim7 := { stood := { row := setRowsUptoRow, standIns := [], harness := (true, "fdeb80b938777e2d39cb6047bc6bc08f659da886a4061f00308e48a6ecfacdee"), looks := false }, kinds := [], alts := [], laidByText := true, laidKinds := [.data], laidTests := true, laidLooks := .later }
def SetRowsUptoCardSaid : Prop := Claim7.holds Tryd.pinned (.plain (OpenSpec.upto setRowsSpec)) setRowsUptoCard
end Rows
end Go.Proofs.YtanpammidlphbaaDoor
