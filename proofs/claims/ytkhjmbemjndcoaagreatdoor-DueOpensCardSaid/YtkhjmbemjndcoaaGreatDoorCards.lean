/-
  DERIVED. GIVEN WITH THE SEED: THE CARDS: each row of YtkhjmbemjndcoaaGreatDoorRows.lean that lists a variable, with what it lists TIED to the program's text (the seventh form; the later family's looks); each row that meets fmt, with fmt's text TOLD by the authors' own Lean function (tested against real Go, not proved from fmt's source: count such statements apart). THE CARD IS WHAT COUNTS. Prove the row's statement (the work); the ties are given (YtkhjmbemjndcoaaGreatDoorTie.lean); close each card by the builder's one call (the guide's Derived/Test/ToyasCard.lean, 'card_holds'). Laid BY PROGRAM, IN A SANDBOX (cutbox-door.mjs). By AI agents, Wed Nov 11 2026. No macro, syntax, notation, axiom, sorry.
-/
import Derived.Test.YtkhjmbemjndcoaaGreatDoorRows
import GoSem.ClaimSeven
namespace Go.Proofs.YtkhjmbemjndcoaaGreatDoor
namespace Rows

/-- THE TIED CARD OF 'arrearslaw07.DueRolls'. -/
def dueRollsCard : Claim7 := { stood := { row := dueRollsRow, standIns := [], harness := (true, "d950325b8e6475f20a8fc0c483564292d0ecfb2b005606947bf7a1cfbdc212d5"), looks := true }, kinds := [], alts := [], laidByText := true, laidKinds := [.data, .data, .data, .handle, .sentinel, .sentinel, .data], laidTests := true, laidLooks := .later }
def DueRollsCardSaid : Prop := Claim7.holds Tryz.pinned (.plain (OpenSpec.ofChange dueRollsSpec)) dueRollsCard

/-- THE TIED CARD OF 'arrearslaw07.DueOpens'. -/
def dueOpensCard : Claim7 := { stood := { row := dueOpensRow, standIns := [], harness := (true, "d950325b8e6475f20a8fc0c483564292d0ecfb2b005606947bf7a1cfbdc212d5"), looks := true }, kinds := [], alts := [], laidByText := true, laidKinds := [.data, .data, .data, .handle, .sentinel, .sentinel, .data], laidTests := true, laidLooks := .later }
def DueOpensCardSaid : Prop := Claim7.holds Tryz.pinned (.plain (OpenSpec.ofChange dueOpensSpec)) dueOpensCard

/-- THE TIED CARD OF 'arrearslaw07.DueNext'. -/
def dueNextCard : Claim7 := { stood := { row := dueNextRow, standIns := [], harness := (true, "d950325b8e6475f20a8fc0c483564292d0ecfb2b005606947bf7a1cfbdc212d5"), looks := true }, kinds := [], alts := [], laidByText := true, laidKinds := [.data, .data, .data, .handle, .sentinel, .sentinel, .data], laidTests := true, laidLooks := .later }
def DueNextCardSaid : Prop := Claim7.holds Tryz.pinned (.plain (OpenSpec.ofChange dueNextSpec)) dueNextCard

/-- THE SECOND FORM's CARD OF 'arrearslaw07.DueRolls'. -/
def dueRollsUptoCard : Claim7 := { stood := { row := dueRollsUptoRow, standIns := [], harness := (true, "d950325b8e6475f20a8fc0c483564292d0ecfb2b005606947bf7a1cfbdc212d5"), looks := true }, kinds := [], alts := [], laidByText := true, laidKinds := [.data, .data, .data, .handle, .sentinel, .sentinel, .data], laidTests := true, laidLooks := .later }
def DueRollsUptoCardSaid : Prop := Claim7.holds Tryz.pinned (.plain (OpenSpec.upto dueRollsSpec)) dueRollsUptoCard

/-- THE SECOND FORM's CARD OF 'arrearslaw07.DueOpens'. -/
def dueOpensUptoCard : Claim7 := { stood := { row := dueOpensUptoRow, standIns := [], harness := (true, "d950325b8e6475f20a8fc0c483564292d0ecfb2b005606947bf7a1cfbdc212d5"), looks := true }, kinds := [], alts := [], laidByText := true, laidKinds := [.data, .data, .data, .handle, .sentinel, .sentinel, .data], laidTests := true, laidLooks := .later }
def DueOpensUptoCardSaid : Prop := Claim7.holds Tryz.pinned (.plain (OpenSpec.upto dueOpensSpec)) dueOpensUptoCard

/-- THE SECOND FORM's CARD OF 'arrearslaw07.DueNext'. -/
def dueNextUptoCard : Claim7 := { stood := { row := dueNextUptoRow, standIns := [], harness := (true, "d950325b8e6475f20a8fc0c483564292d0ecfb2b005606947bf7a1cfbdc212d5"), looks := true }, kinds := [], alts := [], laidByText := true, laidKinds := [.data, .data, .data, .handle, .sentinel, .sentinel, .data], laidTests := true, laidLooks := .later }
def DueNextUptoCardSaid : Prop := Claim7.holds Tryz.pinned (.plain (OpenSpec.upto dueNextSpec)) dueNextUptoCard
end Rows
end Go.Proofs.YtkhjmbemjndcoaaGreatDoor
