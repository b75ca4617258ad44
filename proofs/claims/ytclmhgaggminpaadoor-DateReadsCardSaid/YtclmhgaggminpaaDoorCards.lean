/-
  DERIVED. GIVEN WITH THE SEED: THE CARDS: each row of YtclmhgaggminpaaDoorRows.lean that lists a variable, with what it lists TIED to the program's text (the seventh form; the later family's looks); each row that meets fmt, with fmt's text TOLD by the authors' own Lean function (tested against real Go, not proved from fmt's source: count such statements apart). THE CARD IS WHAT COUNTS. Prove the row's statement (the work); the ties are given (YtclmhgaggminpaaDoorTie.lean); close each card by the builder's one call (the guide's Derived/Test/ToyasCard.lean, 'card_holds'). Laid BY PROGRAM, IN A SANDBOX (cutbox-door.mjs). By AI agents, Wed Nov 11 2026. No macro, syntax, notation, axiom, sorry.
-/
import Derived.Test.YtclmhgaggminpaaDoorRows
import GoSem.ClaimSeven
namespace Go.Proofs.YtclmhgaggminpaaDoor
namespace Rows

/-- THE TIED CARD OF 'arrearslaw07.DueCounts'. -/
def dueCountsCard : Claim7 := { stood := { row := dueCountsRow, standIns := [], harness := (true, "f583b86ffc71019a0b217f02852b059e0e70ac2a2e05537fd52f04dcaff0c151"), looks := true }, kinds := [], alts := [], laidByText := true, laidKinds := [.data, .data, .data, .sentinel, .sentinel, .data], laidTests := true, laidLooks := .later }
def DueCountsCardSaid : Prop := Claim7.holds Tryd.pinned (.plain (OpenSpec.ofChange dueCountsSpec)) dueCountsCard

/-- THE TIED CARD OF 'arrearslaw07.DueRight'. -/
def dueRightCard : Claim7 := { stood := { row := dueRightRow, standIns := [], harness := (true, "f583b86ffc71019a0b217f02852b059e0e70ac2a2e05537fd52f04dcaff0c151"), looks := true }, kinds := [], alts := [], laidByText := true, laidKinds := [.data, .data, .data, .sentinel, .sentinel, .data], laidTests := true, laidLooks := .later }
def DueRightCardSaid : Prop := Claim7.holds Tryd.pinned (.plain (OpenSpec.ofChange dueRightSpec)) dueRightCard

/-- THE TIED CARD OF 'arrearslaw07.DueLasts'. -/
def dueLastsCard : Claim7 := { stood := { row := dueLastsRow, standIns := [], harness := (true, "f583b86ffc71019a0b217f02852b059e0e70ac2a2e05537fd52f04dcaff0c151"), looks := true }, kinds := [], alts := [], laidByText := true, laidKinds := [.data, .data, .data, .sentinel, .sentinel, .data], laidTests := true, laidLooks := .later }
def DueLastsCardSaid : Prop := Claim7.holds Tryd.pinned (.plain (OpenSpec.ofChange dueLastsSpec)) dueLastsCard

/-- THE TIED CARD OF 'arrearslaw05.DateReads'. -/
def dateReadsCard : Claim7 := { stood := { row := dateReadsRow, standIns := [], harness := (true, "f583b86ffc71019a0b217f02852b059e0e70ac2a2e05537fd52f04dcaff0c151"), looks := true }, kinds := [], alts := [], laidByText := true, laidKinds := [.data, .data, .data, .handle, .sentinel, .sentinel, .data], laidTests := true, laidLooks := .later }
def DateReadsCardSaid : Prop := Claim7.holds Tryd.pinned (.plain (OpenSpec.ofChange dateReadsSpec)) dateReadsCard

/-- THE SECOND FORM's CARD OF 'arrearslaw07.DueCounts'. -/
def dueCountsUptoCard : Claim7 := { stood := { row := dueCountsUptoRow, standIns := [], harness := (true, "f583b86ffc71019a0b217f02852b059e0e70ac2a2e05537fd52f04dcaff0c151"), looks := true }, kinds := [], alts := [], laidByText := true, laidKinds := [.data, .data, .data, .sentinel, .sentinel, .data], laidTests := true, laidLooks := .later }
def DueCountsUptoCardSaid : Prop := Claim7.holds Tryd.pinned (.plain (OpenSpec.upto dueCountsSpec)) dueCountsUptoCard

/-- THE SECOND FORM's CARD OF 'arrearslaw07.DueRight'. -/
def dueRightUptoCard : Claim7 := { stood := { row := dueRightUptoRow, standIns := [], harness := (true, "f583b86ffc71019a0b217f02852b059e0e70ac2a2e05537fd52f04dcaff0c151"), looks := true }, kinds := [], alts := [], laidByText := true, laidKinds := [.data, .data, .data, .sentinel, .sentinel, .data], laidTests := true, laidLooks := .later }
def DueRightUptoCardSaid : Prop := Claim7.holds Tryd.pinned (.plain (OpenSpec.upto dueRightSpec)) dueRightUptoCard

/-- THE SECOND FORM's CARD OF 'arrearslaw07.DueLasts'. -/
def dueLastsUptoCard : Claim7 := { stood := { row := dueLastsUptoRow, standIns := [], harness := (true, "f583b86ffc71019a0b217f02852b059e0e70ac2a2e05537fd52f04dcaff0c151"), looks := true }, kinds := [], alts := [], laidByText := true, laidKinds := [.data, .data, .data, .sentinel, .sentinel, .data], laidTests := true, laidLooks := .later }
def DueLastsUptoCardSaid : Prop := Claim7.holds Tryd.pinned (.plain (OpenSpec.upto dueLastsSpec)) dueLastsUptoCard

/-- THE SECOND FORM's CARD OF 'arrearslaw05.DateReads'. -/
def dateReadsUptoCard : Claim7 := { stood := { row := dateReadsUptoRow, standIns := [], harness := (true, "f583b86ffc71019a0b217f02852b059e0e70ac2a2e05537fd52f04dcaff0c151"), looks := true }, kinds := [], alts := [], laidByText := true, laidKinds := [.data, .data, .data, .handle, .sentinel, .sentinel, .data], laidTests := true, laidLooks := .later }
def DateReadsUptoCardSaid : Prop := Claim7.holds Tryd.pinned (.plain (OpenSpec.upto dateReadsSpec)) dateReadsUptoCard
end Rows
end Go.Proofs.YtclmhgaggminpaaDoor
