/-
  DERIVED. GIVEN WITH THE SEED: THE CARDS: each row of YtpbfipeinblfgaaGreatDoorRows.lean that lists a variable, with what it lists TIED to the program's text (the seventh form; the later family's looks); each row that meets fmt, with fmt's text TOLD by the authors' own Lean function (tested against real Go, not proved from fmt's source: count such statements apart). THE CARD IS WHAT COUNTS. Prove the row's statement (the work); the ties are given (YtpbfipeinblfgaaGreatDoorTie.lean); close each card by the builder's one call (the guide's Derived/Test/ToyasCard.lean, 'card_holds'). Laid BY PROGRAM, IN A SANDBOX (cutbox-door.mjs). By AI agents, Wed Nov 11 2026. No macro, syntax, notation, axiom, sorry.
-/
import Derived.Test.YtpbfipeinblfgaaGreatDoorRows
import GoSem.ClaimSeven
namespace Go.Proofs.YtpbfipeinblfgaaGreatDoor
namespace Rows

/-- THE TIED CARD OF 'arrearslaw17.StoryOrders'. -/
def storyOrdersCard : Claim7 := { stood := { row := storyOrdersRow, standIns := [], harness := (true, "9be8e5ddab52d1a9d112d775082405dd62c4c36557387d825330dba2dad8817e"), looks := true }, kinds := [], alts := [], laidByText := true, laidKinds := [.data, .data, .data, .data, .sentinel, .sentinel, .data, .pinned], laidTests := true, laidLooks := .later }
def StoryOrdersCardSaid : Prop := Claim7.holds Tryz.pinned (.plain (OpenSpec.ofChange storyOrdersSpec)) storyOrdersCard

/-- THE TIED CARD OF 'arrearslaw17.StoryAdds'. -/
def storyAddsCard : Claim7 := { stood := { row := storyAddsRow, standIns := [], harness := (true, "9be8e5ddab52d1a9d112d775082405dd62c4c36557387d825330dba2dad8817e"), looks := true }, kinds := [], alts := [], laidByText := true, laidKinds := [.data, .data, .data, .data, .sentinel, .sentinel, .data, .pinned], laidTests := true, laidLooks := .later }
def StoryAddsCardSaid : Prop := Claim7.holds Tryz.pinned (.plain (OpenSpec.ofChange storyAddsSpec)) storyAddsCard

/-- THE TIED CARD OF 'arrearslaw17.StoryQuiet'. -/
def storyQuietCard : Claim7 := { stood := { row := storyQuietRow, standIns := [], harness := (true, "9be8e5ddab52d1a9d112d775082405dd62c4c36557387d825330dba2dad8817e"), looks := true }, kinds := [], alts := [], laidByText := true, laidKinds := [.data, .data, .data, .data, .sentinel, .sentinel, .data, .pinned], laidTests := true, laidLooks := .later }
def StoryQuietCardSaid : Prop := Claim7.holds Tryz.pinned (.plain (OpenSpec.ofChange storyQuietSpec)) storyQuietCard

/-- THE SECOND FORM's CARD OF 'arrearslaw17.StoryOrders'. -/
def storyOrdersUptoCard : Claim7 := { stood := { row := storyOrdersUptoRow, standIns := [], harness := (true, "9be8e5ddab52d1a9d112d775082405dd62c4c36557387d825330dba2dad8817e"), looks := true }, kinds := [], alts := [], laidByText := true, laidKinds := [.data, .data, .data, .data, .sentinel, .sentinel, .data, .pinned], laidTests := true, laidLooks := .later }
def StoryOrdersUptoCardSaid : Prop := Claim7.holds Tryz.pinned (.plain (OpenSpec.upto storyOrdersSpec)) storyOrdersUptoCard

/-- THE SECOND FORM's CARD OF 'arrearslaw17.StoryAdds'. -/
def storyAddsUptoCard : Claim7 := { stood := { row := storyAddsUptoRow, standIns := [], harness := (true, "9be8e5ddab52d1a9d112d775082405dd62c4c36557387d825330dba2dad8817e"), looks := true }, kinds := [], alts := [], laidByText := true, laidKinds := [.data, .data, .data, .data, .sentinel, .sentinel, .data, .pinned], laidTests := true, laidLooks := .later }
def StoryAddsUptoCardSaid : Prop := Claim7.holds Tryz.pinned (.plain (OpenSpec.upto storyAddsSpec)) storyAddsUptoCard

/-- THE SECOND FORM's CARD OF 'arrearslaw17.StoryQuiet'. -/
def storyQuietUptoCard : Claim7 := { stood := { row := storyQuietUptoRow, standIns := [], harness := (true, "9be8e5ddab52d1a9d112d775082405dd62c4c36557387d825330dba2dad8817e"), looks := true }, kinds := [], alts := [], laidByText := true, laidKinds := [.data, .data, .data, .data, .sentinel, .sentinel, .data, .pinned], laidTests := true, laidLooks := .later }
def StoryQuietUptoCardSaid : Prop := Claim7.holds Tryz.pinned (.plain (OpenSpec.upto storyQuietSpec)) storyQuietUptoCard
end Rows
end Go.Proofs.YtpbfipeinblfgaaGreatDoor
