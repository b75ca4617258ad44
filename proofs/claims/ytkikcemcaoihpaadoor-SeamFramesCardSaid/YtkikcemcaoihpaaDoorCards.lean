/-
  DERIVED. GIVEN WITH THE SEED: THE CARDS: each row of YtkikcemcaoihpaaDoorRows.lean that lists a variable, with what it lists TIED to the program's text (the seventh form; the later family's looks); each row that meets fmt, with fmt's text TOLD by the authors' own Lean function (tested against real Go, not proved from fmt's source: count such statements apart). THE CARD IS WHAT COUNTS. Prove the row's statement (the work); the ties are given (YtkikcemcaoihpaaDoorTie.lean); close each card by the builder's one call (the guide's Derived/Test/ToyasCard.lean, 'card_holds'). Laid BY PROGRAM, IN A SANDBOX (cutbox-door.mjs). By AI agents, Wed Nov 11 2026. No macro, syntax, notation, axiom, sorry.
-/
import Derived.Test.YtkikcemcaoihpaaDoorRows
import GoSem.ClaimSeven
namespace Go.Proofs.YtkikcemcaoihpaaDoor
namespace Rows

/-- THE TIED CARD OF 'arrearslaw01.DrumPlays'. -/
def drumPlaysCard : Claim7 := { stood := { row := drumPlaysRow, standIns := [], harness := (true, "facb0503a462f6cac9731424cfb65ff9e6664651b8bba83cfc3de558d5e79e8d"), looks := true }, kinds := [], alts := [], laidByText := true, laidKinds := [.handle], laidTests := true, laidLooks := .later }
def DrumPlaysCardSaid : Prop := Claim7.holds Tryd.pinned (.plain (OpenSpec.ofChange drumPlaysSpec)) drumPlaysCard

/-- THE TIED CARD OF 'arrearslaw01.DrumArms'. -/
def drumArmsCard : Claim7 := { stood := { row := drumArmsRow, standIns := [], harness := (true, "facb0503a462f6cac9731424cfb65ff9e6664651b8bba83cfc3de558d5e79e8d"), looks := true }, kinds := [], alts := [], laidByText := true, laidKinds := [.handle], laidTests := true, laidLooks := .later }
def DrumArmsCardSaid : Prop := Claim7.holds Tryd.pinned (.plain (OpenSpec.ofChange drumArmsSpec)) drumArmsCard

/-- THE TIED CARD OF 'arrearslaw01.DrumOwns'. -/
def drumOwnsCard : Claim7 := { stood := { row := drumOwnsRow, standIns := [], harness := (true, "facb0503a462f6cac9731424cfb65ff9e6664651b8bba83cfc3de558d5e79e8d"), looks := true }, kinds := [], alts := [], laidByText := true, laidKinds := [.handle], laidTests := true, laidLooks := .later }
def DrumOwnsCardSaid : Prop := Claim7.holds Tryd.pinned (.plain (OpenSpec.ofChange drumOwnsSpec)) drumOwnsCard

/-- THE TIED CARD OF 'arrearslaw02.SeamFrames'. -/
def seamFramesCard : Claim7 := { stood := { row := seamFramesRow, standIns := [], harness := (true, "facb0503a462f6cac9731424cfb65ff9e6664651b8bba83cfc3de558d5e79e8d"), looks := true }, kinds := [], alts := [], laidByText := true, laidKinds := [.handle], laidTests := true, laidLooks := .later }
def SeamFramesCardSaid : Prop := Claim7.holds Tryd.pinned (.plain (OpenSpec.ofChange seamFramesSpec)) seamFramesCard

/-- THE TIED CARD OF 'arrearslaw02.SeamTakes'. -/
def seamTakesCard : Claim7 := { stood := { row := seamTakesRow, standIns := [], harness := (true, "facb0503a462f6cac9731424cfb65ff9e6664651b8bba83cfc3de558d5e79e8d"), looks := true }, kinds := [], alts := [], laidByText := true, laidKinds := [.handle], laidTests := true, laidLooks := .later }
def SeamTakesCardSaid : Prop := Claim7.holds Tryd.pinned (.plain (OpenSpec.ofChange seamTakesSpec)) seamTakesCard

/-- THE TIED CARD OF 'arrearslaw02.SeamShows'. -/
def seamShowsCard : Claim7 := { stood := { row := seamShowsRow, standIns := [], harness := (true, "facb0503a462f6cac9731424cfb65ff9e6664651b8bba83cfc3de558d5e79e8d"), looks := true }, kinds := [], alts := [], laidByText := true, laidKinds := [.handle], laidTests := true, laidLooks := .later }
def SeamShowsCardSaid : Prop := Claim7.holds Tryd.pinned (.plain (OpenSpec.ofChange seamShowsSpec)) seamShowsCard

/-- THE TIED CARD OF 'arrearslaw02.SeamCuts'. -/
def seamCutsCard : Claim7 := { stood := { row := seamCutsRow, standIns := [], harness := (true, "facb0503a462f6cac9731424cfb65ff9e6664651b8bba83cfc3de558d5e79e8d"), looks := true }, kinds := [], alts := [], laidByText := true, laidKinds := [.handle], laidTests := true, laidLooks := .later }
def SeamCutsCardSaid : Prop := Claim7.holds Tryd.pinned (.plain (OpenSpec.ofChange seamCutsSpec)) seamCutsCard

/-- THE TIED CARD OF 'arrearslaw02.SeamRows'. -/
def seamRowsCard : Claim7 := { stood := { row := seamRowsRow, standIns := [], harness := (true, "facb0503a462f6cac9731424cfb65ff9e6664651b8bba83cfc3de558d5e79e8d"), looks := true }, kinds := [], alts := [], laidByText := true, laidKinds := [.handle], laidTests := true, laidLooks := .later }
def SeamRowsCardSaid : Prop := Claim7.holds Tryd.pinned (.plain (OpenSpec.ofChange seamRowsSpec)) seamRowsCard

/-- THE SECOND FORM's CARD OF 'arrearslaw01.DrumPlays'. -/
def drumPlaysUptoCard : Claim7 := { stood := { row := drumPlaysUptoRow, standIns := [], harness := (true, "facb0503a462f6cac9731424cfb65ff9e6664651b8bba83cfc3de558d5e79e8d"), looks := true }, kinds := [], alts := [], laidByText := true, laidKinds := [.handle], laidTests := true, laidLooks := .later }
def DrumPlaysUptoCardSaid : Prop := Claim7.holds Tryd.pinned (.plain (OpenSpec.upto drumPlaysSpec)) drumPlaysUptoCard

/-- THE SECOND FORM's CARD OF 'arrearslaw01.DrumArms'. -/
def drumArmsUptoCard : Claim7 := { stood := { row := drumArmsUptoRow, standIns := [], harness := (true, "facb0503a462f6cac9731424cfb65ff9e6664651b8bba83cfc3de558d5e79e8d"), looks := true }, kinds := [], alts := [], laidByText := true, laidKinds := [.handle], laidTests := true, laidLooks := .later }
def DrumArmsUptoCardSaid : Prop := Claim7.holds Tryd.pinned (.plain (OpenSpec.upto drumArmsSpec)) drumArmsUptoCard

/-- THE SECOND FORM's CARD OF 'arrearslaw01.DrumOwns'. -/
def drumOwnsUptoCard : Claim7 := { stood := { row := drumOwnsUptoRow, standIns := [], harness := (true, "facb0503a462f6cac9731424cfb65ff9e6664651b8bba83cfc3de558d5e79e8d"), looks := true }, kinds := [], alts := [], laidByText := true, laidKinds := [.handle], laidTests := true, laidLooks := .later }
def DrumOwnsUptoCardSaid : Prop := Claim7.holds Tryd.pinned (.plain (OpenSpec.upto drumOwnsSpec)) drumOwnsUptoCard

/-- THE SECOND FORM's CARD OF 'arrearslaw02.SeamFrames'. -/
def seamFramesUptoCard : Claim7 := { stood := { row := seamFramesUptoRow, standIns := [], harness := (true, "facb0503a462f6cac9731424cfb65ff9e6664651b8bba83cfc3de558d5e79e8d"), looks := true }, kinds := [], alts := [], laidByText := true, laidKinds := [.handle], laidTests := true, laidLooks := .later }
def SeamFramesUptoCardSaid : Prop := Claim7.holds Tryd.pinned (.plain (OpenSpec.upto seamFramesSpec)) seamFramesUptoCard

/-- THE SECOND FORM's CARD OF 'arrearslaw02.SeamTakes'. -/
def seamTakesUptoCard : Claim7 := { stood := { row := seamTakesUptoRow, standIns := [], harness := (true, "facb0503a462f6cac9731424cfb65ff9e6664651b8bba83cfc3de558d5e79e8d"), looks := true }, kinds := [], alts := [], laidByText := true, laidKinds := [.handle], laidTests := true, laidLooks := .later }
def SeamTakesUptoCardSaid : Prop := Claim7.holds Tryd.pinned (.plain (OpenSpec.upto seamTakesSpec)) seamTakesUptoCard

/-- THE SECOND FORM's CARD OF 'arrearslaw02.SeamShows'. -/
def seamShowsUptoCard : Claim7 := { stood := { row := seamShowsUptoRow, standIns := [], harness := (true, "facb0503a462f6cac9731424cfb65ff9e6664651b8bba83cfc3de558d5e79e8d"), looks := true }, kinds := [], alts := [], laidByText := true, laidKinds := [.handle], laidTests := true, laidLooks := .later }
def SeamShowsUptoCardSaid : Prop := Claim7.holds Tryd.pinned (.plain (OpenSpec.upto seamShowsSpec)) seamShowsUptoCard

/-- THE SECOND FORM's CARD OF 'arrearslaw02.SeamCuts'. -/
def seamCutsUptoCard : Claim7 := { stood := { row := seamCutsUptoRow, standIns := [], harness := (true, "facb0503a462f6cac9731424cfb65ff9e6664651b8bba83cfc3de558d5e79e8d"), looks := true }, kinds := [], alts := [], laidByText := true, laidKinds := [.handle], laidTests := true, laidLooks := .later }
def SeamCutsUptoCardSaid : Prop := Claim7.holds Tryd.pinned (.plain (OpenSpec.upto seamCutsSpec)) seamCutsUptoCard

/-- THE SECOND FORM's CARD OF 'arrearslaw02.SeamRows'. -/
def seamRowsUptoCard : Claim7 := { stood := { row := seamRowsUptoRow, standIns := [], harness := (true, "facb0503a462f6cac9731424cfb65ff9e6664651b8bba83cfc3de558d5e79e8d"), looks := true }, kinds := [], alts := [], laidByText := true, laidKinds := [.handle], laidTests := true, laidLooks := .later }
def SeamRowsUptoCardSaid : Prop := Claim7.holds Tryd.pinned (.plain (OpenSpec.upto seamRowsSpec)) seamRowsUptoCard
end Rows
end Go.Proofs.YtkikcemcaoihpaaDoor
