/-
  DERIVED. GIVEN WITH THE SEED: THE CARDS: each row of YtkgadbnfaoijaabDoorRows.lean that lists a variable, with what it lists TIED to the program's text (the seventh form; the later family's looks); each row that meets fmt, with fmt's text TOLD by the authors' own Lean function (tested against real Go, not proved from fmt's source: count such statements apart). THE CARD IS WHAT COUNTS. Prove the row's statement (the work); the ties are given (YtkgadbnfaoijaabDoorTie.lean); close each card by the builder's one call (the guide's Derived/Test/ToyasCard.lean, 'card_holds'). Laid BY PROGRAM, IN A SANDBOX (cutbox-door.mjs). By AI agents, Wed Nov 11 2026. No macro, syntax, notation, axiom, sorry.
-/
import Derived.Test.YtkgadbnfaoijaabDoorRows
import GoSem.ClaimSeven
namespace Go.Proofs.YtkgadbnfaoijaabDoor
namespace Rows

/-- THE TIED CARD OF 'arrearslaw03.WideReckons'. -/
def wideReckonsCard : Claim7 := { stood := { row := wideReckonsRow, standIns := [], harness := (true, "fd5ea12e3f3c4f6952a9e9a8753099715898c03b41b9d13cc6fffd1d97dd89ba"), looks := true }, kinds := [], alts := [], laidByText := true, laidKinds := [.handle], laidTests := true, laidLooks := .later }
def WideReckonsCardSaid : Prop := Claim7.holds Tryd.pinned (.plain (OpenSpec.ofChange wideReckonsSpec)) wideReckonsCard

/-- THE TIED CARD OF 'arrearslaw03.WideScales'. -/
def wideScalesCard : Claim7 := { stood := { row := wideScalesRow, standIns := [], harness := (true, "fd5ea12e3f3c4f6952a9e9a8753099715898c03b41b9d13cc6fffd1d97dd89ba"), looks := true }, kinds := [], alts := [], laidByText := true, laidKinds := [.handle], laidTests := true, laidLooks := .later }
def WideScalesCardSaid : Prop := Claim7.holds Tryd.pinned (.plain (OpenSpec.ofChange wideScalesSpec)) wideScalesCard

/-- THE TIED CARD OF 'arrearslaw03.WideBacks'. -/
def wideBacksCard : Claim7 := { stood := { row := wideBacksRow, standIns := [], harness := (true, "fd5ea12e3f3c4f6952a9e9a8753099715898c03b41b9d13cc6fffd1d97dd89ba"), looks := true }, kinds := [], alts := [], laidByText := true, laidKinds := [.handle], laidTests := true, laidLooks := .later }
def WideBacksCardSaid : Prop := Claim7.holds Tryd.pinned (.plain (OpenSpec.ofChange wideBacksSpec)) wideBacksCard

/-- THE TIED CARD OF 'arrearslaw03.WideSums'. -/
def wideSumsCard : Claim7 := { stood := { row := wideSumsRow, standIns := [], harness := (true, "fd5ea12e3f3c4f6952a9e9a8753099715898c03b41b9d13cc6fffd1d97dd89ba"), looks := true }, kinds := [], alts := [], laidByText := true, laidKinds := [.handle], laidTests := true, laidLooks := .later }
def WideSumsCardSaid : Prop := Claim7.holds Tryd.pinned (.plain (OpenSpec.ofChange wideSumsSpec)) wideSumsCard

/-- THE TIED CARD OF 'arrearslaw03.WideNear'. -/
def wideNearCard : Claim7 := { stood := { row := wideNearRow, standIns := [], harness := (true, "fd5ea12e3f3c4f6952a9e9a8753099715898c03b41b9d13cc6fffd1d97dd89ba"), looks := true }, kinds := [], alts := [], laidByText := true, laidKinds := [.handle], laidTests := true, laidLooks := .later }
def WideNearCardSaid : Prop := Claim7.holds Tryd.pinned (.plain (OpenSpec.ofChange wideNearSpec)) wideNearCard

/-- THE TIED CARD OF 'arrearslaw04.CoinTexts'. -/
def coinTextsCard : Claim7 := { stood := { row := coinTextsRow, standIns := [], harness := (true, "fd5ea12e3f3c4f6952a9e9a8753099715898c03b41b9d13cc6fffd1d97dd89ba"), looks := true }, kinds := [], alts := [], laidByText := true, laidKinds := [.data, .data, .data, .data, .sentinel, .sentinel, .pinned], laidTests := true, laidLooks := .later }
def CoinTextsCardSaid : Prop := Claim7.holds Tryd.pinned (.plain (OpenSpec.ofChange coinTextsSpec)) coinTextsCard

/-- THE TIED CARD OF 'arrearslaw04.CoinReads'. -/
def coinReadsCard : Claim7 := { stood := { row := coinReadsRow, standIns := [], harness := (true, "fd5ea12e3f3c4f6952a9e9a8753099715898c03b41b9d13cc6fffd1d97dd89ba"), looks := true }, kinds := [], alts := [], laidByText := true, laidKinds := [.data, .data, .data, .data, .handle, .sentinel, .sentinel, .pinned], laidTests := true, laidLooks := .later }
def CoinReadsCardSaid : Prop := Claim7.holds Tryd.pinned (.plain (OpenSpec.ofChange coinReadsSpec)) coinReadsCard

/-- THE TIED CARD OF 'arrearslaw04.CoinOrders'. -/
def coinOrdersCard : Claim7 := { stood := { row := coinOrdersRow, standIns := [], harness := (true, "fd5ea12e3f3c4f6952a9e9a8753099715898c03b41b9d13cc6fffd1d97dd89ba"), looks := true }, kinds := [], alts := [], laidByText := true, laidKinds := [.data, .data, .data, .data, .sentinel, .sentinel, .pinned], laidTests := true, laidLooks := .later }
def CoinOrdersCardSaid : Prop := Claim7.holds Tryd.pinned (.plain (OpenSpec.ofChange coinOrdersSpec)) coinOrdersCard

/-- THE SECOND FORM's CARD OF 'arrearslaw03.WideReckons'. -/
def wideReckonsUptoCard : Claim7 := { stood := { row := wideReckonsUptoRow, standIns := [], harness := (true, "fd5ea12e3f3c4f6952a9e9a8753099715898c03b41b9d13cc6fffd1d97dd89ba"), looks := true }, kinds := [], alts := [], laidByText := true, laidKinds := [.handle], laidTests := true, laidLooks := .later }
def WideReckonsUptoCardSaid : Prop := Claim7.holds Tryd.pinned (.plain (OpenSpec.upto wideReckonsSpec)) wideReckonsUptoCard

/-- THE SECOND FORM's CARD OF 'arrearslaw03.WideScales'. -/
def wideScalesUptoCard : Claim7 := { stood := { row := wideScalesUptoRow, standIns := [], harness := (true, "fd5ea12e3f3c4f6952a9e9a8753099715898c03b41b9d13cc6fffd1d97dd89ba"), looks := true }, kinds := [], alts := [], laidByText := true, laidKinds := [.handle], laidTests := true, laidLooks := .later }
def WideScalesUptoCardSaid : Prop := Claim7.holds Tryd.pinned (.plain (OpenSpec.upto wideScalesSpec)) wideScalesUptoCard

/-- THE SECOND FORM's CARD OF 'arrearslaw03.WideBacks'. -/
def wideBacksUptoCard : Claim7 := { stood := { row := wideBacksUptoRow, standIns := [], harness := (true, "fd5ea12e3f3c4f6952a9e9a8753099715898c03b41b9d13cc6fffd1d97dd89ba"), looks := true }, kinds := [], alts := [], laidByText := true, laidKinds := [.handle], laidTests := true, laidLooks := .later }
def WideBacksUptoCardSaid : Prop := Claim7.holds Tryd.pinned (.plain (OpenSpec.upto wideBacksSpec)) wideBacksUptoCard

/-- THE SECOND FORM's CARD OF 'arrearslaw03.WideSums'. -/
def wideSumsUptoCard : Claim7 := { stood := { row := wideSumsUptoRow, standIns := [], harness := (true, "fd5ea12e3f3c4f6952a9e9a8753099715898c03b41b9d13cc6fffd1d97dd89ba"), looks := true }, kinds := [], alts := [], laidByText := true, laidKinds := [.handle], laidTests := true, laidLooks := .later }
def WideSumsUptoCardSaid : Prop := Claim7.holds Tryd.pinned (.plain (OpenSpec.upto wideSumsSpec)) wideSumsUptoCard

/-- THE SECOND FORM's CARD OF 'arrearslaw03.WideNear'. -/
def wideNearUptoCard : Claim7 := { stood := { row := wideNearUptoRow, standIns := [], harness := (true, "fd5ea12e3f3c4f6952a9e9a8753099715898c03b41b9d13cc6fffd1d97dd89ba"), looks := true }, kinds := [], alts := [], laidByText := true, laidKinds := [.handle], laidTests := true, laidLooks := .later }
def WideNearUptoCardSaid : Prop := Claim7.holds Tryd.pinned (.plain (OpenSpec.upto wideNearSpec)) wideNearUptoCard

/-- THE SECOND FORM's CARD OF 'arrearslaw04.CoinTexts'. -/
def coinTextsUptoCard : Claim7 := { stood := { row := coinTextsUptoRow, standIns := [], harness := (true, "fd5ea12e3f3c4f6952a9e9a8753099715898c03b41b9d13cc6fffd1d97dd89ba"), looks := true }, kinds := [], alts := [], laidByText := true, laidKinds := [.data, .data, .data, .data, .sentinel, .sentinel, .pinned], laidTests := true, laidLooks := .later }
def CoinTextsUptoCardSaid : Prop := Claim7.holds Tryd.pinned (.plain (OpenSpec.upto coinTextsSpec)) coinTextsUptoCard

/-- THE SECOND FORM's CARD OF 'arrearslaw04.CoinReads'. -/
def coinReadsUptoCard : Claim7 := { stood := { row := coinReadsUptoRow, standIns := [], harness := (true, "fd5ea12e3f3c4f6952a9e9a8753099715898c03b41b9d13cc6fffd1d97dd89ba"), looks := true }, kinds := [], alts := [], laidByText := true, laidKinds := [.data, .data, .data, .data, .handle, .sentinel, .sentinel, .pinned], laidTests := true, laidLooks := .later }
def CoinReadsUptoCardSaid : Prop := Claim7.holds Tryd.pinned (.plain (OpenSpec.upto coinReadsSpec)) coinReadsUptoCard

/-- THE SECOND FORM's CARD OF 'arrearslaw04.CoinOrders'. -/
def coinOrdersUptoCard : Claim7 := { stood := { row := coinOrdersUptoRow, standIns := [], harness := (true, "fd5ea12e3f3c4f6952a9e9a8753099715898c03b41b9d13cc6fffd1d97dd89ba"), looks := true }, kinds := [], alts := [], laidByText := true, laidKinds := [.data, .data, .data, .data, .sentinel, .sentinel, .pinned], laidTests := true, laidLooks := .later }
def CoinOrdersUptoCardSaid : Prop := Claim7.holds Tryd.pinned (.plain (OpenSpec.upto coinOrdersSpec)) coinOrdersUptoCard
end Rows
end Go.Proofs.YtkgadbnfaoijaabDoor
