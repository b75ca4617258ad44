/-
  DERIVED. GIVEN WITH THE SEED: THE CARDS: each row of YthbifpmjkaonnaaGreatDoorRows.lean that lists a variable, with what it lists TIED to the program's text (the seventh form; the later family's looks); each row that meets fmt, with fmt's text TOLD by the authors' own Lean function (tested against real Go, not proved from fmt's source: count such statements apart). THE CARD IS WHAT COUNTS. Prove the row's statement (the work); the ties are given (YthbifpmjkaonnaaGreatDoorTie.lean); close each card by the builder's one call (the guide's Derived/Test/ToyasCard.lean, 'card_holds'). Laid BY PROGRAM, IN A SANDBOX (cutbox-door.mjs). By AI agents, Wed Nov 11 2026. No macro, syntax, notation, axiom, sorry.
-/
import Derived.Test.YthbifpmjkaonnaaGreatDoorRows
import GoSem.ClaimSeven
namespace Go.Proofs.YthbifpmjkaonnaaGreatDoor
namespace Rows

/-- THE TIED CARD OF 'arrearslaw04.CoinReckons'. -/
def coinReckonsCard : Claim7 := { stood := { row := coinReckonsRow, standIns := [], harness := (true, "684ebd34a1e9aa46722f44b897b400b1ddbe9dcbde88cc8fbc4b4536c6cdd372"), looks := true }, kinds := [], alts := [], laidByText := true, laidKinds := [.data, .data, .data, .data, .handle, .sentinel, .sentinel, .pinned], laidTests := true, laidLooks := .later }
def CoinReckonsCardSaid : Prop := Claim7.holds Tryz.pinned (.plain (OpenSpec.ofChange coinReckonsSpec)) coinReckonsCard

/-- THE TIED CARD OF 'arrearslaw04.CoinSums'. -/
def coinSumsCard : Claim7 := { stood := { row := coinSumsRow, standIns := [], harness := (true, "684ebd34a1e9aa46722f44b897b400b1ddbe9dcbde88cc8fbc4b4536c6cdd372"), looks := true }, kinds := [], alts := [], laidByText := true, laidKinds := [.data, .data, .data, .data, .handle, .sentinel, .sentinel, .pinned], laidTests := true, laidLooks := .later }
def CoinSumsCardSaid : Prop := Claim7.holds Tryz.pinned (.plain (OpenSpec.ofChange coinSumsSpec)) coinSumsCard

/-- THE SECOND FORM's CARD OF 'arrearslaw04.CoinReckons'. -/
def coinReckonsUptoCard : Claim7 := { stood := { row := coinReckonsUptoRow, standIns := [], harness := (true, "684ebd34a1e9aa46722f44b897b400b1ddbe9dcbde88cc8fbc4b4536c6cdd372"), looks := true }, kinds := [], alts := [], laidByText := true, laidKinds := [.data, .data, .data, .data, .handle, .sentinel, .sentinel, .pinned], laidTests := true, laidLooks := .later }
def CoinReckonsUptoCardSaid : Prop := Claim7.holds Tryz.pinned (.plain (OpenSpec.upto coinReckonsSpec)) coinReckonsUptoCard

/-- THE SECOND FORM's CARD OF 'arrearslaw04.CoinSums'. -/
def coinSumsUptoCard : Claim7 := { stood := { row := coinSumsUptoRow, standIns := [], harness := (true, "684ebd34a1e9aa46722f44b897b400b1ddbe9dcbde88cc8fbc4b4536c6cdd372"), looks := true }, kinds := [], alts := [], laidByText := true, laidKinds := [.data, .data, .data, .data, .handle, .sentinel, .sentinel, .pinned], laidTests := true, laidLooks := .later }
def CoinSumsUptoCardSaid : Prop := Claim7.holds Tryz.pinned (.plain (OpenSpec.upto coinSumsSpec)) coinSumsUptoCard
end Rows
end Go.Proofs.YthbifpmjkaonnaaGreatDoor
