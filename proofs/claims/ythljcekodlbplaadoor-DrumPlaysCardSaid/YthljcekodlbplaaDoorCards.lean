/-
  DERIVED. GIVEN WITH THE SEED: THE CARDS: each row of YthljcekodlbplaaDoorRows.lean that lists a variable, with what it lists TIED to the program's text (the seventh form; the later family's looks); each row that meets fmt, with fmt's text TOLD by the authors' own Lean function (tested against real Go, not proved from fmt's source: count such statements apart). THE CARD IS WHAT COUNTS. Prove the row's statement (the work); the ties are given (YthljcekodlbplaaDoorTie.lean); close each card by the builder's one call (the guide's Derived/Test/ToyasCard.lean, 'card_holds'). Laid BY PROGRAM, IN A SANDBOX (cutbox-door.mjs). By AI agents, Wed Nov 11 2026. No macro, syntax, notation, axiom, sorry.
-/
import Derived.Test.YthljcekodlbplaaDoorRows
import GoSem.ClaimSeven
namespace Go.Proofs.YthljcekodlbplaaDoor
namespace Rows

/-- THE TIED CARD OF 'arrearslaw01.DrumPlays'. -/
def drumPlaysCard : Claim7 := { stood := { row := drumPlaysRow, standIns := [], harness := (true, "ad9465d1df2fbf469c85f670c030bcf1b2e06e9c0b9aeacc233fc8b7dc826c71"), looks := true }, kinds := [], alts := [], laidByText := true, laidKinds := [.handle], laidTests := true, laidLooks := .later }
def DrumPlaysCardSaid : Prop := Claim7.holds Tryd.pinned (.plain (OpenSpec.ofChange drumPlaysSpec)) drumPlaysCard

/-- THE SECOND FORM's CARD OF 'arrearslaw01.DrumPlays'. -/
def drumPlaysUptoCard : Claim7 := { stood := { row := drumPlaysUptoRow, standIns := [], harness := (true, "ad9465d1df2fbf469c85f670c030bcf1b2e06e9c0b9aeacc233fc8b7dc826c71"), looks := true }, kinds := [], alts := [], laidByText := true, laidKinds := [.handle], laidTests := true, laidLooks := .later }
def DrumPlaysUptoCardSaid : Prop := Claim7.holds Tryd.pinned (.plain (OpenSpec.upto drumPlaysSpec)) drumPlaysUptoCard
end Rows
end Go.Proofs.YthljcekodlbplaaDoor
