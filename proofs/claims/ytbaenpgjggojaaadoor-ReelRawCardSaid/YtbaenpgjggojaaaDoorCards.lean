/-
  DERIVED. GIVEN WITH THE SEED: THE CARDS: each row of YtbaenpgjggojaaaDoorRows.lean that lists a variable, with what it lists TIED to the program's text (the seventh form; the later family's looks); each row that meets fmt, with fmt's text TOLD by the authors' own Lean function (tested against real Go, not proved from fmt's source: count such statements apart). THE CARD IS WHAT COUNTS. Prove the row's statement (the work); the ties are given (YtbaenpgjggojaaaDoorTie.lean); close each card by the builder's one call (the guide's Derived/Test/ToyasCard.lean, 'card_holds'). Laid BY PROGRAM, IN A SANDBOX (cutbox-door.mjs). By AI agents, Wed Nov 11 2026. No macro, syntax, notation, axiom, sorry.
-/
import Derived.Test.YtbaenpgjggojaaaDoorRows
import GoSem.ClaimSeven
namespace Go.Proofs.YtbaenpgjggojaaaDoor
namespace Rows

/-- THE TIED CARD OF 'arrearslaw15.ReelRaw'. -/
def reelRawCard : Claim7 := { stood := { row := reelRawRow, standIns := [], harness := (true, "9ffe3566504d1fd86b7141acc7e5adf49b359fae9c751e935cdb6c20342d19a6"), looks := true }, kinds := [], alts := [], laidByText := true, laidKinds := [.handle], laidTests := true, laidLooks := .later }
def ReelRawCardSaid : Prop := Claim7.holds Tryd.pinned (.plain (OpenSpec.ofChange reelRawSpec)) reelRawCard

/-- THE TIED CARD OF 'arrearslaw15.ReelFull'. -/
def reelFullCard : Claim7 := { stood := { row := reelFullRow, standIns := [], harness := (true, "9ffe3566504d1fd86b7141acc7e5adf49b359fae9c751e935cdb6c20342d19a6"), looks := true }, kinds := [], alts := [], laidByText := true, laidKinds := [.handle], laidTests := true, laidLooks := .later }
def ReelFullCardSaid : Prop := Claim7.holds Tryd.pinned (.plain (OpenSpec.ofChange reelFullSpec)) reelFullCard

/-- THE TIED CARD OF 'arrearslaw15.ReelNil'. -/
def reelNilCard : Claim7 := { stood := { row := reelNilRow, standIns := [], harness := (true, "9ffe3566504d1fd86b7141acc7e5adf49b359fae9c751e935cdb6c20342d19a6"), looks := true }, kinds := [], alts := [], laidByText := true, laidKinds := [.handle], laidTests := true, laidLooks := .later }
def ReelNilCardSaid : Prop := Claim7.holds Tryd.pinned (.plain (OpenSpec.ofChange reelNilSpec)) reelNilCard

/-- THE SECOND FORM's CARD OF 'arrearslaw15.ReelRaw'. -/
def reelRawUptoCard : Claim7 := { stood := { row := reelRawUptoRow, standIns := [], harness := (true, "9ffe3566504d1fd86b7141acc7e5adf49b359fae9c751e935cdb6c20342d19a6"), looks := true }, kinds := [], alts := [], laidByText := true, laidKinds := [.handle], laidTests := true, laidLooks := .later }
def ReelRawUptoCardSaid : Prop := Claim7.holds Tryd.pinned (.plain (OpenSpec.upto reelRawSpec)) reelRawUptoCard

/-- THE SECOND FORM's CARD OF 'arrearslaw15.ReelFull'. -/
def reelFullUptoCard : Claim7 := { stood := { row := reelFullUptoRow, standIns := [], harness := (true, "9ffe3566504d1fd86b7141acc7e5adf49b359fae9c751e935cdb6c20342d19a6"), looks := true }, kinds := [], alts := [], laidByText := true, laidKinds := [.handle], laidTests := true, laidLooks := .later }
def ReelFullUptoCardSaid : Prop := Claim7.holds Tryd.pinned (.plain (OpenSpec.upto reelFullSpec)) reelFullUptoCard

/-- THE SECOND FORM's CARD OF 'arrearslaw15.ReelNil'. -/
def reelNilUptoCard : Claim7 := { stood := { row := reelNilUptoRow, standIns := [], harness := (true, "9ffe3566504d1fd86b7141acc7e5adf49b359fae9c751e935cdb6c20342d19a6"), looks := true }, kinds := [], alts := [], laidByText := true, laidKinds := [.handle], laidTests := true, laidLooks := .later }
def ReelNilUptoCardSaid : Prop := Claim7.holds Tryd.pinned (.plain (OpenSpec.upto reelNilSpec)) reelNilUptoCard
end Rows
end Go.Proofs.YtbaenpgjggojaaaDoor
