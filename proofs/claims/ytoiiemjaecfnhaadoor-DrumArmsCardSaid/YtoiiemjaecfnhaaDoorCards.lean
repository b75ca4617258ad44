/-
  DERIVED. GIVEN WITH THE SEED: THE CARDS: each row of YtoiiemjaecfnhaaDoorRows.lean that lists a variable, with what it lists TIED to the program's text (the seventh form; the later family's looks); each row that meets fmt, with fmt's text TOLD by the authors' own Lean function (tested against real Go, not proved from fmt's source: count such statements apart). THE CARD IS WHAT COUNTS. Prove the row's statement (the work); the ties are given (YtoiiemjaecfnhaaDoorTie.lean); close each card by the builder's one call (the guide's Derived/Test/ToyasCard.lean, 'card_holds'). Laid BY PROGRAM, IN A SANDBOX (cutbox-door.mjs). By AI agents, Wed Nov 11 2026. No macro, syntax, notation, axiom, sorry.
-/
import Derived.Test.YtoiiemjaecfnhaaDoorRows
import GoSem.ClaimSeven
namespace Go.Proofs.YtoiiemjaecfnhaaDoor
namespace Rows

/-- THE TIED CARD OF 'arrearslaw01.DrumPlays'. -/
def drumPlaysCard : Claim7 := { stood := { row := drumPlaysRow, standIns := [], harness := (true, "5852dace95e199f97f22891ffa6c5775569af709ad2aa021ce3a8366358bf12c"), looks := true }, kinds := [], alts := [], laidByText := true, laidKinds := [.handle], laidTests := true, laidLooks := .later }
def DrumPlaysCardSaid : Prop := Claim7.holds Tryd.pinned (.plain (OpenSpec.ofChange drumPlaysSpec)) drumPlaysCard

/-- THE TIED CARD OF 'arrearslaw01.DrumArms'. -/
def drumArmsCard : Claim7 := { stood := { row := drumArmsRow, standIns := [], harness := (true, "5852dace95e199f97f22891ffa6c5775569af709ad2aa021ce3a8366358bf12c"), looks := true }, kinds := [], alts := [], laidByText := true, laidKinds := [.handle], laidTests := true, laidLooks := .later }
def DrumArmsCardSaid : Prop := Claim7.holds Tryd.pinned (.plain (OpenSpec.ofChange drumArmsSpec)) drumArmsCard

/-- THE TIED CARD OF 'arrearslaw01.DrumOwns'. -/
def drumOwnsCard : Claim7 := { stood := { row := drumOwnsRow, standIns := [], harness := (true, "5852dace95e199f97f22891ffa6c5775569af709ad2aa021ce3a8366358bf12c"), looks := true }, kinds := [], alts := [], laidByText := true, laidKinds := [.handle], laidTests := true, laidLooks := .later }
def DrumOwnsCardSaid : Prop := Claim7.holds Tryd.pinned (.plain (OpenSpec.ofChange drumOwnsSpec)) drumOwnsCard

/-- THE SECOND FORM's CARD OF 'arrearslaw01.DrumPlays'. -/
def drumPlaysUptoCard : Claim7 := { stood := { row := drumPlaysUptoRow, standIns := [], harness := (true, "5852dace95e199f97f22891ffa6c5775569af709ad2aa021ce3a8366358bf12c"), looks := true }, kinds := [], alts := [], laidByText := true, laidKinds := [.handle], laidTests := true, laidLooks := .later }
def DrumPlaysUptoCardSaid : Prop := Claim7.holds Tryd.pinned (.plain (OpenSpec.upto drumPlaysSpec)) drumPlaysUptoCard

/-- THE SECOND FORM's CARD OF 'arrearslaw01.DrumArms'. -/
def drumArmsUptoCard : Claim7 := { stood := { row := drumArmsUptoRow, standIns := [], harness := (true, "5852dace95e199f97f22891ffa6c5775569af709ad2aa021ce3a8366358bf12c"), looks := true }, kinds := [], alts := [], laidByText := true, laidKinds := [.handle], laidTests := true, laidLooks := .later }
def DrumArmsUptoCardSaid : Prop := Claim7.holds Tryd.pinned (.plain (OpenSpec.upto drumArmsSpec)) drumArmsUptoCard

/-- THE SECOND FORM's CARD OF 'arrearslaw01.DrumOwns'. -/
def drumOwnsUptoCard : Claim7 := { stood := { row := drumOwnsUptoRow, standIns := [], harness := (true, "5852dace95e199f97f22891ffa6c5775569af709ad2aa021ce3a8366358bf12c"), looks := true }, kinds := [], alts := [], laidByText := true, laidKinds := [.handle], laidTests := true, laidLooks := .later }
def DrumOwnsUptoCardSaid : Prop := Claim7.holds Tryd.pinned (.plain (OpenSpec.upto drumOwnsSpec)) drumOwnsUptoCard
end Rows
end Go.Proofs.YtoiiemjaecfnhaaDoor
