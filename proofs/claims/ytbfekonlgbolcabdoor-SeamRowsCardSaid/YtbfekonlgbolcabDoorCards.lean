/-
  DERIVED. GIVEN WITH THE SEED: THE CARDS: each row of YtbfekonlgbolcabDoorRows.lean that lists a variable, with what it lists TIED to the program's text (the seventh form; the later family's looks); each row that meets fmt, with fmt's text TOLD by the authors' own Lean function (tested against real Go, not proved from fmt's source: count such statements apart). THE CARD IS WHAT COUNTS. Prove the row's statement (the work); the ties are given (YtbfekonlgbolcabDoorTie.lean); close each card by the builder's one call (the guide's Derived/Test/ToyasCard.lean, 'card_holds'). Laid BY PROGRAM, IN A SANDBOX (cutbox-door.mjs). By AI agents, Wed Nov 11 2026. No macro, syntax, notation, axiom, sorry.
-/
import Derived.Test.YtbfekonlgbolcabDoorRows
import GoSem.ClaimSeven
namespace Go.Proofs.YtbfekonlgbolcabDoor
namespace Rows

/-- THE TIED CARD OF 'arrearslaw08.QuillTakes'. -/
def quillTakesCard : Claim7 := { stood := { row := quillTakesRow, standIns := [], harness := (true, "28e32f3ddf861d7df653c7bf5d7bd693473b2ca6a9b2c91b539e46f19edfa880"), looks := true }, kinds := [], alts := [], laidByText := true, laidKinds := [.handle], laidTests := true, laidLooks := .later }
def QuillTakesCardSaid : Prop := Claim7.holds Tryd.pinned (.plain (OpenSpec.ofChange quillTakesSpec)) quillTakesCard

/-- THE TIED CARD OF 'arrearslaw08.QuillNil'. -/
def quillNilCard : Claim7 := { stood := { row := quillNilRow, standIns := [], harness := (true, "28e32f3ddf861d7df653c7bf5d7bd693473b2ca6a9b2c91b539e46f19edfa880"), looks := true }, kinds := [], alts := [], laidByText := true, laidKinds := [.handle], laidTests := true, laidLooks := .later }
def QuillNilCardSaid : Prop := Claim7.holds Tryd.pinned (.plain (OpenSpec.ofChange quillNilSpec)) quillNilCard

/-- THE TIED CARD OF 'arrearslaw02.SeamRows'. -/
def seamRowsCard : Claim7 := { stood := { row := seamRowsRow, standIns := [], harness := (true, "28e32f3ddf861d7df653c7bf5d7bd693473b2ca6a9b2c91b539e46f19edfa880"), looks := true }, kinds := [], alts := [], laidByText := true, laidKinds := [.handle], laidTests := true, laidLooks := .later }
def SeamRowsCardSaid : Prop := Claim7.holds Tryd.pinned (.plain (OpenSpec.ofChange seamRowsSpec)) seamRowsCard

/-- THE SECOND FORM's CARD OF 'arrearslaw08.QuillTakes'. -/
def quillTakesUptoCard : Claim7 := { stood := { row := quillTakesUptoRow, standIns := [], harness := (true, "28e32f3ddf861d7df653c7bf5d7bd693473b2ca6a9b2c91b539e46f19edfa880"), looks := true }, kinds := [], alts := [], laidByText := true, laidKinds := [.handle], laidTests := true, laidLooks := .later }
def QuillTakesUptoCardSaid : Prop := Claim7.holds Tryd.pinned (.plain (OpenSpec.upto quillTakesSpec)) quillTakesUptoCard

/-- THE SECOND FORM's CARD OF 'arrearslaw08.QuillNil'. -/
def quillNilUptoCard : Claim7 := { stood := { row := quillNilUptoRow, standIns := [], harness := (true, "28e32f3ddf861d7df653c7bf5d7bd693473b2ca6a9b2c91b539e46f19edfa880"), looks := true }, kinds := [], alts := [], laidByText := true, laidKinds := [.handle], laidTests := true, laidLooks := .later }
def QuillNilUptoCardSaid : Prop := Claim7.holds Tryd.pinned (.plain (OpenSpec.upto quillNilSpec)) quillNilUptoCard

/-- THE SECOND FORM's CARD OF 'arrearslaw02.SeamRows'. -/
def seamRowsUptoCard : Claim7 := { stood := { row := seamRowsUptoRow, standIns := [], harness := (true, "28e32f3ddf861d7df653c7bf5d7bd693473b2ca6a9b2c91b539e46f19edfa880"), looks := true }, kinds := [], alts := [], laidByText := true, laidKinds := [.handle], laidTests := true, laidLooks := .later }
def SeamRowsUptoCardSaid : Prop := Claim7.holds Tryd.pinned (.plain (OpenSpec.upto seamRowsSpec)) seamRowsUptoCard
end Rows
end Go.Proofs.YtbfekonlgbolcabDoor
