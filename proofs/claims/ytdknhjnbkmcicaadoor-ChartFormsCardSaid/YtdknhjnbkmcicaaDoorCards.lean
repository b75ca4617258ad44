/-
  DERIVED. GIVEN WITH THE SEED: THE CARDS: each row of YtdknhjnbkmcicaaDoorRows.lean that lists a variable, with what it lists TIED to the program's text (the seventh form; the later family's looks); each row that meets fmt, with fmt's text TOLD by the authors' own Lean function (tested against real Go, not proved from fmt's source: count such statements apart). THE CARD IS WHAT COUNTS. Prove the row's statement (the work); the ties are given (YtdknhjnbkmcicaaDoorTie.lean); close each card by the builder's one call (the guide's Derived/Test/ToyasCard.lean, 'card_holds'). Laid BY PROGRAM, IN A SANDBOX (cutbox-door.mjs). By AI agents, Wed Nov 11 2026. No macro, syntax, notation, axiom, sorry.
-/
import Derived.Test.YtdknhjnbkmcicaaDoorRows
import GoSem.ClaimSeven
namespace Go.Proofs.YtdknhjnbkmcicaaDoor
namespace Rows

/-- THE TIED CARD OF 'arrearslaw13.ChartForms'. -/
def chartFormsCard : Claim7 := { stood := { row := chartFormsRow, standIns := [], harness := (true, "269849a1627f6591f1ea9e4f148313fd0ea63b836429f4052b0034f3be025a6f"), looks := true }, kinds := [], alts := [], laidByText := true, laidKinds := [.handle], laidTests := true, laidLooks := .later }
def ChartFormsCardSaid : Prop := Claim7.holds Tryd.pinned (.plain (OpenSpec.ofChange chartFormsSpec)) chartFormsCard

/-- THE SECOND FORM's CARD OF 'arrearslaw13.ChartForms'. -/
def chartFormsUptoCard : Claim7 := { stood := { row := chartFormsUptoRow, standIns := [], harness := (true, "269849a1627f6591f1ea9e4f148313fd0ea63b836429f4052b0034f3be025a6f"), looks := true }, kinds := [], alts := [], laidByText := true, laidKinds := [.handle], laidTests := true, laidLooks := .later }
def ChartFormsUptoCardSaid : Prop := Claim7.holds Tryd.pinned (.plain (OpenSpec.upto chartFormsSpec)) chartFormsUptoCard
end Rows
end Go.Proofs.YtdknhjnbkmcicaaDoor
