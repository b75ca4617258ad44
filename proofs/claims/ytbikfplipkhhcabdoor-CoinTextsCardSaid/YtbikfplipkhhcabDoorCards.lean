/-
  DERIVED. GIVEN WITH THE SEED: THE CARDS: each row of YtbikfplipkhhcabDoorRows.lean that lists a variable, with what it lists TIED to the program's text (the seventh form; the later family's looks); each row that meets fmt, with fmt's text TOLD by the authors' own Lean function (tested against real Go, not proved from fmt's source: count such statements apart). THE CARD IS WHAT COUNTS. Prove the row's statement (the work); the ties are given (YtbikfplipkhhcabDoorTie.lean); close each card by the builder's one call (the guide's Derived/Test/ToyasCard.lean, 'card_holds'). Laid BY PROGRAM, IN A SANDBOX (cutbox-door.mjs). By AI agents, Wed Nov 11 2026. No macro, syntax, notation, axiom, sorry.
-/
import Derived.Test.YtbikfplipkhhcabDoorRows
import GoSem.ClaimSeven
namespace Go.Proofs.YtbikfplipkhhcabDoor
namespace Rows

/-- THE TIED CARD OF 'arrearslaw11.SplitPays'. -/
def splitPaysCard : Claim7 := { stood := { row := splitPaysRow, standIns := [], harness := (true, "2d51eab59c4650212362b0accc0cfe519c0de6178441071d4356c23836dba5b4"), looks := true }, kinds := [], alts := [], laidByText := true, laidKinds := [.handle], laidTests := true, laidLooks := .later }
def SplitPaysCardSaid : Prop := Claim7.holds Tryd.pinned (.plain (OpenSpec.ofChange splitPaysSpec)) splitPaysCard

/-- THE TIED CARD OF 'arrearslaw11.SplitAdds'. -/
def splitAddsCard : Claim7 := { stood := { row := splitAddsRow, standIns := [], harness := (true, "2d51eab59c4650212362b0accc0cfe519c0de6178441071d4356c23836dba5b4"), looks := true }, kinds := [], alts := [], laidByText := true, laidKinds := [.handle], laidTests := true, laidLooks := .later }
def SplitAddsCardSaid : Prop := Claim7.holds Tryd.pinned (.plain (OpenSpec.ofChange splitAddsSpec)) splitAddsCard

/-- THE TIED CARD OF 'arrearslaw04.CoinTexts'. -/
def coinTextsCard : Claim7 := { stood := { row := coinTextsRow, standIns := [], harness := (true, "2d51eab59c4650212362b0accc0cfe519c0de6178441071d4356c23836dba5b4"), looks := true }, kinds := [], alts := [], laidByText := true, laidKinds := [.data, .data, .data, .data, .sentinel, .sentinel, .pinned], laidTests := true, laidLooks := .later }
def CoinTextsCardSaid : Prop := Claim7.holds Tryd.pinned (.plain (OpenSpec.ofChange coinTextsSpec)) coinTextsCard

/-- THE TIED CARD OF 'arrearslaw04.CoinReads'. -/
def coinReadsCard : Claim7 := { stood := { row := coinReadsRow, standIns := [], harness := (true, "2d51eab59c4650212362b0accc0cfe519c0de6178441071d4356c23836dba5b4"), looks := true }, kinds := [], alts := [], laidByText := true, laidKinds := [.data, .data, .data, .data, .handle, .sentinel, .sentinel, .pinned], laidTests := true, laidLooks := .later }
def CoinReadsCardSaid : Prop := Claim7.holds Tryd.pinned (.plain (OpenSpec.ofChange coinReadsSpec)) coinReadsCard

/-- THE SECOND FORM's CARD OF 'arrearslaw11.SplitPays'. -/
def splitPaysUptoCard : Claim7 := { stood := { row := splitPaysUptoRow, standIns := [], harness := (true, "2d51eab59c4650212362b0accc0cfe519c0de6178441071d4356c23836dba5b4"), looks := true }, kinds := [], alts := [], laidByText := true, laidKinds := [.handle], laidTests := true, laidLooks := .later }
def SplitPaysUptoCardSaid : Prop := Claim7.holds Tryd.pinned (.plain (OpenSpec.upto splitPaysSpec)) splitPaysUptoCard

/-- THE SECOND FORM's CARD OF 'arrearslaw11.SplitAdds'. -/
def splitAddsUptoCard : Claim7 := { stood := { row := splitAddsUptoRow, standIns := [], harness := (true, "2d51eab59c4650212362b0accc0cfe519c0de6178441071d4356c23836dba5b4"), looks := true }, kinds := [], alts := [], laidByText := true, laidKinds := [.handle], laidTests := true, laidLooks := .later }
def SplitAddsUptoCardSaid : Prop := Claim7.holds Tryd.pinned (.plain (OpenSpec.upto splitAddsSpec)) splitAddsUptoCard

/-- THE SECOND FORM's CARD OF 'arrearslaw04.CoinTexts'. -/
def coinTextsUptoCard : Claim7 := { stood := { row := coinTextsUptoRow, standIns := [], harness := (true, "2d51eab59c4650212362b0accc0cfe519c0de6178441071d4356c23836dba5b4"), looks := true }, kinds := [], alts := [], laidByText := true, laidKinds := [.data, .data, .data, .data, .sentinel, .sentinel, .pinned], laidTests := true, laidLooks := .later }
def CoinTextsUptoCardSaid : Prop := Claim7.holds Tryd.pinned (.plain (OpenSpec.upto coinTextsSpec)) coinTextsUptoCard

/-- THE SECOND FORM's CARD OF 'arrearslaw04.CoinReads'. -/
def coinReadsUptoCard : Claim7 := { stood := { row := coinReadsUptoRow, standIns := [], harness := (true, "2d51eab59c4650212362b0accc0cfe519c0de6178441071d4356c23836dba5b4"), looks := true }, kinds := [], alts := [], laidByText := true, laidKinds := [.data, .data, .data, .data, .handle, .sentinel, .sentinel, .pinned], laidTests := true, laidLooks := .later }
def CoinReadsUptoCardSaid : Prop := Claim7.holds Tryd.pinned (.plain (OpenSpec.upto coinReadsSpec)) coinReadsUptoCard
end Rows
end Go.Proofs.YtbikfplipkhhcabDoor
