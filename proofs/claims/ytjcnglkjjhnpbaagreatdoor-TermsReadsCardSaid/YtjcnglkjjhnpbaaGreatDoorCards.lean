/-
  DERIVED. GIVEN WITH THE SEED: THE CARDS: each row of YtjcnglkjjhnpbaaGreatDoorRows.lean that lists a variable, with what it lists TIED to the program's text (the seventh form; the later family's looks); each row that meets fmt, with fmt's text TOLD by the authors' own Lean function (tested against real Go, not proved from fmt's source: count such statements apart). THE CARD IS WHAT COUNTS. Prove the row's statement (the work); the ties are given (YtjcnglkjjhnpbaaGreatDoorTie.lean); close each card by the builder's one call (the guide's Derived/Test/ToyasCard.lean, 'card_holds'). Laid BY PROGRAM, IN A SANDBOX (cutbox-door.mjs). By AI agents, Wed Nov 11 2026. No macro, syntax, notation, axiom, sorry.
-/
import Derived.Test.YtjcnglkjjhnpbaaGreatDoorRows
import GoSem.ClaimSeven
namespace Go.Proofs.YtjcnglkjjhnpbaaGreatDoor
namespace Rows

/-- THE TIED CARD OF 'arrearslaw16.TermsDues'. -/
def termsDuesCard : Claim7 := { stood := { row := termsDuesRow, standIns := [], harness := (true, "1c840224c7444e7c6e4812814e38533a9436b5b9ee17b1b65dec300d9145e854"), looks := true }, kinds := [], alts := [], laidByText := true, laidKinds := [.data, .data, .data, .data, .handle, .sentinel, .sentinel, .data, .pinned], laidTests := true, laidLooks := .later }
def TermsDuesCardSaid : Prop := Claim7.holds Tryz.pinned (.plain (OpenSpec.ofChange termsDuesSpec)) termsDuesCard

/-- THE TIED CARD OF 'arrearslaw16.TermsForms'. -/
def termsFormsCard : Claim7 := { stood := { row := termsFormsRow, standIns := [], harness := (true, "1c840224c7444e7c6e4812814e38533a9436b5b9ee17b1b65dec300d9145e854"), looks := true }, kinds := [], alts := [], laidByText := true, laidKinds := [.data, .data, .data, .data, .handle, .sentinel, .sentinel, .data, .pinned], laidTests := true, laidLooks := .later }
def TermsFormsCardSaid : Prop := Claim7.holds Tryz.pinned (.plain (OpenSpec.ofChange termsFormsSpec)) termsFormsCard

/-- THE TIED CARD OF 'arrearslaw16.TermsReads'. -/
def termsReadsCard : Claim7 := { stood := { row := termsReadsRow, standIns := [], harness := (true, "1c840224c7444e7c6e4812814e38533a9436b5b9ee17b1b65dec300d9145e854"), looks := true }, kinds := [], alts := [], laidByText := true, laidKinds := [.data, .data, .data, .data, .handle, .sentinel, .sentinel, .data, .pinned], laidTests := true, laidLooks := .later }
def TermsReadsCardSaid : Prop := Claim7.holds Tryz.pinned (.plain (OpenSpec.ofChange termsReadsSpec)) termsReadsCard

/-- THE TIED CARD OF 'arrearslaw16.TermsApart'. -/
def termsApartCard : Claim7 := { stood := { row := termsApartRow, standIns := [], harness := (true, "1c840224c7444e7c6e4812814e38533a9436b5b9ee17b1b65dec300d9145e854"), looks := true }, kinds := [], alts := [], laidByText := true, laidKinds := [.data, .data, .data, .data, .sentinel, .sentinel, .data, .pinned], laidTests := true, laidLooks := .later }
def TermsApartCardSaid : Prop := Claim7.holds Tryz.pinned (.plain (OpenSpec.ofChange termsApartSpec)) termsApartCard

/-- THE SECOND FORM's CARD OF 'arrearslaw16.TermsDues'. -/
def termsDuesUptoCard : Claim7 := { stood := { row := termsDuesUptoRow, standIns := [], harness := (true, "1c840224c7444e7c6e4812814e38533a9436b5b9ee17b1b65dec300d9145e854"), looks := true }, kinds := [], alts := [], laidByText := true, laidKinds := [.data, .data, .data, .data, .handle, .sentinel, .sentinel, .data, .pinned], laidTests := true, laidLooks := .later }
def TermsDuesUptoCardSaid : Prop := Claim7.holds Tryz.pinned (.plain (OpenSpec.upto termsDuesSpec)) termsDuesUptoCard

/-- THE SECOND FORM's CARD OF 'arrearslaw16.TermsForms'. -/
def termsFormsUptoCard : Claim7 := { stood := { row := termsFormsUptoRow, standIns := [], harness := (true, "1c840224c7444e7c6e4812814e38533a9436b5b9ee17b1b65dec300d9145e854"), looks := true }, kinds := [], alts := [], laidByText := true, laidKinds := [.data, .data, .data, .data, .handle, .sentinel, .sentinel, .data, .pinned], laidTests := true, laidLooks := .later }
def TermsFormsUptoCardSaid : Prop := Claim7.holds Tryz.pinned (.plain (OpenSpec.upto termsFormsSpec)) termsFormsUptoCard

/-- THE SECOND FORM's CARD OF 'arrearslaw16.TermsReads'. -/
def termsReadsUptoCard : Claim7 := { stood := { row := termsReadsUptoRow, standIns := [], harness := (true, "1c840224c7444e7c6e4812814e38533a9436b5b9ee17b1b65dec300d9145e854"), looks := true }, kinds := [], alts := [], laidByText := true, laidKinds := [.data, .data, .data, .data, .handle, .sentinel, .sentinel, .data, .pinned], laidTests := true, laidLooks := .later }
def TermsReadsUptoCardSaid : Prop := Claim7.holds Tryz.pinned (.plain (OpenSpec.upto termsReadsSpec)) termsReadsUptoCard

/-- THE SECOND FORM's CARD OF 'arrearslaw16.TermsApart'. -/
def termsApartUptoCard : Claim7 := { stood := { row := termsApartUptoRow, standIns := [], harness := (true, "1c840224c7444e7c6e4812814e38533a9436b5b9ee17b1b65dec300d9145e854"), looks := true }, kinds := [], alts := [], laidByText := true, laidKinds := [.data, .data, .data, .data, .sentinel, .sentinel, .data, .pinned], laidTests := true, laidLooks := .later }
def TermsApartUptoCardSaid : Prop := Claim7.holds Tryz.pinned (.plain (OpenSpec.upto termsApartSpec)) termsApartUptoCard
end Rows
end Go.Proofs.YtjcnglkjjhnpbaaGreatDoor
