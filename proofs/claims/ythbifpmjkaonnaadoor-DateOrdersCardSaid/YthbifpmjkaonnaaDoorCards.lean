/-
  DERIVED. GIVEN WITH THE SEED: THE CARDS: each row of YthbifpmjkaonnaaDoorRows.lean that lists a variable, with what it lists TIED to the program's text (the seventh form; the later family's looks); each row that meets fmt, with fmt's text TOLD by the authors' own Lean function (tested against real Go, not proved from fmt's source: count such statements apart). THE CARD IS WHAT COUNTS. Prove the row's statement (the work); the ties are given (YthbifpmjkaonnaaDoorTie.lean); close each card by the builder's one call (the guide's Derived/Test/ToyasCard.lean, 'card_holds'). Laid BY PROGRAM, IN A SANDBOX (cutbox-door.mjs). By AI agents, Wed Nov 11 2026. No macro, syntax, notation, axiom, sorry.
-/
import Derived.Test.YthbifpmjkaonnaaDoorRows
import GoSem.ClaimSeven
namespace Go.Proofs.YthbifpmjkaonnaaDoor
namespace Rows

/-- THE TIED CARD OF 'arrearslaw02.SeamRows'. -/
def seamRowsCard : Claim7 := { stood := { row := seamRowsRow, standIns := [], harness := (true, "4ea41903e5394779e24f9a6909b3a68296d935b29daef53814d0594ba90f2899"), looks := true }, kinds := [], alts := [], laidByText := true, laidKinds := [.handle], laidTests := true, laidLooks := .later }
def SeamRowsCardSaid : Prop := Claim7.holds Tryd.pinned (.plain (OpenSpec.ofChange seamRowsSpec)) seamRowsCard

/-- THE TIED CARD OF 'arrearslaw05.DateTurns'. -/
def dateTurnsCard : Claim7 := { stood := { row := dateTurnsRow, standIns := [], harness := (true, "4ea41903e5394779e24f9a6909b3a68296d935b29daef53814d0594ba90f2899"), looks := true }, kinds := [], alts := [], laidByText := true, laidKinds := [.data, .data, .data, .handle, .sentinel, .sentinel, .data], laidTests := true, laidLooks := .later }
def DateTurnsCardSaid : Prop := Claim7.holds Tryd.pinned (.plain (OpenSpec.ofChange dateTurnsSpec)) dateTurnsCard

/-- THE TIED CARD OF 'arrearslaw05.DateBacks'. -/
def dateBacksCard : Claim7 := { stood := { row := dateBacksRow, standIns := [], harness := (true, "4ea41903e5394779e24f9a6909b3a68296d935b29daef53814d0594ba90f2899"), looks := true }, kinds := [], alts := [], laidByText := true, laidKinds := [.handle, .data], laidTests := true, laidLooks := .later }
def DateBacksCardSaid : Prop := Claim7.holds Tryd.pinned (.plain (OpenSpec.ofChange dateBacksSpec)) dateBacksCard

/-- THE TIED CARD OF 'arrearslaw05.DateMonths'. -/
def dateMonthsCard : Claim7 := { stood := { row := dateMonthsRow, standIns := [], harness := (true, "4ea41903e5394779e24f9a6909b3a68296d935b29daef53814d0594ba90f2899"), looks := true }, kinds := [], alts := [], laidByText := true, laidKinds := [.handle, .data], laidTests := true, laidLooks := .later }
def DateMonthsCardSaid : Prop := Claim7.holds Tryd.pinned (.plain (OpenSpec.ofChange dateMonthsSpec)) dateMonthsCard

/-- THE TIED CARD OF 'arrearslaw05.DateReads'. -/
def dateReadsCard : Claim7 := { stood := { row := dateReadsRow, standIns := [], harness := (true, "4ea41903e5394779e24f9a6909b3a68296d935b29daef53814d0594ba90f2899"), looks := true }, kinds := [], alts := [], laidByText := true, laidKinds := [.data, .data, .data, .handle, .sentinel, .sentinel, .data], laidTests := true, laidLooks := .later }
def DateReadsCardSaid : Prop := Claim7.holds Tryd.pinned (.plain (OpenSpec.ofChange dateReadsSpec)) dateReadsCard

/-- THE TIED CARD OF 'arrearslaw05.DateGoes'. -/
def dateGoesCard : Claim7 := { stood := { row := dateGoesRow, standIns := [], harness := (true, "4ea41903e5394779e24f9a6909b3a68296d935b29daef53814d0594ba90f2899"), looks := true }, kinds := [], alts := [], laidByText := true, laidKinds := [.data], laidTests := true, laidLooks := .later }
def DateGoesCardSaid : Prop := Claim7.holds Tryd.pinned (.plain (OpenSpec.ofChange dateGoesSpec)) dateGoesCard

/-- THE TIED CARD OF 'arrearslaw05.DateOrders'. -/
def dateOrdersCard : Claim7 := { stood := { row := dateOrdersRow, standIns := [], harness := (true, "4ea41903e5394779e24f9a6909b3a68296d935b29daef53814d0594ba90f2899"), looks := true }, kinds := [], alts := [], laidByText := true, laidKinds := [.data, .data, .data, .data], laidTests := true, laidLooks := .later }
def DateOrdersCardSaid : Prop := Claim7.holds Tryd.pinned (.plain (OpenSpec.ofChange dateOrdersSpec)) dateOrdersCard

/-- THE TIED CARD OF 'arrearslaw06.SpanCounts'. -/
def spanCountsCard : Claim7 := { stood := { row := spanCountsRow, standIns := [], harness := (true, "4ea41903e5394779e24f9a6909b3a68296d935b29daef53814d0594ba90f2899"), looks := true }, kinds := [], alts := [], laidByText := true, laidKinds := [.data, .data, .data, .handle, .sentinel, .sentinel, .data], laidTests := true, laidLooks := .later }
def SpanCountsCardSaid : Prop := Claim7.holds Tryd.pinned (.plain (OpenSpec.ofChange spanCountsSpec)) spanCountsCard

/-- THE TIED CARD OF 'arrearslaw06.SpanOnes'. -/
def spanOnesCard : Claim7 := { stood := { row := spanOnesRow, standIns := [], harness := (true, "4ea41903e5394779e24f9a6909b3a68296d935b29daef53814d0594ba90f2899"), looks := true }, kinds := [], alts := [], laidByText := true, laidKinds := [.data, .data, .data, .handle, .sentinel, .sentinel, .data], laidTests := true, laidLooks := .later }
def SpanOnesCardSaid : Prop := Claim7.holds Tryd.pinned (.plain (OpenSpec.ofChange spanOnesSpec)) spanOnesCard

/-- THE TIED CARD OF 'arrearslaw06.SpanYears'. -/
def spanYearsCard : Claim7 := { stood := { row := spanYearsRow, standIns := [], harness := (true, "4ea41903e5394779e24f9a6909b3a68296d935b29daef53814d0594ba90f2899"), looks := true }, kinds := [], alts := [], laidByText := true, laidKinds := [.data, .data, .data, .sentinel, .sentinel, .data], laidTests := true, laidLooks := .later }
def SpanYearsCardSaid : Prop := Claim7.holds Tryd.pinned (.plain (OpenSpec.ofChange spanYearsSpec)) spanYearsCard

/-- THE SECOND FORM's CARD OF 'arrearslaw02.SeamRows'. -/
def seamRowsUptoCard : Claim7 := { stood := { row := seamRowsUptoRow, standIns := [], harness := (true, "4ea41903e5394779e24f9a6909b3a68296d935b29daef53814d0594ba90f2899"), looks := true }, kinds := [], alts := [], laidByText := true, laidKinds := [.handle], laidTests := true, laidLooks := .later }
def SeamRowsUptoCardSaid : Prop := Claim7.holds Tryd.pinned (.plain (OpenSpec.upto seamRowsSpec)) seamRowsUptoCard

/-- THE SECOND FORM's CARD OF 'arrearslaw05.DateTurns'. -/
def dateTurnsUptoCard : Claim7 := { stood := { row := dateTurnsUptoRow, standIns := [], harness := (true, "4ea41903e5394779e24f9a6909b3a68296d935b29daef53814d0594ba90f2899"), looks := true }, kinds := [], alts := [], laidByText := true, laidKinds := [.data, .data, .data, .handle, .sentinel, .sentinel, .data], laidTests := true, laidLooks := .later }
def DateTurnsUptoCardSaid : Prop := Claim7.holds Tryd.pinned (.plain (OpenSpec.upto dateTurnsSpec)) dateTurnsUptoCard

/-- THE SECOND FORM's CARD OF 'arrearslaw05.DateBacks'. -/
def dateBacksUptoCard : Claim7 := { stood := { row := dateBacksUptoRow, standIns := [], harness := (true, "4ea41903e5394779e24f9a6909b3a68296d935b29daef53814d0594ba90f2899"), looks := true }, kinds := [], alts := [], laidByText := true, laidKinds := [.handle, .data], laidTests := true, laidLooks := .later }
def DateBacksUptoCardSaid : Prop := Claim7.holds Tryd.pinned (.plain (OpenSpec.upto dateBacksSpec)) dateBacksUptoCard

/-- THE SECOND FORM's CARD OF 'arrearslaw05.DateMonths'. -/
def dateMonthsUptoCard : Claim7 := { stood := { row := dateMonthsUptoRow, standIns := [], harness := (true, "4ea41903e5394779e24f9a6909b3a68296d935b29daef53814d0594ba90f2899"), looks := true }, kinds := [], alts := [], laidByText := true, laidKinds := [.handle, .data], laidTests := true, laidLooks := .later }
def DateMonthsUptoCardSaid : Prop := Claim7.holds Tryd.pinned (.plain (OpenSpec.upto dateMonthsSpec)) dateMonthsUptoCard

/-- THE SECOND FORM's CARD OF 'arrearslaw05.DateReads'. -/
def dateReadsUptoCard : Claim7 := { stood := { row := dateReadsUptoRow, standIns := [], harness := (true, "4ea41903e5394779e24f9a6909b3a68296d935b29daef53814d0594ba90f2899"), looks := true }, kinds := [], alts := [], laidByText := true, laidKinds := [.data, .data, .data, .handle, .sentinel, .sentinel, .data], laidTests := true, laidLooks := .later }
def DateReadsUptoCardSaid : Prop := Claim7.holds Tryd.pinned (.plain (OpenSpec.upto dateReadsSpec)) dateReadsUptoCard

/-- THE SECOND FORM's CARD OF 'arrearslaw05.DateGoes'. -/
def dateGoesUptoCard : Claim7 := { stood := { row := dateGoesUptoRow, standIns := [], harness := (true, "4ea41903e5394779e24f9a6909b3a68296d935b29daef53814d0594ba90f2899"), looks := true }, kinds := [], alts := [], laidByText := true, laidKinds := [.data], laidTests := true, laidLooks := .later }
def DateGoesUptoCardSaid : Prop := Claim7.holds Tryd.pinned (.plain (OpenSpec.upto dateGoesSpec)) dateGoesUptoCard

/-- THE SECOND FORM's CARD OF 'arrearslaw05.DateOrders'. -/
def dateOrdersUptoCard : Claim7 := { stood := { row := dateOrdersUptoRow, standIns := [], harness := (true, "4ea41903e5394779e24f9a6909b3a68296d935b29daef53814d0594ba90f2899"), looks := true }, kinds := [], alts := [], laidByText := true, laidKinds := [.data, .data, .data, .data], laidTests := true, laidLooks := .later }
def DateOrdersUptoCardSaid : Prop := Claim7.holds Tryd.pinned (.plain (OpenSpec.upto dateOrdersSpec)) dateOrdersUptoCard

/-- THE SECOND FORM's CARD OF 'arrearslaw06.SpanCounts'. -/
def spanCountsUptoCard : Claim7 := { stood := { row := spanCountsUptoRow, standIns := [], harness := (true, "4ea41903e5394779e24f9a6909b3a68296d935b29daef53814d0594ba90f2899"), looks := true }, kinds := [], alts := [], laidByText := true, laidKinds := [.data, .data, .data, .handle, .sentinel, .sentinel, .data], laidTests := true, laidLooks := .later }
def SpanCountsUptoCardSaid : Prop := Claim7.holds Tryd.pinned (.plain (OpenSpec.upto spanCountsSpec)) spanCountsUptoCard

/-- THE SECOND FORM's CARD OF 'arrearslaw06.SpanOnes'. -/
def spanOnesUptoCard : Claim7 := { stood := { row := spanOnesUptoRow, standIns := [], harness := (true, "4ea41903e5394779e24f9a6909b3a68296d935b29daef53814d0594ba90f2899"), looks := true }, kinds := [], alts := [], laidByText := true, laidKinds := [.data, .data, .data, .handle, .sentinel, .sentinel, .data], laidTests := true, laidLooks := .later }
def SpanOnesUptoCardSaid : Prop := Claim7.holds Tryd.pinned (.plain (OpenSpec.upto spanOnesSpec)) spanOnesUptoCard

/-- THE SECOND FORM's CARD OF 'arrearslaw06.SpanYears'. -/
def spanYearsUptoCard : Claim7 := { stood := { row := spanYearsUptoRow, standIns := [], harness := (true, "4ea41903e5394779e24f9a6909b3a68296d935b29daef53814d0594ba90f2899"), looks := true }, kinds := [], alts := [], laidByText := true, laidKinds := [.data, .data, .data, .sentinel, .sentinel, .data], laidTests := true, laidLooks := .later }
def SpanYearsUptoCardSaid : Prop := Claim7.holds Tryd.pinned (.plain (OpenSpec.upto spanYearsSpec)) spanYearsUptoCard
end Rows
end Go.Proofs.YthbifpmjkaonnaaDoor
