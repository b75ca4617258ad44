/-
  The document's Right. Conditions: the rows are there.
-/
import Derived.Test.YtdknhjnbkmcicaaDoorChH
namespace Go.Proofs.YtdknhjnbkmcicaaDoor
open Go.ChangeShapes Go.WideShapes Go.ChangeAt Go.RowKit

end Go.Proofs.YtdknhjnbkmcicaaDoor
