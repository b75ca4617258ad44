/-
  The document's Right. Conditions: the rows are there.
-/
import Derived.Test.YtpphcifabmmimaaDoorChH
namespace Go.Proofs.YtpphcifabmmimaaDoor
open Go.ChangeShapes Go.WideShapes Go.ChangeAt Go.RowKit

end Go.Proofs.YtpphcifabmmimaaDoor
