/-
  The reference's Lay of layer 8. Conditions: a value in its kinds, its text of at most 1000 bytes.
-/
import Derived.Test.YtbfekonlgbolcabDoorRefR8
namespace Go.Proofs.YtbfekonlgbolcabDoor
open Go.RowKit

end Go.Proofs.YtbfekonlgbolcabDoor
