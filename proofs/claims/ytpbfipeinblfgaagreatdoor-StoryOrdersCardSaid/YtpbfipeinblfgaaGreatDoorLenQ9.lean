/-
bits.Len64 for the seats that have no Mul64 (else XDivB has it): Go's own text is walked. No condition but the number's kind.
-/
import Derived.Test.YtpbfipeinblfgaaGreatDoorDivBQ9
import Derived.Test.YtpbfipeinblfgaaGreatDoorProg
import Derived.Lib.BitFns
import Derived.WalkKit
import Derived.WalkSpells
import Derived.Lib.Strings
import Derived.Lib.Slices
import Derived.Lib.Small
import Derived.Lib.Walk
import Derived.Lib.Hide
import Derived.Deep.Light
namespace Go.Proofs.YtpbfipeinblfgaaGreatDoor
open Go.RowKit

end Go.Proofs.YtpbfipeinblfgaaGreatDoor
