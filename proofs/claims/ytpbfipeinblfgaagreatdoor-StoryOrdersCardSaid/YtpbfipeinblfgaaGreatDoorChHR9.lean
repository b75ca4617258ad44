/-
chart: names, rising. Conditions: the rows are there.
chart: balanced, Right. Conditions: the rows are there.
-/
import Derived.Deep.CutBlock
import Derived.Test.YtpbfipeinblfgaaGreatDoorChDaQ9
import Derived.Lib.QuietBelow
import Derived.BigQuiet
import Derived.Lib.Strings
import Derived.Test.YtpbfipeinblfgaaGreatDoorLvlDQ9
import Derived.Test.YtpbfipeinblfgaaGreatDoorSyKQ9
import Derived.Test.YtpbfipeinblfgaaGreatDoorDateAQ9
import Derived.Laws.MakeOwn
namespace Go.Proofs.YtpbfipeinblfgaaGreatDoor
open Go.ChangeShapes Go.WideShapes Go.ChangeAt Go.RowKit
def risTo (l : List (Nat × Int)) : Nat → Bool
  | 0 => true
  | k + 1 => risTo l k && (decide (1 ≤ (l.getD k (0, 0)).1) && decide ((l.getD k (0, 0)).1 ≤ 9) && (k == 0 || decide ((l.getD (k - 1) (0, 0)).1 < (l.getD k (0, 0)).1)))
def amts (l : List (Nat × Int)) : List Int := l.map (·.2)
def entB (y : Ky) (l : List (Nat × Int)) : Bool := decide (1 ≤ y.k ∧ y.k ≤ 7) && (dayB y.d && (decide (1 ≤ l.length ∧ l.length ≤ 8) && (risTo l l.length && decide (sumO (amts l) = some 0))))
end Go.Proofs.YtpbfipeinblfgaaGreatDoor
