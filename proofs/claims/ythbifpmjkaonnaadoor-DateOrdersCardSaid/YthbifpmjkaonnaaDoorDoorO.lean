/-
  A world that meets the list of DateOrders. No condition.
-/
import Derived.Test.YthbifpmjkaonnaaDoorDoorT
namespace Go.Proofs.YthbifpmjkaonnaaDoor
open Go.ChangeShapes Go.WideShapes Go.ChangeAt Go.RowKit

theorem dateOrders_met (os : Os) (args : Array Value) : laidMetH Tryd.prog Rows.dateOrdersRow.laid ((bigWorld os).forCall (fun _ _ => 0) ⟨#[], args, []⟩).memory :=
  laidMetH_of_parts (laidMet_of_run' 8 (by kernel_rfl) (by kernel_rfl)) (by kernel_rfl)
end Go.Proofs.YthbifpmjkaonnaaDoor
