/-
  A date's Months where it is none or beyond; the reference's Months; the document's example. Condition: the months' lengths are laid.
-/
import Derived.Test.YtbfekonlgbolcaaDoorDateG
import Derived.Deep.RegionHeld3
namespace Go.Proofs.YtbfekonlgbolcaaDoor
open Go.RowKit

theorem keep3 {W : World} {g : Nat} {q : Addr} {v x y z : Value} (h : W.cell? q = some v) (hq : q.block ≠ g) : (((W.setCell ⟨g, 0, none⟩ x).setCell ⟨g, 1, none⟩ y).setCell ⟨g, 2, none⟩ z).cell? q = some v := by
  rw [World.cell?_setCell_other _ _ _ _ (fun e => hq (by subst e; rfl)), World.cell?_setCell_other _ _ _ _ (fun e => hq (by subst e; rfl)), World.cell?_setCell_other _ _ _ _ (fun e => hq (by subst e; rfl))]
  exact h

end Go.Proofs.YtbfekonlgbolcaaDoor
