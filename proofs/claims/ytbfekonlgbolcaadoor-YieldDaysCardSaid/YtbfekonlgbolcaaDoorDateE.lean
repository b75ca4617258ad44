/-
  A date's Number, Last, the reference's Number. Condition: the months' lengths are laid.
-/
import Derived.Test.YtbfekonlgbolcaaDoorDateD
namespace Go.Proofs.YtbfekonlgbolcaaDoor
open Go.RowKit

theorem dby_lim (y : Int) (h1 : 1 ≤ y) (h2 : y ≤ 9999) : 0 ≤ dby y ∧ dby y ≤ 3700000 := by
  have := dby_lo y h1
  have := dby_hi y h1
  omega
theorem cum_lim (y m : Int) : 0 ≤ cum y m ∧ cum y m ≤ 366 := by
  have := cum_bd y m
  have := lp_01 y
  omega

end Go.Proofs.YtbfekonlgbolcaaDoor
