/-
  The law's few, take whole, the document's example. Conditions: the values are there.
-/
import Derived.Test.YtbfekonlgbolcabQuJ
import Derived.Test.YtbfekonlgbolcabSame
namespace Go.Proofs.Ytbfekonlgbolcab
open Go.ChangeShapes Go.WideShapes Go.ChangeAt Go.RowKit

section
variable (b g : Nat)
end

/-- What few leaves of a value. -/
structure Val.Good (v : Val) : Prop where
  ok : v.Ok
  s : v.s.size ≤ 40
  m : v.k % 4 = 3 → v.m < 1000
def FVPost (w : World) (e : Ending) (w' : World) : Prop :=
  ∃ (A : Option Addr) (c : Nat) (l : List Val), e = .returned (.slice A l.length c) ∧ l.length ≤ c ∧ c ≤ maxLen ∧ l.length ≤ 12 ∧ (∀ v ∈ l, v.Good) ∧ Rvs w' w'.heap.size A l ∧ Below w.heap.size w w'

end Go.Proofs.Ytbfekonlgbolcab
