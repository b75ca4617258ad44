/-
  A date's Months; the reference's. Condition: the months' lengths are laid.
-/
import Derived.Test.YtbfekonlgbolcaaDoorDateF
import Derived.StillTailTactics
namespace Go.Proofs.YtbfekonlgbolcaaDoor
open Go.RowKit

theorem two_boxes {w W1 : World} {T U : TypeId} {a b c x y z : Value} (h : (w.alloc (.cells #[a, b, c] T)).alloc (.cells #[x, y, z] U) = W1) :
    Below w.heap.size w W1 ∧ Blk W1 w.heap.size T #[a, b, c] ∧ Blk W1 (w.heap.size + 1) U #[x, y, z] := by
  subst h
  refine ⟨(below_alloc w _).trans ((below_alloc _ _).mono (by simp)), (Blk.new w _ _).alloc _, ?_⟩
  have := Blk.new (w.alloc (.cells #[a, b, c] T)) U #[x, y, z]
  rw [World.size_alloc] at this
  exact this

theorem same_sym {P : Program} {f : FuncId} {args : Array Value} {W : World} {v : Value} (h : Calls P f args W fun e w' => e = .returned v ∧ W = w') : Calls P f args W fun e w'' => e = .returned v ∧ w'' = W :=
  h.mono fun _ _ ⟨a, b⟩ => ⟨a, b.symm⟩

end Go.Proofs.YtbfekonlgbolcaaDoor
