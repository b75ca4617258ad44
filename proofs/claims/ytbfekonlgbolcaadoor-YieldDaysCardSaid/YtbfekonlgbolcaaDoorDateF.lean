/-
  A date's Last and Months, what is no date and no day; the reference's Next and Months. Condition: the months' lengths are laid.
-/
import Derived.Test.YtbfekonlgbolcaaDoorDateE
namespace Go.Proofs.YtbfekonlgbolcaaDoor
open Go.RowKit

set_option maxHeartbeats 1000000 in
theorem DCivil_no (n : Int) (h : n < 0 ∨ 3652058 < n) (w : World) : Calls Tryd.prog 44 #[.int .i32 n] w fun e w' => e = .returned (.tuple #[.agg #[.int .i64 0, .int .i64 0, .int .i64 0], .iface 38 (.int .i64 1)]) ∧ Below w.heap.size w w' := by
  have hr : ∀ W, Calls Tryd.prog 54 #[.int .i32 n] W fun e w' => e = .returned (.bool false) ∧ W = w' := fun W => by have := DRight_any n W; rw [day_no h] at this; exact this
  clear h
  go_enter Tryd.func44, Tryd.ntmps44
  go_wp2_with (go_at_call 54; refine (hr _).mono ?_; rintro e w' ⟨rfl, rfl⟩)
  exact bodyPost_ret (v := .tuple #[.agg #[.int .i64 0, .int .i64 0, .int .i64 0], .iface 38 (.int .i64 1)]) (by simp [results, Tryd.results44, go_sem]) rfl ⟨rfl, below_alloc _ _⟩

/-- The last date of its month. -/
def lastB (y m d : Int) : Bool := rightB y m d && (d == mlen y m)
end Go.Proofs.YtbfekonlgbolcaaDoor
