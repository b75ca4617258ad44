/-
  A date's Last and Months, what is no date and no day; the reference's Next and Months. Condition: the months' lengths are laid.
-/
import Derived.Test.YthbifpmjkaonnabDoorDateE
namespace Go.Proofs.YthbifpmjkaonnabDoor
open Go.RowKit

set_option maxHeartbeats 1000000 in
theorem CNum_no (y m d : Int) (h : rightB y m d = false) (w : World) (hw : Lens w) : Calls Tryd.prog 21 #[.agg #[.int .i64 y, .int .i64 m, .int .i64 d]] w fun e w' => e = .returned (.tuple #[.int .i32 0, .iface 46 (.int .i64 1)]) ∧ Below w.heap.size w w' := by
  have hR := CRight_any y m d (w.alloc (.cells #[.int .i64 y, .int .i64 m, .int .i64 d] 49)) (hw.below (below_alloc _ _))
  rw [h] at hR
  have HB := Lib.hid (below_alloc w (.cells #[.int .i64 y, .int .i64 m, .int .i64 d] 49))
  clear hw h
  go_enter Tryd.func21, Tryd.ntmps21
  go_wp2_with fail
  refine hR.mono ?_
  rintro e w1 ⟨rfl, hb1⟩
  have HB1 := Lib.hid (HB.out.trans (hb1.mono HB.out.size))
  clear hb1 hR
  go_wp2_with fail
  go_ret2
  exact ⟨rfl, HB1.out⟩

set_option maxHeartbeats 1000000 in
theorem DCivil_no (n : Int) (h : n < 0 ∨ 3652058 < n) (w : World) : Calls Tryd.prog 19 #[.int .i32 n] w fun e w' => e = .returned (.tuple #[.agg #[.int .i64 0, .int .i64 0, .int .i64 0], .iface 46 (.int .i64 1)]) ∧ Below w.heap.size w w' := by
  have hr : ∀ W, Calls Tryd.prog 17 #[.int .i32 n] W fun e w' => e = .returned (.bool false) ∧ W = w' := fun W => by have := DRight_any n W; rw [day_no h] at this; exact this
  clear h
  go_enter Tryd.func19, Tryd.ntmps19
  go_wp2_with (go_at_call 17; refine (hr _).mono ?_; rintro e w' ⟨rfl, rfl⟩)
  exact bodyPost_ret (v := .tuple #[.agg #[.int .i64 0, .int .i64 0, .int .i64 0], .iface 46 (.int .i64 1)]) (by simp [results, Tryd.results19, go_sem]) rfl ⟨rfl, below_alloc _ _⟩

/-- The last date of its month. -/
def lastB (y m d : Int) : Bool := rightB y m d && (d == mlen y m)
set_option maxHeartbeats 1000000 in
theorem Next_fwd (y m : Int) (hy : -9223372036854775808 ≤ y ∧ y ≤ 9223372036854775806) (h1 : 1 ≤ m) (h2 : m ≤ 12) (w : World) : Calls Tryd.prog 11 #[.int .i64 y, .int .i64 m, .bool false] w fun e w' => e = .returned (.tuple #[.int .i64 (mY (12 * (y - 1) + m)), .int .i64 (mM (12 * (y - 1) + m))]) ∧ w = w' := by
  by_cases h : m = 12
  · subst h
    rw [show mY (12 * (y - 1) + 12) = y + 1 by unfold mY; omega, show mM (12 * (y - 1) + 12) = 1 by unfold mM; omega]
    go_enter Tryd.func11, Tryd.ntmps11
    go_wp2_with fail
    go_ret2
    exact ⟨rfl, rfl⟩
  · rw [show mY (12 * (y - 1) + m) = y by unfold mY; omega, show mM (12 * (y - 1) + m) = m + 1 by unfold mM; omega]
    go_enter Tryd.func11, Tryd.ntmps11
    go_wp2_with fail
    go_ret2
    exact ⟨rfl, rfl⟩
set_option maxHeartbeats 1000000 in
theorem Next_bwd (y m : Int) (hy : -9223372036854775807 ≤ y ∧ y ≤ 9223372036854775806) (h1 : 1 ≤ m) (h2 : m ≤ 12) (w : World) : Calls Tryd.prog 11 #[.int .i64 y, .int .i64 m, .bool true] w fun e w' => e = .returned (.tuple #[.int .i64 (mY (12 * (y - 1) + m - 2)), .int .i64 (mM (12 * (y - 1) + m - 2))]) ∧ w = w' := by
  by_cases h : m = 1
  · subst h
    rw [show mY (12 * (y - 1) + 1 - 2) = y - 1 by unfold mY; omega, show mM (12 * (y - 1) + 1 - 2) = 12 by unfold mM; omega]
    go_enter Tryd.func11, Tryd.ntmps11
    go_wp2_with fail
    go_ret2
    exact ⟨rfl, rfl⟩
  · rw [show mY (12 * (y - 1) + m - 2) = y by unfold mY; omega, show mM (12 * (y - 1) + m - 2) = m - 1 by unfold mM; omega]
    go_enter Tryd.func11, Tryd.ntmps11
    go_wp2_with fail
    go_ret2
    exact ⟨rfl, rfl⟩

end Go.Proofs.YthbifpmjkaonnabDoor
