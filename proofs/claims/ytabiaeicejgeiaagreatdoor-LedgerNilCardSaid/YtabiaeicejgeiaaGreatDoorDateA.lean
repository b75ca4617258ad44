/-
  date: Leap, Length, Right, Week and the references' Leap, Length, Right, Next. Condition: the months' lengths are laid.
-/
import Derived.Test.YtabiaeicejgeiaaGreatDoorMem
import Derived.Test.YtabiaeicejgeiaaGreatDoorCal
import Derived.Handy
namespace Go.Proofs.YtabiaeicejgeiaaGreatDoor
open Go.RowKit

theorem leap_yes {y : Int} (h1 : 1 ≤ y) (h2 : y ≤ 9999) (h : y % 4 = 0 ∧ y % 100 ≠ 0 ∨ y % 400 = 0) : leapB y = true := (leap_iff y).2 ⟨h1, h2, h⟩
theorem leap_no {y : Int} (h : ¬ (1 ≤ y ∧ y ≤ 9999 ∧ (y % 4 = 0 ∧ y % 100 ≠ 0 ∨ y % 400 = 0))) : leapB y = false := by
  cases hb : leapB y
  · rfl
  · exact absurd ((leap_iff y).1 hb) h
theorem ret_bool {a b : Bool} (h : a = b) : Ending.returned (.bool a) = .returned (.bool b) := by rw [h]
theorem ret_int {k : IntKind} {a b : Int} (h : a = b) : Ending.returned (.int k a) = .returned (.int k b) := by rw [h]

/-- A day that there is. -/
def dayB (d : Int) : Bool := decide (0 ≤ d ∧ d ≤ 3652058)
theorem day_yes {d : Int} (h0 : 0 ≤ d) (h1 : d ≤ 3652058) : dayB d = true := by unfold dayB; simp [h0, h1]
theorem day_no {d : Int} (h : d < 0 ∨ 3652058 < d) : dayB d = false := by unfold dayB; simp; omega
set_option maxHeartbeats 1000000 in
theorem DRight_any (d : Int) (w : World) : Calls Tryz.prog 70 #[.int .i32 d] w fun e w' => e = .returned (.bool (dayB d)) ∧ w = w' := by
  by_cases h0 : 0 ≤ d
  · by_cases h1 : d ≤ 3652058
    · rw [day_yes h0 h1]
      go_enter Tryz.func70, Tryz.ntmps70
      go_wp2
      go_ret
      exact ⟨rfl, rfl⟩
    · rw [day_no (by omega)]
      go_enter Tryz.func70, Tryz.ntmps70
      go_wp2
      go_ret
      exact ⟨rfl, rfl⟩
  · rw [day_no (by omega)]
    go_enter Tryz.func70, Tryz.ntmps70
    go_wp2
    go_ret
    exact ⟨rfl, rfl⟩

end Go.Proofs.YtabiaeicejgeiaaGreatDoor
