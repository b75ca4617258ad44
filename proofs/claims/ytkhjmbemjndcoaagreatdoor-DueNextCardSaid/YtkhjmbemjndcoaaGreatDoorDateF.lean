/-
  A date's Last and Months, what is no date and no day; the reference's Next and Months. Condition: the months' lengths are laid.
-/
import Derived.Test.YtkhjmbemjndcoaaGreatDoorDateE
namespace Go.Proofs.YtkhjmbemjndcoaaGreatDoor
open Go.RowKit

set_option maxHeartbeats 1000000 in
theorem CNum_no (y m d : Int) (h : rightB y m d = false) (w : World) (hw : Lens w) : Calls Tryz.prog 22 #[.agg #[.int .i64 y, .int .i64 m, .int .i64 d]] w fun e w' => e = .returned (.tuple #[.int .i32 0, .iface 35 (.int .i64 1)]) ∧ Below w.heap.size w w' := by
  have hR := CRight_any y m d (w.alloc (.cells #[.int .i64 y, .int .i64 m, .int .i64 d] 48)) (hw.below (below_alloc _ _))
  rw [h] at hR
  have HB := Lib.hid (below_alloc w (.cells #[.int .i64 y, .int .i64 m, .int .i64 d] 48))
  clear hw h
  go_enter Tryz.func22, Tryz.ntmps22
  go_wp2_with fail
  refine hR.mono ?_
  rintro e w1 ⟨rfl, hb1⟩
  have HB1 := Lib.hid (HB.out.trans (hb1.mono HB.out.size))
  clear hb1 hR
  go_wp2_with fail
  go_ret2
  exact ⟨rfl, HB1.out⟩

set_option maxHeartbeats 1000000 in
theorem DCivil_no (n : Int) (h : n < 0 ∨ 3652058 < n) (w : World) : Calls Tryz.prog 18 #[.int .i32 n] w fun e w' => e = .returned (.tuple #[.agg #[.int .i64 0, .int .i64 0, .int .i64 0], .iface 35 (.int .i64 1)]) ∧ Below w.heap.size w w' := by
  have hr : ∀ W, Calls Tryz.prog 28 #[.int .i32 n] W fun e w' => e = .returned (.bool false) ∧ W = w' := fun W => by have := DRight_any n W; rw [day_no h] at this; exact this
  clear h
  go_enter Tryz.func18, Tryz.ntmps18
  go_wp2_with (go_at_call 28; refine (hr _).mono ?_; rintro e w' ⟨rfl, rfl⟩)
  exact bodyPost_ret (v := .tuple #[.agg #[.int .i64 0, .int .i64 0, .int .i64 0], .iface 35 (.int .i64 1)]) (by simp [results, Tryz.results18, go_sem]) rfl ⟨rfl, below_alloc _ _⟩

/-- The last date of its month. -/
def lastB (y m d : Int) : Bool := rightB y m d && (d == mlen y m)
set_option maxHeartbeats 1000000 in
theorem CLast_any (y m d : Int) (w : World) (hw : Lens w) : Calls Tryz.prog 20 #[.agg #[.int .i64 y, .int .i64 m, .int .i64 d]] w fun e w' => e = .returned (.bool (lastB y m d)) ∧ Below w.heap.size w w' := by
  obtain ⟨L, hL⟩ : ∃ L, mlen y m = L := ⟨_, rfl⟩
  unfold lastB
  rw [hL]
  go_enter Tryz.func20, Tryz.ntmps20
  go_wp2_with fail
  obtain ⟨W0, hw0⟩ : ∃ W, w.alloc (.cells #[.int .i64 y, .int .i64 m, .int .i64 d] 48) = W := ⟨_, rfl⟩
  have hb0 : Below w.heap.size w W0 := by rw [← hw0]; exact below_alloc w _
  obtain ⟨b0, b1, b2⟩ := box3 hw0
  have hk0 : Blk W0 w.heap.size 48 #[.int .i64 y, .int .i64 m, .int .i64 d] := by rw [← hw0]; exact Blk.new w _ _
  have c0 := hk0.cell 0
  have c1 := hk0.cell 1
  have c2 := hk0.cell 2
  simp at c0 c1 c2
  have HC : ∀ dd os, _ := fun (dd : Nat) (os : Array Obj) => Calls.regrown_of (below_same (hL ▸ Length_any y m (Go.Sort.grow (redrawn W0 dd) os) ((hw.below hb0).below (below_regrown W0 dd os))))
  have HR : ∀ dd os, _ := fun (dd : Nat) (os : Array Obj) => Calls.regrown_of (CRight_any y m d (Go.Sort.grow (redrawn W0 dd) os) ((hw.below hb0).below (below_regrown W0 dd os)))
  rw [hw0]
  clear hw0 hw hk0
  cases hd : rightB y m d
  all_goals
    rw [hd] at HR
    refine wp_region_quiet_below (by kernel_rfl) (by kernel_rfl) ?_
    repeat (go_big_quiet_step (first | (go_at_call 35; exact HR _ _) | (go_at_call 21; exact HC _ _)))
    refine wpQuiet_nil ?_
    intro w9 hw'
    have hbx : Below W0.heap.size W0 w9 := by
      obtain ⟨p, rfl⟩ := hw'
      exact below_regrown _ _ _
    clear hw' HC HR b0 b1 b2
    go_wp2_with fail
    go_ret
    exact ⟨by rw [hd]; rfl, hb0.trans (hbx.mono hb0.size)⟩

set_option maxHeartbeats 1000000 in
theorem Next_fwd (y m : Int) (hy : -9223372036854775808 ≤ y ∧ y ≤ 9223372036854775806) (h1 : 1 ≤ m) (h2 : m ≤ 12) (w : World) : Calls Tryz.prog 25 #[.int .i64 y, .int .i64 m, .bool false] w fun e w' => e = .returned (.tuple #[.int .i64 (mY (12 * (y - 1) + m)), .int .i64 (mM (12 * (y - 1) + m))]) ∧ w = w' := by
  by_cases h : m = 12
  · subst h
    rw [show mY (12 * (y - 1) + 12) = y + 1 by unfold mY; omega, show mM (12 * (y - 1) + 12) = 1 by unfold mM; omega]
    go_enter Tryz.func25, Tryz.ntmps25
    go_wp2_with fail
    go_ret2
    exact ⟨rfl, rfl⟩
  · rw [show mY (12 * (y - 1) + m) = y by unfold mY; omega, show mM (12 * (y - 1) + m) = m + 1 by unfold mM; omega]
    go_enter Tryz.func25, Tryz.ntmps25
    go_wp2_with fail
    go_ret2
    exact ⟨rfl, rfl⟩
set_option maxHeartbeats 1000000 in
theorem Next_bwd (y m : Int) (hy : -9223372036854775807 ≤ y ∧ y ≤ 9223372036854775806) (h1 : 1 ≤ m) (h2 : m ≤ 12) (w : World) : Calls Tryz.prog 25 #[.int .i64 y, .int .i64 m, .bool true] w fun e w' => e = .returned (.tuple #[.int .i64 (mY (12 * (y - 1) + m - 2)), .int .i64 (mM (12 * (y - 1) + m - 2))]) ∧ w = w' := by
  by_cases h : m = 1
  · subst h
    rw [show mY (12 * (y - 1) + 1 - 2) = y - 1 by unfold mY; omega, show mM (12 * (y - 1) + 1 - 2) = 12 by unfold mM; omega]
    go_enter Tryz.func25, Tryz.ntmps25
    go_wp2_with fail
    go_ret2
    exact ⟨rfl, rfl⟩
  · rw [show mY (12 * (y - 1) + m - 2) = y by unfold mY; omega, show mM (12 * (y - 1) + m - 2) = m - 1 by unfold mM; omega]
    go_enter Tryz.func25, Tryz.ntmps25
    go_wp2_with fail
    go_ret2
    exact ⟨rfl, rfl⟩

end Go.Proofs.YtkhjmbemjndcoaaGreatDoor
