/-
date: Leap, Length, Right, Week and the references' Leap, Length, Right, Next. Condition: the months' lengths are laid.
-/
import Derived.Test.YtpbfipeinblfgaaGreatDoorMemQ9
import Derived.Test.YtpbfipeinblfgaaGreatDoorCalQ9
import Derived.Handy
namespace Go.Proofs.YtpbfipeinblfgaaGreatDoor
open Go.RowKit

/-- The months' lengths, as the program's text lays them. -/
def Lens (w : World) : Prop := ∀ m : Int, 1 ≤ m → m ≤ 12 → w.cell? ⟨2, m.toNat - 1, none⟩ = some (.int .i64 (if m = 2 then 28 else if m = 4 ∨ m = 6 ∨ m = 9 ∨ m = 11 then 30 else 31))
theorem Lens.lt {w : World} (h : Lens w) : 2 < w.heap.size := by
  have hg := h 1 (by omega) (by omega)
  rcases Nat.lt_or_ge 2 w.heap.size with hl | hl
  · exact hl
  · simp [World.cell?, Array.getElem?_eq_none hl] at hg
theorem Lens.below {w w' : World} (h : Lens w) (hb : Below w.heap.size w w') : Lens w' := fun m h1 h2 => (hb.cell (p := ⟨2, _, none⟩) h.lt).trans (h m h1 h2)

theorem leap_yes {y : Int} (h1 : 1 ≤ y) (h2 : y ≤ 9999) (h : y % 4 = 0 ∧ y % 100 ≠ 0 ∨ y % 400 = 0) : leapB y = true := (leap_iff y).2 ⟨h1, h2, h⟩
theorem leap_no {y : Int} (h : ¬ (1 ≤ y ∧ y ≤ 9999 ∧ (y % 4 = 0 ∧ y % 100 ≠ 0 ∨ y % 400 = 0))) : leapB y = false := by
  cases hb : leapB y
  · rfl
  · exact absurd ((leap_iff y).1 hb) h
theorem ret_bool {a b : Bool} (h : a = b) : Ending.returned (.bool a) = .returned (.bool b) := by rw [h]
theorem ret_int {k : IntKind} {a b : Int} (h : a = b) : Ending.returned (.int k a) = .returned (.int k b) := by rw [h]

set_option maxHeartbeats 1000000 in
theorem Leap_any (y : Int) (w : World) : Calls Tryz.prog 170 #[.int .i64 y] w fun e w' => e = .returned (.bool (leapB y)) ∧ w = w' := by
  by_cases h1 : 1 ≤ y
  · by_cases h2 : y ≤ 9999
    · have h0 : 0 ≤ y := by omega
      go_enter Tryz.func170, Tryz.ntmps170
      go_wp2
      all_goals
        go_ret
        refine ⟨ret_bool ?_, rfl⟩
        rw [Bool.eq_iff_iff, leap_iff]
        simp
        omega
    · rw [leap_no (by omega)]
      go_enter Tryz.func170, Tryz.ntmps170
      go_wp2
      go_ret
      exact ⟨rfl, rfl⟩
  · rw [leap_no (by omega)]
    go_enter Tryz.func170, Tryz.ntmps170
    go_wp2
    go_ret
    exact ⟨rfl, rfl⟩

set_option maxHeartbeats 1000000 in
theorem RefLeap_any (y : Int) (w : World) : Calls Tryz.prog 112 #[.int .i64 y] w fun e w' => e = .returned (.bool (leapB y)) ∧ w = w' := by
  by_cases h1 : 1 ≤ y
  · by_cases h2 : y ≤ 9999
    · have h0 : 0 ≤ y := by omega
      by_cases h4 : 0 < y % 4
      · rw [leap_no (by omega)]
        go_enter Tryz.func112, Tryz.ntmps112
        go_wp2
        go_ret
        exact ⟨rfl, rfl⟩
      · go_enter Tryz.func112, Tryz.ntmps112
        go_wp2
        all_goals
          go_ret
          refine ⟨ret_bool ?_, rfl⟩
          rw [Bool.eq_iff_iff, leap_iff]
          simp
          omega
    · rw [leap_no (by omega)]
      go_enter Tryz.func112, Tryz.ntmps112
      go_wp2
      go_ret
      exact ⟨rfl, rfl⟩
  · rw [leap_no (by omega)]
    go_enter Tryz.func112, Tryz.ntmps112
    go_wp2
    go_ret
    exact ⟨rfl, rfl⟩

set_option maxHeartbeats 1000000 in
theorem Length_any (y m : Int) (w : World) (hw : Lens w) : Calls Tryz.prog 133 #[.int .i64 y, .int .i64 m] w fun e w' => e = .returned (.int .i64 (mlen y m)) ∧ w = w' := by
  by_cases h : 1 ≤ y ∧ y ≤ 9999 ∧ 1 ≤ m ∧ m ≤ 12
  · obtain ⟨h1, h2, h3, h4⟩ := h
    have hc := hw m h3 h4
    have hl : ∀ W, Calls Tryz.prog 170 #[.int .i64 y] W fun e w' => e = .returned (.bool (leapB y)) ∧ W = w' := fun W => Leap_any y W
    by_cases h5 : m = 2
    · subst h5
      rw [if_pos rfl] at hc
      have hc : w.cell? ⟨2, 1, none⟩ = some (.int .i64 28) := hc
      cases hb : leapB y
      · have hm : mlen y 2 = 28 := by unfold mlen lp; rw [hb]; simp [h1, h2]
        rw [hm]
        rw [hb] at hl
        clear hm hb hw
        go_enter Tryz.func133, Tryz.ntmps133
        go_wp2_with (go_at_call 170; refine (hl _).mono ?_; rintro e w' ⟨rfl, rfl⟩)
        go_ret
        exact ⟨rfl, rfl⟩
      · have hm : mlen y 2 = 29 := by unfold mlen lp; rw [hb]; simp [h1, h2]
        rw [hm]
        rw [hb] at hl
        clear hm hb hw
        go_enter Tryz.func133, Tryz.ntmps133
        go_wp2_with (go_at_call 170; refine (hl _).mono ?_; rintro e w' ⟨rfl, rfl⟩)
        go_ret
        exact ⟨rfl, rfl⟩
    · rw [if_neg h5] at hc
      have hm : mlen y m = (if m = 4 ∨ m = 6 ∨ m = 9 ∨ m = 11 then 30 else 31) := by unfold mlen; rw [if_pos ⟨h1, h2, h3, h4⟩, if_neg h5]
      rw [← hm] at hc
      clear hm hw
      go_enter Tryz.func133, Tryz.ntmps133
      go_wp2_with (go_at_call 170; refine (hl _).mono ?_; rintro e w' ⟨rfl, rfl⟩)
      go_ret
      exact ⟨rfl, rfl⟩
  · rw [mlen_no y m (by omega)]
    by_cases h1 : 1 ≤ y
    · by_cases h2 : y ≤ 9999
      · by_cases h3 : 1 ≤ m
        · have h4 : ¬ m ≤ 12 := by omega
          clear h
          go_enter Tryz.func133, Tryz.ntmps133
          go_wp2
          go_ret
          exact ⟨rfl, rfl⟩
        · clear h
          go_enter Tryz.func133, Tryz.ntmps133
          go_wp2
          go_ret
          exact ⟨rfl, rfl⟩
      · clear h
        go_enter Tryz.func133, Tryz.ntmps133
        go_wp2
        go_ret
        exact ⟨rfl, rfl⟩
    · clear h
      go_enter Tryz.func133, Tryz.ntmps133
      go_wp2
      go_ret
      exact ⟨rfl, rfl⟩

/-- A day that there is. -/
def dayB (d : Int) : Bool := decide (0 ≤ d ∧ d ≤ 3652058)
theorem day_yes {d : Int} (h0 : 0 ≤ d) (h1 : d ≤ 3652058) : dayB d = true := by unfold dayB; simp [h0, h1]
theorem day_no {d : Int} (h : d < 0 ∨ 3652058 < d) : dayB d = false := by unfold dayB; simp; omega
set_option maxHeartbeats 1000000 in
theorem DRight_any (d : Int) (w : World) : Calls Tryz.prog 29 #[.int .i32 d] w fun e w' => e = .returned (.bool (dayB d)) ∧ w = w' := by
  by_cases h0 : 0 ≤ d
  · by_cases h1 : d ≤ 3652058
    · rw [day_yes h0 h1]
      go_enter Tryz.func29, Tryz.ntmps29
      go_wp2
      go_ret
      exact ⟨rfl, rfl⟩
    · rw [day_no (by omega)]
      go_enter Tryz.func29, Tryz.ntmps29
      go_wp2
      go_ret
      exact ⟨rfl, rfl⟩
  · rw [day_no (by omega)]
    go_enter Tryz.func29, Tryz.ntmps29
    go_wp2
    go_ret
    exact ⟨rfl, rfl⟩

set_option maxHeartbeats 1000000 in
theorem Week_any (d : Int) (h0 : 0 ≤ d) (h1 : d ≤ 3652058) (w : World) : Calls Tryz.prog 186 #[.int .i32 d] w fun e w' => e = .returned (.int .i64 (d % 7)) ∧ w = w' := by
  have hr : ∀ W, Calls Tryz.prog 29 #[.int .i32 d] W fun e w' => e = .returned (.bool true) ∧ W = w' := fun W => by have := DRight_any d W; rw [day_yes h0 h1] at this; exact this
  go_enter Tryz.func186, Tryz.ntmps186
  go_wp2_with (go_at_call 29; refine (hr _).mono ?_; rintro e w' ⟨rfl, rfl⟩)
  go_ret
  exact ⟨rfl, rfl⟩
set_option maxHeartbeats 1000000 in
theorem Week_no (d : Int) (h : d < 0 ∨ 3652058 < d) (w : World) : Calls Tryz.prog 186 #[.int .i32 d] w fun e w' => e = .returned (.int .i64 (-1)) ∧ w = w' := by
  have hr : ∀ W, Calls Tryz.prog 29 #[.int .i32 d] W fun e w' => e = .returned (.bool false) ∧ W = w' := fun W => by have := DRight_any d W; rw [day_no h] at this; exact this
  clear h
  go_enter Tryz.func186, Tryz.ntmps186
  go_wp2_with (go_at_call 29; refine (hr _).mono ?_; rintro e w' ⟨rfl, rfl⟩)
  go_ret
  exact ⟨rfl, rfl⟩
end Go.Proofs.YtpbfipeinblfgaaGreatDoor
