/-
  date: a day's Civil, a date's Number; the references'. Condition: the months' lengths are laid.
-/
import Derived.Test.YtkhjmbemjndcoaaGreatDoorDateB
import Derived.LoopTactic
namespace Go.Proofs.YtkhjmbemjndcoaaGreatDoor
open Go.RowKit

set_option maxHeartbeats 1000000 in
theorem yearOf_any (n : Int) (w : World) (h0 : 0 ≤ n) (h1 : n ≤ 3652058) : Calls Tryz.prog 34 #[.int .i64 n] w fun e w' => e = .returned (.tuple #[.int .i64 (yr n), .int .i64 (n - dby (yr n))]) ∧ w = w' := by
  go_enter Tryz.func34, Tryz.ntmps34
  go_wp2_with fail
  all_goals
    go_ret2
    first
      | (obtain ⟨e1, e2⟩ := yr_low n h0 h1 (by assumption) (by assumption); rw [e1, e2]; exact ⟨rfl, rfl⟩)
      | (obtain ⟨e1, e2⟩ := yr_top n h0 h1 (by assumption) (by assumption); rw [e1, e2]; exact ⟨rfl, rfl⟩)
      | (obtain ⟨e1, e2⟩ := yr_end n h0 h1 (by assumption); rw [e1, e2]; exact ⟨rfl, rfl⟩)


theorem mo_bounds (n : Int) (h0 : 0 ≤ n) (h1 : n ≤ 3652058) : 1 ≤ yr n ∧ yr n ≤ 9999 ∧ 0 ≤ n - dby (yr n) ∧ n - dby (yr n) < 365 + lp (yr n) := by
  obtain ⟨a, b, c, d⟩ := yr_spec n h0 h1
  omega
theorem date_end {n Y R m : Int} (hY : yr n = Y) (hR : n - dby Y = R) (y1 : 1 ≤ Y) (y2 : Y ≤ 9999) (h1 : 1 ≤ m) (h2 : m ≤ 12) (h3 : 0 ≤ R - cum Y m) (h4 : R - cum Y m < mlen Y m) : Y = cY n ∧ m = cM n ∧ R - cum Y m + 1 = cD n := by
  have hs := cum_succ Y m y1 y2 h1 h2
  have e1 : Y = cY n := hY.symm
  have e2 : m = cM n := by
    unfold cM
    rw [hY, hR]
    exact mo_unique Y R m y1 y2 h1 h2 (by omega) (by omega)
  refine ⟨e1, e2, ?_⟩
  unfold cD
  rw [← e2, hY, hR]

set_option maxHeartbeats 1000000 in
theorem DCivil_any (n : Int) (w : World) (h0 : 0 ≤ n) (h1 : n ≤ 3652058) (hw : Lens w) : Calls Tryz.prog 18 #[.int .i32 n] w fun e w' => e = .returned (.tuple #[.agg #[.int .i64 (cY n), .int .i64 (cM n), .int .i64 (cD n)], .nilIface]) ∧ Below w.heap.size w w' := by
  have hr : ∀ W, Calls Tryz.prog 28 #[.int .i32 n] W fun e w' => e = .returned (.bool true) ∧ W = w' := fun W => by have := DRight_any n W; rw [day_yes h0 h1] at this; exact this
  have hy := fun W => yearOf_any n W h0 h1
  obtain ⟨y1, y2, r0, r1⟩ := mo_bounds n h0 h1
  obtain ⟨Y, hY⟩ : ∃ Y, yr n = Y := ⟨_, rfl⟩
  rw [hY] at hy y1 y2 r0 r1
  obtain ⟨R, hR⟩ : ∃ R, n - dby Y = R := ⟨_, rfl⟩
  rw [hR] at hy r0 r1
  have HY := Lib.hid hY
  have HR := Lib.hid hR
  have hcl := cum_bd Y
  clear hY hR
  go_enter Tryz.func18, Tryz.ntmps18
  go_wp2_with (first | (go_at_call 28; refine (hr _).mono ?_; rintro e w' ⟨rfl, rfl⟩) | (go_at_call 34; refine (hy _).mono ?_; rintro e w' ⟨rfl, rfl⟩))
  have hL := fun m => Length_any Y m (w.alloc (.cells #[.int .i64 0, .int .i64 0, .int .i64 0] 48)) (hw.below (below_alloc _ _))
  clear hr hy hw
  go_loop [5, 6] (fun r k => ∃ m : Int, 1 ≤ m ∧ m ≤ 12 ∧ k = .int .i64 m ∧ 0 ≤ R - cum Y m ∧ r = .int .i64 (R - cum Y m)) (fun _ k => (12 - intOf k).toNat)
  case atStart => exact ⟨1, by omega, by omega, rfl, by rw [cum_one]; omega, by rw [cum_one, Int.sub_zero]⟩
  case round =>
    obtain ⟨m, hm1, hm2, rfl, hr0, rfl⟩ := hrel
    have cb := hcl m
    have lb := mlen_bd Y m
    have lq := lp_01 Y
    have cs := cum_succ Y m y1 y2 hm1 hm2
    have hL := hL m
    by_cases hc : mlen Y m ≤ R - cum Y m
    · have hm : m < 12 := by
        rcases Int.lt_or_le m 12 with h | h
        · exact h
        · exfalso
          have e : m = 12 := by omega
          subst e
          have := cum_13 Y
          have e13 : cum Y (12 + 1) = cum Y 13 := rfl
          omega
      have HS := Lib.hid cs
      have hcb : cum Y m ≤ 366 := by omega
      clear cs
      go_wp2_with (go_at_call 21; refine hL.mono ?_; rintro e w' ⟨rfl, rfl⟩)
      go_round
      case rel => exact ⟨m + 1, by omega, by omega, rfl, by rw [HS.out]; omega, by rw [HS.out]; go_num⟩
      case measure => simp [intOf]; omega
    · have hd := date_end HY.out HR.out y1 y2 hm1 hm2 hr0 (by omega)
      have HD := Lib.hid hd
      have hcb : cum Y m ≤ 366 := by omega
      clear hd cs
      go_wp2_with (go_at_call 21; refine hL.mono ?_; rintro e w' ⟨rfl, rfl⟩)
      refine bodyPost_ret (v := .tuple #[.agg #[.int .i64 Y, .int .i64 m, .int .i64 (R - cum Y m + 1)], .nilIface]) (by simp [results, Tryz.results18, go_sem]) rfl ⟨?_, ?_⟩
      · obtain ⟨d1, d2, d3⟩ := HD.out
        rw [← d1, ← d2, ← d3]
      · exact below_alloc _ _
end Go.Proofs.YtkhjmbemjndcoaaGreatDoor
