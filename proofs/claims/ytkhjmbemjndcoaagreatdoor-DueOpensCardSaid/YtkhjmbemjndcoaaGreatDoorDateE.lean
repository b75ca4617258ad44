/-
  A date's Number, Last, the reference's Number. Condition: the months' lengths are laid.
-/
import Derived.Test.YtkhjmbemjndcoaaGreatDoorDateD
namespace Go.Proofs.YtkhjmbemjndcoaaGreatDoor
open Go.RowKit

theorem dby_lim (y : Int) (h1 : 1 ≤ y) (h2 : y ≤ 9999) : 0 ≤ dby y ∧ dby y ≤ 3700000 := by
  have := dby_lo y h1
  have := dby_hi y h1
  omega
theorem cum_lim (y m : Int) : 0 ≤ cum y m ∧ cum y m ≤ 366 := by
  have := cum_bd y m
  have := lp_01 y
  omega

set_option maxHeartbeats 1000000 in
theorem CNum_yes (y m d : Int) (h : rightB y m d = true) (w : World) (hw : Lens w) : Calls Tryz.prog 22 #[.agg #[.int .i64 y, .int .i64 m, .int .i64 d]] w fun e w' => e = .returned (.tuple #[.int .i32 (num y m d), .nilIface]) ∧ Below w.heap.size w w' := by
  obtain ⟨y1, y2, m1, m2, d1, d2⟩ := right_in h
  have hn := num_in h
  obtain ⟨-, -, -, -, n1, n2⟩ := hn
  have hR := CRight_any y m d (w.alloc (.cells #[.int .i64 y, .int .i64 m, .int .i64 d] 48)) (hw.below (below_alloc _ _))
  rw [h] at hR
  have hkw := Blk.new w 48 #[.int .i64 y, .int .i64 m, .int .i64 d]
  have hbw := below_alloc w (.cells #[.int .i64 y, .int .i64 m, .int .i64 d] 48)
  have HK := Lib.hid hkw
  have HB := Lib.hid hbw
  have HW := Lib.hid hw
  have ld := mlen_bd y m
  clear hkw hbw hw h
  go_enter Tryz.func22, Tryz.ntmps22
  go_wp2_with fail
  refine hR.mono ?_
  rintro e w1 ⟨rfl, hb1⟩
  have hk1 := HK.out.below hb1 HK.out.lt
  have HB1 := Lib.hid (HB.out.trans (hb1.mono HB.out.size))
  have hl1 := HW.out.below HB1.out
  have hL := fun k => Length_any y k w1 hl1
  have c0 := hk1.cell 0
  have c1 := hk1.cell 1
  have c2 := hk1.cell 2
  simp at c0 c1 c2
  clear hk1 hb1 hl1 hR
  go_wp2_with fail
  have hD0 := dby_lim y y1 y2
  have hcl := cum_lim y
  obtain ⟨D, hD⟩ : ∃ D, dby y = D := ⟨_, rfl⟩
  rw [hD] at hD0
  have hDe : 365 * (y - 1) + (y - 1) / 4 - (y - 1) / 100 + (y - 1) / 400 = D := hD
  rw [hDe]
  have hN : num y m d = D + cum y m + d - 1 := by unfold num; rw [hD]
  have HN := Lib.hid hN
  rw [hN] at n1 n2
  clear hD hDe hN
  go_loop [5, 6] (fun r k => ∃ j : Int, 1 ≤ j ∧ j ≤ m ∧ k = .int .i64 j ∧ r = .int .i64 (D + cum y j)) (fun _ k => (12 - intOf k).toNat)
  case atStart => exact ⟨1, by omega, by omega, rfl, by rw [cum_one, Int.add_zero]⟩
  case round =>
    obtain ⟨j, j1, j2, rfl, rfl⟩ := hrel
    have cb := hcl j
    have cs := cum_succ y j y1 y2 j1 (by omega)
    have lb := mlen_bd y j
    have hL := hL j
    by_cases hc : j < m
    · have HS := Lib.hid cs
      clear cs
      go_wp2_with (go_at_call 21; refine hL.mono ?_; rintro e w' ⟨rfl, rfl⟩)
      go_round
      case rel => exact ⟨j + 1, by omega, by omega, rfl, by rw [HS.out]; go_num⟩
      case measure => simp [intOf]; omega
    · have hj : j = m := by omega
      subst hj
      clear cs
      have i1 : IntKind.i32.wrap (D + cum y j + d - 1) = D + cum y j + d - 1 := by rw [IntKind.wrap_i32]; omega
      go_wp2_with fail
      go_ret2
      exact ⟨by rw [HN.out]; rfl, HB1.out⟩

set_option maxHeartbeats 1000000 in
theorem RNum_any (y m d : Int) (h : rightB y m d = true) (w : World) : Calls Tryz.prog 27 #[.agg #[.int .i64 y, .int .i64 m, .int .i64 d]] w fun e w' => e = .returned (.int .i64 (num y m d)) ∧ Below w.heap.size w w' := by
  obtain ⟨y1, y2, m1, m2, d1, d2⟩ := right_in h
  go_enter Tryz.func27, Tryz.ntmps27
  go_wp2_with fail
  have hbw := below_alloc w (.cells #[.int .i64 y, .int .i64 m, .int .i64 d] 57)
  have hkw := Blk.new w 57 #[.int .i64 y, .int .i64 m, .int .i64 d]
  generalize w.alloc (.cells #[.int .i64 y, .int .i64 m, .int .i64 d] 57) = W0 at hbw hkw ⊢
  have c0 := hkw.cell 0
  simp at c0
  have HB := Lib.hid hbw
  have HK := Lib.hid hkw
  have hl := fun Y W => RefLeap_any Y W
  have hcl := cum_lim y
  clear hbw hkw h
  go_loop [3, 4] (fun r k => ∃ Y : Int, 1 ≤ Y ∧ Y ≤ y ∧ k = .int .i64 Y ∧ r = .int .i64 (dby Y)) (fun _ k => (9999 - intOf k).toNat)
  case atStart =>
    refine ⟨y - (y - 1) % 400, by omega, by omega, rfl, congrArg (Value.int .i64) ?_⟩
    rw [show y - (y - 1) % 400 = 1 + 400 * ((y - 1) / 400) by omega, dby_age]
  case round =>
    obtain ⟨Y, j1, j2, rfl, rfl⟩ := hrel
    have dl := dby_lim Y j1 (by omega)
    have hl := hl Y
    by_cases hc : Y < y
    · have ds := dby_succ Y j1 (by omega)
      have hls := leap_size Y
      cases hb : leapB Y
      all_goals
        rw [hb] at hl
        first
          | (have HS := Lib.hid (show dby (Y + 1) = dby Y + 365 + 1 by have := hls.1 hb; omega))
          | (have HS := Lib.hid (show dby (Y + 1) = dby Y + 365 by have := hls.2 hb; omega))
        clear hls ds hb
        go_wp2_with (go_at_call 41; refine (hl _).mono ?_; rintro e w' ⟨rfl, rfl⟩)
        go_round
        case rel => exact ⟨Y + 1, by omega, by omega, by go_num, by rw [HS.out] <;> go_num⟩
        case measure => simp [intOf]; omega
    · have hY : Y = y := by omega
      subst hY
      obtain ⟨D, hD⟩ : ∃ D, dby Y = D := ⟨_, rfl⟩
      rw [hD] at dl ⊢
      have HN := Lib.hid (show num Y m d = D + cum Y m + d - 1 by unfold num; rw [hD])
      have ld := mlen_bd Y m
      clear hD hl
      go_wp2_with fail
      go_loopw [3, 5] (fun r k wr => ∃ j : Int, 1 ≤ j ∧ j ≤ m ∧ k = .int .i64 j ∧ r = .int .i64 (D + cum Y j) ∧ Below w.heap.size w wr ∧ Blk wr w.heap.size 57 #[.int .i64 Y, .int .i64 m, .int .i64 d]) (fun _ k _ => (12 - intOf k).toNat)
      case atStart => exact ⟨1, by omega, by omega, rfl, by rw [cum_one, Int.add_zero], HB.out, HK.out⟩
      case round =>
        obtain ⟨j, j1, j2, rfl, rfl, hbr, hkr⟩ := hrel
        have cb := hcl j
        have cs := cum_succ Y j y1 y2 j1 (by omega)
        have lb := mlen_bd Y j
        have c0 := hkr.cell 0
        have c1 := hkr.cell 1
        have c2 := hkr.cell 2
        simp at c0 c1 c2
        have HBR := Lib.hid hbr
        have HKR := Lib.hid hkr
        clear hbr hkr
        by_cases hc : j < m
        · have HS := Lib.hid cs
          clear cs
          go_wp2_with fail
          refine (RLength_any Y j _).mono ?_
          rintro e w5 ⟨rfl, hb5⟩
          have HB5 := Lib.hid (HBR.out.trans (hb5.mono HBR.out.size))
          have HK5 := Lib.hid (HKR.out.below hb5 HKR.out.lt)
          clear hb5
          go_wp2_with fail
          go_roundw
          case rel => exact ⟨j + 1, by omega, by omega, by go_num, by rw [HS.out]; go_num, HB5.out, HK5.out⟩
          case measure => simp [intOf]; omega
        · have hj : j = m := by omega
          subst hj
          clear cs
          go_wp2_with fail
          go_ret
          exact ⟨by rw [HN.out]; rfl, HBR.out⟩
end Go.Proofs.YtkhjmbemjndcoaaGreatDoor
