/-
The references' Civil and Number, a date's Number. Condition: the months' lengths are laid.
A date's Number, Last, the reference's Number. Condition: the months' lengths are laid.
A date's Last and Months, what is no date and no day; the reference's Next and Months. Condition: the months' lengths are laid.
A date's Months; the reference's. Condition: the months' lengths are laid.
A date's Months where it is none or beyond; the reference's Months; the document's example. Condition: the months' lengths are laid.
-/
import Derived.Test.YtjcnglkjjhnpbaaGreatDoorDateC
import Derived.StillTailTactics
import Derived.Deep.RegionHeld3
namespace Go.Proofs.YtjcnglkjjhnpbaaGreatDoor
open Go.RowKit

theorem dby_age (a : Int) : dby (1 + 400 * a) = 146097 * a := by unfold dby; omega
theorem leap_size (Y : Int) : (leapB Y = true → lp Y = 1) ∧ (leapB Y = false → lp Y = 0) := by
  unfold lp
  constructor <;> intro h <;> rw [h] <;> rfl
theorem year_room {n Y : Int} (h1 : n ≤ 3652058) (y1 : 1 ≤ Y) (y2 : Y ≤ 9999) (h : dby Y + 365 + lp Y ≤ n) : Y < 9999 := by
  rcases Int.lt_or_le Y 9999 with h9 | h9
  · exact h9
  · exfalso
    have e : Y = 9999 := by omega
    subst e
    have hs := dby_succ 9999 (by omega) (by omega)
    have he : dby (9999 + 1) = 3652059 := dby_end
    omega

/-- A box of three cells, laid anew. -/
theorem set3 {w : World} {g : Nat} {T : TypeId} {a b c : Value} (h : Blk w g T #[a, b, c]) (x y z : Value) :
    (w.setCell ⟨g, 0, none⟩ x).cell? ⟨g, 0, none⟩ = some x ∧ ((w.setCell ⟨g, 0, none⟩ x).setCell ⟨g, 1, none⟩ y).cell? ⟨g, 1, none⟩ = some y ∧
      (((w.setCell ⟨g, 0, none⟩ x).setCell ⟨g, 1, none⟩ y).setCell ⟨g, 2, none⟩ z).cell? ⟨g, 2, none⟩ = some z :=
  ⟨(h.set_ 0 x).cell 0, ((h.set_ 0 x).set_ 1 y).cell 1, (((h.set_ 0 x).set_ 1 y).set_ 2 z).cell 2⟩
theorem below3 {B : Nat} {a w : World} {g : Nat} (h : Below B a w) (hg : B ≤ g) (x y z : Value) : Below B a (((w.setCell ⟨g, 0, none⟩ x).setCell ⟨g, 1, none⟩ y).setCell ⟨g, 2, none⟩ z) :=
  ((h.setCell hg _).setCell hg _).setCell hg _

set_option maxHeartbeats 2000000 in
theorem RCivil_any (n : Int) (w : World) (h0 : 0 ≤ n) (h1 : n ≤ 3652058) : Calls Tryz.prog 66 #[.int .i64 n] w fun e w' => e = .returned (.agg #[.int .i64 (cY n), .int .i64 (cM n), .int .i64 (cD n)]) ∧ Below w.heap.size w w' := by
  have hl := fun Y W => RefLeap_any Y W
  go_enter Tryz.func66, Tryz.ntmps66
  go_wp2_with fail
  have hbw := below_alloc w (.cells #[.int .i64 0, .int .i64 0, .int .i64 0] 125)
  have hkw := Blk.new w 125 #[.int .i64 0, .int .i64 0, .int .i64 0]
  generalize w.alloc (.cells #[.int .i64 0, .int .i64 0, .int .i64 0] 125) = W0 at hbw hkw ⊢
  have HB := Lib.hid hbw
  have HK := Lib.hid hkw
  clear hbw hkw
  go_loop [0, 3] (fun r y => ∃ Y : Int, 1 ≤ Y ∧ Y ≤ 9999 ∧ y = .int .i64 Y ∧ 0 ≤ n - dby Y ∧ r = .int .i64 (n - dby Y)) (fun _ y => (9999 - intOf y).toNat)
  case atStart =>
    refine ⟨1 + 400 * (n / 146097), by omega, by omega, rfl, ?_, congrArg (Value.int .i64) ?_⟩
    · rw [dby_age]; omega
    · rw [dby_age]; omega
  case round =>
    obtain ⟨Y, y1, y2, rfl, r0, rfl⟩ := hrel
    have hls := leap_size Y
    have ds := dby_succ Y y1 y2
    have dl := dby_lo Y y1
    have dh := dby_hi Y y1
    have hl := hl Y
    by_cases hc : dby Y + 365 + lp Y ≤ n
    · have y3 := year_room h1 y1 y2 hc
      cases hb : leapB Y
      all_goals
        rw [hb] at hl
        first
          | (have hz : lp Y = 1 := hls.1 hb
             have HS := Lib.hid (show dby (Y + 1) = dby Y + 366 by omega))
          | (have hz : lp Y = 0 := hls.2 hb
             have HS := Lib.hid (show dby (Y + 1) = dby Y + 365 by omega))
        have hcc : dby Y + 365 ≤ n := by omega
        have hcd : lp Y = 0 ∨ dby Y + 366 ≤ n := by omega
        have HZ := Lib.hid hz
        have HCD := Lib.hid hcd
        clear hls ds hz hb hcd
        first
          | (have hcd : dby Y + 366 ≤ n := by
               rcases HCD.out with h | h
               · exact absurd h (by rw [HZ.out]; decide)
               · exact h)
          | skip
        clear HCD HZ hc
        go_wp2_with (go_at_call 108; refine (hl _).mono ?_; rintro e w' ⟨rfl, rfl⟩)
        go_round
        case rel => exact ⟨Y + 1, by omega, by omega, by go_num, by rw [HS.out]; omega, by rw [HS.out]; go_num⟩
        case measure => simp [intOf]; omega
    · have hY : yr n = Y := (yr_unique n Y h0 h1 y1 y2 (by omega) (by omega)).symm
      have HY := Lib.hid hY
      obtain ⟨R, hR⟩ : ∃ R, n - dby Y = R := ⟨_, rfl⟩
      have hRl : R < 365 + lp Y := by omega
      have hRd : R ≤ 366 := by have := lp_01 Y; omega
      have lq := lp_01 Y
      have hcl := cum_bd Y
      cases hb : leapB Y
      all_goals
        have hRs : R < 365 ∨ lp Y = 1 ∧ R < 366 := by omega
        first
          | (have hRt : R < 365 := by
               have hz : lp Y = 0 := hls.2 hb
               omega)
          | (have hRt : R < 366 := by omega)
        rw [hb] at hl
        rw [hR] at r0 ⊢
        have HR := Lib.hid hR
        have HRl := Lib.hid hRl
        clear hls ds hb hc hY hR dl dh hRl hRs
        go_wp2_with (go_at_call 108; refine (hl _).mono ?_; rintro e w' ⟨rfl, rfl⟩)
        go_loopw [0, 5] (fun r k wr => ∃ m : Int, 1 ≤ m ∧ m ≤ 12 ∧ k = .int .i64 m ∧ 0 ≤ R - cum Y m ∧ r = .int .i64 (R - cum Y m) ∧ Below w.heap.size w wr ∧ Blk wr w.heap.size 125 #[.int .i64 0, .int .i64 0, .int .i64 0]) (fun _ k _ => (12 - intOf k).toNat)
        case atStart => exact ⟨1, by omega, by omega, rfl, by rw [cum_one]; omega, by rw [cum_one, Int.sub_zero], HB.out, HK.out⟩
        case round =>
          obtain ⟨m, hm1, hm2, rfl, hr0, rfl, hbr, hkr⟩ := hrel
          have cb := hcl m
          have lb := mlen_bd Y m
          have cs := cum_succ Y m y1 y2 hm1 hm2
          have HBR := Lib.hid hbr
          have HKR := Lib.hid hkr
          have hcb : cum Y m ≤ 366 := by omega
          clear hbr hkr
          by_cases hc : mlen Y m ≤ R - cum Y m
          · have hm : m < 12 := by
              rcases Int.lt_or_le m 12 with h | h
              · exact h
              · exfalso
                have e : m = 12 := by omega
                subst e
                have := cum_13 Y
                have e13 : cum Y (12 + 1) = cum Y 13 := rfl
                have := HRl.out
                omega
            have HS := Lib.hid cs
            clear cs
            go_wp2_with fail
            refine (RLength_any Y m _).mono ?_
            rintro e w5 ⟨rfl, hb5⟩
            have HB5 := Lib.hid (HBR.out.trans (hb5.mono HBR.out.size))
            have HK5 := Lib.hid (HKR.out.below hb5 HKR.out.lt)
            clear hb5
            go_wp2_with fail
            refine (RLength_any Y m _).mono ?_
            rintro e w6 ⟨rfl, hb6⟩
            have HB6 := Lib.hid (HB5.out.trans (hb6.mono HB5.out.size))
            have HK6 := Lib.hid (HK5.out.below hb6 HK5.out.lt)
            clear hb6
            go_wp2_with fail
            go_roundw
            case rel => exact ⟨m + 1, by omega, by omega, rfl, by rw [HS.out]; omega, by rw [HS.out]; go_num, HB6.out, HK6.out⟩
            case measure => simp [intOf]; omega
          · have hd := date_end HY.out HR.out y1 y2 hm1 hm2 hr0 (by omega)
            have HD := Lib.hid hd
            clear hd cs
            go_wp2_with fail
            refine (RLength_any Y m _).mono ?_
            rintro e w5 ⟨rfl, hb5⟩
            have HB5 := Lib.hid (HBR.out.trans (hb5.mono HBR.out.size))
            have hk5 := HKR.out.below hb5 HKR.out.lt
            have c0 := hk5.cell 0
            have c1 := hk5.cell 1
            have c2 := hk5.cell 2
            have f0 := hk5.frozen 0
            have f1 := hk5.frozen 1
            have f2 := hk5.frozen 2
            obtain ⟨s0, s1, s2⟩ := set3 hk5 (.int .i64 Y) (.int .i64 m) (.int .i64 (R - cum Y m + 1))
            clear hb5 hk5
            go_wp2_with fail
            refine bodyPost_ret (v := .agg #[.int .i64 Y, .int .i64 m, .int .i64 (R - cum Y m + 1)]) (by simp [results, Tryz.results66, go_sem, s0, s1, s2, Result.andThen]) rfl ⟨?_, ?_⟩
            · obtain ⟨d1, d2, d3⟩ := HD.out
              rw [← d1, ← d2, ← d3]
            · exact below3 HB5.out (Nat.le_refl _) _ _ _
end Go.Proofs.YtjcnglkjjhnpbaaGreatDoor
namespace Go.Proofs.YtjcnglkjjhnpbaaGreatDoor
open Go.RowKit

theorem dby_lim (y : Int) (h1 : 1 ≤ y) (h2 : y ≤ 9999) : 0 ≤ dby y ∧ dby y ≤ 3700000 := by
  have := dby_lo y h1
  have := dby_hi y h1
  omega
theorem cum_lim (y m : Int) : 0 ≤ cum y m ∧ cum y m ≤ 366 := by
  have := cum_bd y m
  have := lp_01 y
  omega

set_option maxHeartbeats 1000000 in
theorem CNum_yes (y m d : Int) (h : rightB y m d = true) (w : World) (hw : Lens w) : Calls Tryz.prog 106 #[.agg #[.int .i64 y, .int .i64 m, .int .i64 d]] w fun e w' => e = .returned (.tuple #[.int .i32 (num y m d), .nilIface]) ∧ Below w.heap.size w w' := by
  obtain ⟨y1, y2, m1, m2, d1, d2⟩ := right_in h
  have hn := num_in h
  obtain ⟨-, -, -, -, n1, n2⟩ := hn
  have hR := CRight_any y m d (w.alloc (.cells #[.int .i64 y, .int .i64 m, .int .i64 d] 128)) (hw.below (below_alloc _ _))
  rw [h] at hR
  have hkw := Blk.new w 128 #[.int .i64 y, .int .i64 m, .int .i64 d]
  have hbw := below_alloc w (.cells #[.int .i64 y, .int .i64 m, .int .i64 d] 128)
  have HK := Lib.hid hkw
  have HB := Lib.hid hbw
  have HW := Lib.hid hw
  have ld := mlen_bd y m
  clear hkw hbw hw h
  go_enter Tryz.func106, Tryz.ntmps106
  go_wp2_with fail
  refine hR.mono ?_
  rintro e w1 ⟨rfl, hb1⟩
  have hk1 := HK.out.below hb1 HK.out.lt
  have HB1 := Lib.hid (HB.out.trans (hb1.mono HB.out.size))
  have hl1 := HW.out.below HB1.out
  have hL := fun k => Length_any y k w1 hl1
  have c0 := hk1.cell 0
  have c1 := hk1.cell 1
  have c2 := hk1.cell 2
  simp at c0 c1 c2
  clear hk1 hb1 hl1 hR
  go_wp2_with fail
  have hD0 := dby_lim y y1 y2
  have hcl := cum_lim y
  obtain ⟨D, hD⟩ : ∃ D, dby y = D := ⟨_, rfl⟩
  rw [hD] at hD0
  have hDe : 365 * (y - 1) + (y - 1) / 4 - (y - 1) / 100 + (y - 1) / 400 = D := hD
  rw [hDe]
  have hN : num y m d = D + cum y m + d - 1 := by unfold num; rw [hD]
  have HN := Lib.hid hN
  rw [hN] at n1 n2
  clear hD hDe hN
  go_loop [5, 6] (fun r k => ∃ j : Int, 1 ≤ j ∧ j ≤ m ∧ k = .int .i64 j ∧ r = .int .i64 (D + cum y j)) (fun _ k => (12 - intOf k).toNat)
  case atStart => exact ⟨1, by omega, by omega, rfl, by rw [cum_one, Int.add_zero]⟩
  case round =>
    obtain ⟨j, j1, j2, rfl, rfl⟩ := hrel
    have cb := hcl j
    have cs := cum_succ y j y1 y2 j1 (by omega)
    have lb := mlen_bd y j
    have hL := hL j
    by_cases hc : j < m
    · have HS := Lib.hid cs
      clear cs
      go_wp2_with (go_at_call 110; refine hL.mono ?_; rintro e w' ⟨rfl, rfl⟩)
      go_round
      case rel => exact ⟨j + 1, by omega, by omega, rfl, by rw [HS.out]; go_num⟩
      case measure => simp [intOf]; omega
    · have hj : j = m := by omega
      subst hj
      clear cs
      have i1 : IntKind.i32.wrap (D + cum y j + d - 1) = D + cum y j + d - 1 := by rw [IntKind.wrap_i32]; omega
      go_wp2_with fail
      go_ret2
      exact ⟨by rw [HN.out]; rfl, HB1.out⟩

set_option maxHeartbeats 1000000 in
theorem RNum_any (y m d : Int) (h : rightB y m d = true) (w : World) : Calls Tryz.prog 84 #[.agg #[.int .i64 y, .int .i64 m, .int .i64 d]] w fun e w' => e = .returned (.int .i64 (num y m d)) ∧ Below w.heap.size w w' := by
  obtain ⟨y1, y2, m1, m2, d1, d2⟩ := right_in h
  go_enter Tryz.func84, Tryz.ntmps84
  go_wp2_with fail
  have hbw := below_alloc w (.cells #[.int .i64 y, .int .i64 m, .int .i64 d] 125)
  have hkw := Blk.new w 125 #[.int .i64 y, .int .i64 m, .int .i64 d]
  generalize w.alloc (.cells #[.int .i64 y, .int .i64 m, .int .i64 d] 125) = W0 at hbw hkw ⊢
  have c0 := hkw.cell 0
  simp at c0
  have HB := Lib.hid hbw
  have HK := Lib.hid hkw
  have hl := fun Y W => RefLeap_any Y W
  have hcl := cum_lim y
  clear hbw hkw h
  go_loop [3, 4] (fun r k => ∃ Y : Int, 1 ≤ Y ∧ Y ≤ y ∧ k = .int .i64 Y ∧ r = .int .i64 (dby Y)) (fun _ k => (9999 - intOf k).toNat)
  case atStart =>
    refine ⟨y - (y - 1) % 400, by omega, by omega, rfl, congrArg (Value.int .i64) ?_⟩
    rw [show y - (y - 1) % 400 = 1 + 400 * ((y - 1) / 400) by omega, dby_age]
  case round =>
    obtain ⟨Y, j1, j2, rfl, rfl⟩ := hrel
    have dl := dby_lim Y j1 (by omega)
    have hl := hl Y
    by_cases hc : Y < y
    · have ds := dby_succ Y j1 (by omega)
      have hls := leap_size Y
      cases hb : leapB Y
      all_goals
        rw [hb] at hl
        first
          | (have HS := Lib.hid (show dby (Y + 1) = dby Y + 365 + 1 by have := hls.1 hb; omega))
          | (have HS := Lib.hid (show dby (Y + 1) = dby Y + 365 by have := hls.2 hb; omega))
        clear hls ds hb
        go_wp2_with (go_at_call 108; refine (hl _).mono ?_; rintro e w' ⟨rfl, rfl⟩)
        go_round
        case rel => exact ⟨Y + 1, by omega, by omega, by go_num, by rw [HS.out] <;> go_num⟩
        case measure => simp [intOf]; omega
    · have hY : Y = y := by omega
      subst hY
      obtain ⟨D, hD⟩ : ∃ D, dby Y = D := ⟨_, rfl⟩
      rw [hD] at dl ⊢
      have HN := Lib.hid (show num Y m d = D + cum Y m + d - 1 by unfold num; rw [hD])
      have ld := mlen_bd Y m
      clear hD hl
      go_wp2_with fail
      go_loopw [3, 5] (fun r k wr => ∃ j : Int, 1 ≤ j ∧ j ≤ m ∧ k = .int .i64 j ∧ r = .int .i64 (D + cum Y j) ∧ Below w.heap.size w wr ∧ Blk wr w.heap.size 125 #[.int .i64 Y, .int .i64 m, .int .i64 d]) (fun _ k _ => (12 - intOf k).toNat)
      case atStart => exact ⟨1, by omega, by omega, rfl, by rw [cum_one, Int.add_zero], HB.out, HK.out⟩
      case round =>
        obtain ⟨j, j1, j2, rfl, rfl, hbr, hkr⟩ := hrel
        have cb := hcl j
        have cs := cum_succ Y j y1 y2 j1 (by omega)
        have lb := mlen_bd Y j
        have c0 := hkr.cell 0
        have c1 := hkr.cell 1
        have c2 := hkr.cell 2
        simp at c0 c1 c2
        have HBR := Lib.hid hbr
        have HKR := Lib.hid hkr
        clear hbr hkr
        by_cases hc : j < m
        · have HS := Lib.hid cs
          clear cs
          go_wp2_with fail
          refine (RLength_any Y j _).mono ?_
          rintro e w5 ⟨rfl, hb5⟩
          have HB5 := Lib.hid (HBR.out.trans (hb5.mono HBR.out.size))
          have HK5 := Lib.hid (HKR.out.below hb5 HKR.out.lt)
          clear hb5
          go_wp2_with fail
          go_roundw
          case rel => exact ⟨j + 1, by omega, by omega, by go_num, by rw [HS.out]; go_num, HB5.out, HK5.out⟩
          case measure => simp [intOf]; omega
        · have hj : j = m := by omega
          subst hj
          clear cs
          go_wp2_with fail
          go_ret
          exact ⟨by rw [HN.out]; rfl, HBR.out⟩
end Go.Proofs.YtjcnglkjjhnpbaaGreatDoor
namespace Go.Proofs.YtjcnglkjjhnpbaaGreatDoor
open Go.RowKit

set_option maxHeartbeats 1000000 in
theorem CNum_no (y m d : Int) (h : rightB y m d = false) (w : World) (hw : Lens w) : Calls Tryz.prog 106 #[.agg #[.int .i64 y, .int .i64 m, .int .i64 d]] w fun e w' => e = .returned (.tuple #[.int .i32 0, .iface 45 (.int .i64 1)]) ∧ Below w.heap.size w w' := by
  have hR := CRight_any y m d (w.alloc (.cells #[.int .i64 y, .int .i64 m, .int .i64 d] 128)) (hw.below (below_alloc _ _))
  rw [h] at hR
  have HB := Lib.hid (below_alloc w (.cells #[.int .i64 y, .int .i64 m, .int .i64 d] 128))
  clear hw h
  go_enter Tryz.func106, Tryz.ntmps106
  go_wp2_with fail
  refine hR.mono ?_
  rintro e w1 ⟨rfl, hb1⟩
  have HB1 := Lib.hid (HB.out.trans (hb1.mono HB.out.size))
  clear hb1 hR
  go_wp2_with fail
  go_ret2
  exact ⟨rfl, HB1.out⟩

set_option maxHeartbeats 1000000 in
theorem DCivil_no (n : Int) (h : n < 0 ∨ 3652058 < n) (w : World) : Calls Tryz.prog 67 #[.int .i32 n] w fun e w' => e = .returned (.tuple #[.agg #[.int .i64 0, .int .i64 0, .int .i64 0], .iface 45 (.int .i64 1)]) ∧ Below w.heap.size w w' := by
  have hr : ∀ W, Calls Tryz.prog 69 #[.int .i32 n] W fun e w' => e = .returned (.bool false) ∧ W = w' := fun W => by have := DRight_any n W; rw [day_no h] at this; exact this
  clear h
  go_enter Tryz.func67, Tryz.ntmps67
  go_wp2_with (go_at_call 69; refine (hr _).mono ?_; rintro e w' ⟨rfl, rfl⟩)
  exact bodyPost_ret (v := .tuple #[.agg #[.int .i64 0, .int .i64 0, .int .i64 0], .iface 45 (.int .i64 1)]) (by simp [results, Tryz.results67, go_sem]) rfl ⟨rfl, below_alloc _ _⟩

/-- The last date of its month. -/
def lastB (y m d : Int) : Bool := rightB y m d && (d == mlen y m)
set_option maxHeartbeats 1000000 in
theorem CLast_any (y m d : Int) (w : World) (hw : Lens w) : Calls Tryz.prog 116 #[.agg #[.int .i64 y, .int .i64 m, .int .i64 d]] w fun e w' => e = .returned (.bool (lastB y m d)) ∧ Below w.heap.size w w' := by
  obtain ⟨L, hL⟩ : ∃ L, mlen y m = L := ⟨_, rfl⟩
  unfold lastB
  rw [hL]
  go_enter Tryz.func116, Tryz.ntmps116
  go_wp2_with fail
  obtain ⟨W0, hw0⟩ : ∃ W, w.alloc (.cells #[.int .i64 y, .int .i64 m, .int .i64 d] 128) = W := ⟨_, rfl⟩
  have hb0 : Below w.heap.size w W0 := by rw [← hw0]; exact below_alloc w _
  obtain ⟨b0, b1, b2⟩ := box3 hw0
  have hk0 : Blk W0 w.heap.size 128 #[.int .i64 y, .int .i64 m, .int .i64 d] := by rw [← hw0]; exact Blk.new w _ _
  have c0 := hk0.cell 0
  have c1 := hk0.cell 1
  have c2 := hk0.cell 2
  simp at c0 c1 c2
  have HC : ∀ dd os, _ := fun (dd : Nat) (os : Array Obj) => Calls.regrown_of (below_sameC (hL ▸ Length_any y m (Go.Sort.grow (redrawn W0 dd) os) ((hw.below hb0).below (below_regrown W0 dd os))))
  have HR : ∀ dd os, _ := fun (dd : Nat) (os : Array Obj) => Calls.regrown_of (CRight_any y m d (Go.Sort.grow (redrawn W0 dd) os) ((hw.below hb0).below (below_regrown W0 dd os)))
  rw [hw0]
  clear hw0 hw hk0
  cases hd : rightB y m d
  all_goals
    rw [hd] at HR
    refine wp_region_quiet_below (by kernel_rfl) (by kernel_rfl) ?_
    repeat (go_big_quiet_step (first | (go_at_call 146; exact HR _ _) | (go_at_call 110; exact HC _ _)))
    refine wpQuiet_nil ?_
    intro w9 hw'
    have hbx : Below W0.heap.size W0 w9 := by
      obtain ⟨p, rfl⟩ := hw'
      exact below_regrown _ _ _
    clear hw' HC HR b0 b1 b2
    go_wp2_with fail
    go_ret
    exact ⟨by rw [hd]; rfl, hb0.trans (hbx.mono hb0.size)⟩

set_option maxHeartbeats 1000000 in
theorem Next_fwd (y m : Int) (hy : -9223372036854775808 ≤ y ∧ y ≤ 9223372036854775806) (h1 : 1 ≤ m) (h2 : m ≤ 12) (w : World) : Calls Tryz.prog 82 #[.int .i64 y, .int .i64 m, .bool false] w fun e w' => e = .returned (.tuple #[.int .i64 (mY (12 * (y - 1) + m)), .int .i64 (mM (12 * (y - 1) + m))]) ∧ w = w' := by
  by_cases h : m = 12
  · subst h
    rw [show mY (12 * (y - 1) + 12) = y + 1 by unfold mY; omega, show mM (12 * (y - 1) + 12) = 1 by unfold mM; omega]
    go_enter Tryz.func82, Tryz.ntmps82
    go_wp2_with fail
    go_ret2
    exact ⟨rfl, rfl⟩
  · rw [show mY (12 * (y - 1) + m) = y by unfold mY; omega, show mM (12 * (y - 1) + m) = m + 1 by unfold mM; omega]
    go_enter Tryz.func82, Tryz.ntmps82
    go_wp2_with fail
    go_ret2
    exact ⟨rfl, rfl⟩
set_option maxHeartbeats 1000000 in
theorem Next_bwd (y m : Int) (hy : -9223372036854775807 ≤ y ∧ y ≤ 9223372036854775806) (h1 : 1 ≤ m) (h2 : m ≤ 12) (w : World) : Calls Tryz.prog 82 #[.int .i64 y, .int .i64 m, .bool true] w fun e w' => e = .returned (.tuple #[.int .i64 (mY (12 * (y - 1) + m - 2)), .int .i64 (mM (12 * (y - 1) + m - 2))]) ∧ w = w' := by
  by_cases h : m = 1
  · subst h
    rw [show mY (12 * (y - 1) + 1 - 2) = y - 1 by unfold mY; omega, show mM (12 * (y - 1) + 1 - 2) = 12 by unfold mM; omega]
    go_enter Tryz.func82, Tryz.ntmps82
    go_wp2_with fail
    go_ret2
    exact ⟨rfl, rfl⟩
  · rw [show mY (12 * (y - 1) + m - 2) = y by unfold mY; omega, show mM (12 * (y - 1) + m - 2) = m - 1 by unfold mM; omega]
    go_enter Tryz.func82, Tryz.ntmps82
    go_wp2_with fail
    go_ret2
    exact ⟨rfl, rfl⟩

end Go.Proofs.YtjcnglkjjhnpbaaGreatDoor
namespace Go.Proofs.YtjcnglkjjhnpbaaGreatDoor
open Go.RowKit

theorem two_boxes {w W1 : World} {T U : TypeId} {a b c x y z : Value} (h : (w.alloc (.cells #[a, b, c] T)).alloc (.cells #[x, y, z] U) = W1) :
    Below w.heap.size w W1 ∧ Blk W1 w.heap.size T #[a, b, c] ∧ Blk W1 (w.heap.size + 1) U #[x, y, z] := by
  subst h
  refine ⟨(below_alloc w _).trans ((below_alloc _ _).mono (by simp)), (Blk.new w _ _).alloc _, ?_⟩
  have := Blk.new (w.alloc (.cells #[a, b, c] T)) U #[x, y, z]
  rw [World.size_alloc] at this
  exact this

theorem same_sym {P : Program} {f : FuncId} {args : Array Value} {W : World} {v : Value} (h : Calls P f args W fun e w' => e = .returned v ∧ W = w') : Calls P f args W fun e w'' => e = .returned v ∧ w'' = W :=
  h.mono fun _ _ ⟨a, b⟩ => ⟨a, b.symm⟩

set_option maxRecDepth 20000 in
set_option maxHeartbeats 2000000 in
theorem Months_ok (y m d n : Int) (h : rightB y m d = true) (t0 : 0 ≤ mon y m n) (t1 : mon y m n < 119988) (w : World) (hw : Lens w) :
    Calls Tryz.prog 115 #[.agg #[.int .i64 y, .int .i64 m, .int .i64 d], .int .i64 n] w fun e w' => e = .returned (.tuple #[.agg #[.int .i64 (mY (mon y m n)), .int .i64 (mM (mon y m n)), .int .i64 (mD (mon y m n) d)], .nilIface]) ∧ Below w.heap.size w w' := by
  obtain ⟨y1, y2, m1, m2, d1, d2⟩ := right_in h
  have ld := mlen_bd y m
  obtain ⟨q1, q2, q3, q4⟩ := mon_in t0 t1
  have hY : (12 * (y - 1) + m - 1 + n) / 12 + 1 = mY (mon y m n) := by unfold mY mon; omega
  have hM : (12 * (y - 1) + m - 1 + n) % 12 + 1 = mM (mon y m n) := by unfold mM mon; omega
  have hD : min d (mlen (mY (mon y m n)) (mM (mon y m n))) = mD (mon y m n) d := rfl
  have s0 : 0 ≤ 12 * (y - 1) + m - 1 + n := by unfold mon at t0; omega
  have s1 : 12 * (y - 1) + m - 1 + n < 119988 := by unfold mon at t1; omega
  generalize mY (mon y m n) = y' at hY hM hD q1 q2 ⊢
  generalize mM (mon y m n) = m' at hM hD q3 q4 ⊢
  generalize mD (mon y m n) d = d' at hD ⊢
  have lm := mlen_bd y' m'
  have HD := Lib.hid hD
  have HY := Lib.hid hY
  have HM := Lib.hid hM
  clear t0 t1 hD hY hM
  have HW := Lib.hid hw
  clear hw
  go_enter Tryz.func115, Tryz.ntmps115
  go_wp2_with fail
  obtain ⟨W1, hW1⟩ : ∃ W, (w.alloc (.cells #[.int .i64 y, .int .i64 m, .int .i64 d] 128)).alloc (.cells #[.int .i64 0, .int .i64 0, .int .i64 0] 128) = W := ⟨_, rfl⟩
  rw [hW1]
  obtain ⟨hb1, hka, hkb⟩ := two_boxes hW1
  clear hW1
  have hR := CRight_any y m d W1 (HW.out.below hb1)
  rw [h] at hR
  refine hR.mono ?_
  rintro e w2 ⟨rfl, hb2⟩
  have hka2 := hka.below hb2 hka.lt
  have hkb2 := hkb.below hb2 hkb.lt
  have HB2 := Lib.hid (hb1.trans (hb2.mono hb1.size))
  have hl2 := HW.out.below HB2.out
  have c0 := hka2.cell 0
  have c1 := hka2.cell 1
  have c2 := hka2.cell 2
  simp at c0 c1 c2
  clear hR hb2 hb1 hka hkb h
  have i1 : ¬ n < -(12 * (y - 1) + m - 1) := by omega
  have i2 : ¬ 119988 - (12 * (y - 1) + m - 1) ≤ n := by omega
  have HA := Lib.hid hka2
  have HC := Lib.hid hkb2
  clear hka2 hkb2
  go_wp2_with fail
  rw [HY.out, HM.out]
  obtain ⟨w3, hw3⟩ : ∃ W, w2.drew = W := ⟨_, rfl⟩
  have HL : Hid _ := Lib.hid (same_sym (Length_any y' m' w2.drew hl2))
  rw [hw3] at HL
  have e2 : w3.cell? ⟨w.heap.size, 2, none⟩ = some (.int .i64 d) := by rw [← hw3]; exact c2
  have kb : Blk w3 (w.heap.size + 1) 128 #[.int .i64 0, .int .i64 0, .int .i64 0] := by rw [← hw3]; exact HC.out
  have hb3 : Below w.heap.size w w3 := by rw [← hw3]; exact HB2.out.drew
  have HKB := Lib.hid kb
  have HB3 := Lib.hid hb3
  clear c0 c1 c2 kb hb3 hl2 i1 i2 HA HC HB2
  have kb := HKB.out
  have g0 := kb.cell 0
  have g1 := kb.cell 1
  have g2 := kb.cell 2
  have f0 := kb.frozen 0
  have f1 := kb.frozen 1
  have f2 := kb.frozen 2
  simp at g0 g1 g2
  by_cases hmn : d ≤ mlen y' m'
  · have hd' : d = d' := by rw [← HD.out]; exact (Int.min_eq_left hmn).symm
    obtain ⟨s0, s1, s2⟩ := set3 kb (.int .i64 y') (.int .i64 m') (.int .i64 d)
    have HD' := Lib.hid hd'
    clear hd' kb
    refine wp_region_still_tail 9 (by kernel_rfl) (by kernel_rfl) ?_
    simp only [List.take_succ_cons, List.take_zero, List.drop_succ_cons, List.drop_zero]
    change wpStill _ _ w2.drew _ _ _
    rw [hw3]
    change wpStill _ _ w3 (fun a' => wpList _ _ _ _ a' w2.drew) _ _
    rw [hw3]
    clear hw3
    iterate 6 still_step
    still_call HL.out
    still_step
    still_step
    refine wpStill_nil ?_
    go_wp2_with fail
    exact bodyPost_ret (v := .tuple #[.agg #[.int .i64 y', .int .i64 m', .int .i64 d], .nilIface]) (by simp [results, Tryz.results115, go_sem, s0, s1, s2, Result.andThen]) rfl ⟨by rw [HD'.out], below3 HB3.out (by omega) _ _ _⟩
  · have hd' : mlen y' m' = d' := by rw [← HD.out]; exact (Int.min_eq_right (by omega)).symm
    rw [hd'] at HL hmn lm
    obtain ⟨s0, s1, s2⟩ := set3 kb (.int .i64 y') (.int .i64 m') (.int .i64 d')
    clear hd' kb HD
    refine wp_region_still_tail 9 (by kernel_rfl) (by kernel_rfl) ?_
    simp only [List.take_succ_cons, List.take_zero, List.drop_succ_cons, List.drop_zero]
    change wpStill _ _ w2.drew _ _ _
    rw [hw3]
    change wpStill _ _ w3 (fun a' => wpList _ _ _ _ a' w2.drew) _ _
    rw [hw3]
    clear hw3
    iterate 6 still_step
    still_call HL.out
    still_step
    still_step
    refine wpStill_nil ?_
    go_wp2_with fail
    exact bodyPost_ret (v := .tuple #[.agg #[.int .i64 y', .int .i64 m', .int .i64 d'], .nilIface]) (by simp [results, Tryz.results115, go_sem, s0, s1, s2, Result.andThen]) rfl ⟨rfl, below3 HB3.out (by omega) _ _ _⟩
end Go.Proofs.YtjcnglkjjhnpbaaGreatDoor
namespace Go.Proofs.YtjcnglkjjhnpbaaGreatDoor
open Go.RowKit

set_option maxRecDepth 20000 in
set_option maxHeartbeats 2000000 in
theorem Months_arg (y m d n : Int) (h : rightB y m d = false) (w : World) (hw : Lens w) :
    Calls Tryz.prog 115 #[.agg #[.int .i64 y, .int .i64 m, .int .i64 d], .int .i64 n] w fun e w' => e = .returned (.tuple #[.agg #[.int .i64 0, .int .i64 0, .int .i64 0], .iface 45 (.int .i64 1)]) ∧ Below w.heap.size w w' := by
  go_enter Tryz.func115, Tryz.ntmps115
  go_wp2_with fail
  obtain ⟨W1, hW1⟩ : ∃ W, (w.alloc (.cells #[.int .i64 y, .int .i64 m, .int .i64 d] 128)).alloc (.cells #[.int .i64 0, .int .i64 0, .int .i64 0] 128) = W := ⟨_, rfl⟩
  rw [hW1]
  obtain ⟨hb1, hka, hkb⟩ := two_boxes hW1
  clear hW1
  have hR := CRight_any y m d W1 (hw.below hb1)
  rw [h] at hR
  refine hR.mono ?_
  rintro e w2 ⟨rfl, hb2⟩
  have hkb2 := hkb.below hb2 hkb.lt
  have HB2 := Lib.hid (hb1.trans (hb2.mono hb1.size))
  have g0 := hkb2.cell 0
  have g1 := hkb2.cell 1
  have g2 := hkb2.cell 2
  have f0 := hkb2.frozen 0
  have f1 := hkb2.frozen 1
  have f2 := hkb2.frozen 2
  simp at g0 g1 g2
  obtain ⟨s0, s1, s2⟩ := set3 hkb2 (.int .i64 0) (.int .i64 0) (.int .i64 0)
  clear hR hb2 hb1 hka hkb h hw hkb2
  go_wp2_with fail
  exact bodyPost_ret (v := .tuple #[.agg #[.int .i64 0, .int .i64 0, .int .i64 0], .iface 45 (.int .i64 1)]) (by simp [results, Tryz.results115, go_sem, s0, s1, s2, Result.andThen]) rfl ⟨rfl, below3 HB2.out (by omega) _ _ _⟩

set_option maxRecDepth 20000 in
set_option maxHeartbeats 2000000 in
theorem Months_over (y m d n : Int) (h : rightB y m d = true) (t : mon y m n < 0 ∨ 119988 ≤ mon y m n) (w : World) (hw : Lens w) :
    Calls Tryz.prog 115 #[.agg #[.int .i64 y, .int .i64 m, .int .i64 d], .int .i64 n] w fun e w' => e = .returned (.tuple #[.agg #[.int .i64 0, .int .i64 0, .int .i64 0], .iface 45 (.int .i64 12)]) ∧ Below w.heap.size w w' := by
  obtain ⟨y1, y2, m1, m2, d1, d2⟩ := right_in h
  unfold mon at t
  go_enter Tryz.func115, Tryz.ntmps115
  go_wp2_with fail
  obtain ⟨W1, hW1⟩ : ∃ W, (w.alloc (.cells #[.int .i64 y, .int .i64 m, .int .i64 d] 128)).alloc (.cells #[.int .i64 0, .int .i64 0, .int .i64 0] 128) = W := ⟨_, rfl⟩
  rw [hW1]
  obtain ⟨hb1, hka, hkb⟩ := two_boxes hW1
  clear hW1
  have hR := CRight_any y m d W1 (hw.below hb1)
  rw [h] at hR
  refine hR.mono ?_
  rintro e w2 ⟨rfl, hb2⟩
  have hka2 := hka.below hb2 hka.lt
  have hkb2 := hkb.below hb2 hkb.lt
  have HB2 := Lib.hid (hb1.trans (hb2.mono hb1.size))
  have c0 := hka2.cell 0
  have c1 := hka2.cell 1
  have g0 := hkb2.cell 0
  have g1 := hkb2.cell 1
  have g2 := hkb2.cell 2
  have f0 := hkb2.frozen 0
  have f1 := hkb2.frozen 1
  have f2 := hkb2.frozen 2
  simp at g0 g1 g2 c0 c1
  obtain ⟨s0, s1, s2⟩ := set3 hkb2 (.int .i64 0) (.int .i64 0) (.int .i64 0)
  clear hR hb2 hb1 hka hkb h hw hkb2 hka2
  by_cases ht : n < -(12 * (y - 1) + m - 1)
  · clear t
    go_wp2_with fail
    exact bodyPost_ret (v := .tuple #[.agg #[.int .i64 0, .int .i64 0, .int .i64 0], .iface 45 (.int .i64 12)]) (by simp [results, Tryz.results115, go_sem, s0, s1, s2, Result.andThen]) rfl ⟨rfl, below3 HB2.out (by omega) _ _ _⟩
  · have ht2 : 119988 - (12 * (y - 1) + m - 1) ≤ n := by omega
    clear t
    go_wp2_with fail
    exact bodyPost_ret (v := .tuple #[.agg #[.int .i64 0, .int .i64 0, .int .i64 0], .iface 45 (.int .i64 12)]) (by simp [results, Tryz.results115, go_sem, s0, s1, s2, Result.andThen]) rfl ⟨rfl, below3 HB2.out (by omega) _ _ _⟩

theorem keep3 {W : World} {g : Nat} {q : Addr} {v x y z : Value} (h : W.cell? q = some v) (hq : q.block ≠ g) : (((W.setCell ⟨g, 0, none⟩ x).setCell ⟨g, 1, none⟩ y).setCell ⟨g, 2, none⟩ z).cell? q = some v := by
  rw [World.cell?_setCell_other _ _ _ _ (fun e => hq (by subst e; rfl)), World.cell?_setCell_other _ _ _ _ (fun e => hq (by subst e; rfl)), World.cell?_setCell_other _ _ _ _ (fun e => hq (by subst e; rfl))]
  exact h

end Go.Proofs.YtjcnglkjjhnpbaaGreatDoor
