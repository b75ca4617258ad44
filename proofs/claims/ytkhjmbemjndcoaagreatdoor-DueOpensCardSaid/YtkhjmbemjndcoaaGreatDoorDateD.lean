/-
  The references' Civil and Number, a date's Number. Condition: the months' lengths are laid.
-/
import Derived.Test.YtkhjmbemjndcoaaGreatDoorDateC
namespace Go.Proofs.YtkhjmbemjndcoaaGreatDoor
open Go.RowKit

theorem dby_age (a : Int) : dby (1 + 400 * a) = 146097 * a := by unfold dby; omega
theorem leap_size (Y : Int) : (leapB Y = true → lp Y = 1) ∧ (leapB Y = false → lp Y = 0) := by
  unfold lp
  constructor <;> intro h <;> rw [h] <;> rfl
theorem year_room {n Y : Int} (h1 : n ≤ 3652058) (y1 : 1 ≤ Y) (y2 : Y ≤ 9999) (h : dby Y + 365 + lp Y ≤ n) : Y < 9999 := by
  rcases Int.lt_or_le Y 9999 with h9 | h9
  · exact h9
  · exfalso
    have e : Y = 9999 := by omega
    subst e
    have hs := dby_succ 9999 (by omega) (by omega)
    have he : dby (9999 + 1) = 3652059 := dby_end
    omega

/-- A box of three cells, laid anew. -/
theorem set3 {w : World} {g : Nat} {T : TypeId} {a b c : Value} (h : Blk w g T #[a, b, c]) (x y z : Value) :
    (w.setCell ⟨g, 0, none⟩ x).cell? ⟨g, 0, none⟩ = some x ∧ ((w.setCell ⟨g, 0, none⟩ x).setCell ⟨g, 1, none⟩ y).cell? ⟨g, 1, none⟩ = some y ∧
      (((w.setCell ⟨g, 0, none⟩ x).setCell ⟨g, 1, none⟩ y).setCell ⟨g, 2, none⟩ z).cell? ⟨g, 2, none⟩ = some z :=
  ⟨(h.set_ 0 x).cell 0, ((h.set_ 0 x).set_ 1 y).cell 1, (((h.set_ 0 x).set_ 1 y).set_ 2 z).cell 2⟩
theorem below3 {B : Nat} {a w : World} {g : Nat} (h : Below B a w) (hg : B ≤ g) (x y z : Value) : Below B a (((w.setCell ⟨g, 0, none⟩ x).setCell ⟨g, 1, none⟩ y).setCell ⟨g, 2, none⟩ z) :=
  ((h.setCell hg _).setCell hg _).setCell hg _

set_option maxHeartbeats 2000000 in
theorem RCivil_any (n : Int) (w : World) (h0 : 0 ≤ n) (h1 : n ≤ 3652058) : Calls Tryz.prog 24 #[.int .i64 n] w fun e w' => e = .returned (.agg #[.int .i64 (cY n), .int .i64 (cM n), .int .i64 (cD n)]) ∧ Below w.heap.size w w' := by
  have hl := fun Y W => RefLeap_any Y W
  go_enter Tryz.func24, Tryz.ntmps24
  go_wp2_with fail
  have hbw := below_alloc w (.cells #[.int .i64 0, .int .i64 0, .int .i64 0] 57)
  have hkw := Blk.new w 57 #[.int .i64 0, .int .i64 0, .int .i64 0]
  generalize w.alloc (.cells #[.int .i64 0, .int .i64 0, .int .i64 0] 57) = W0 at hbw hkw ⊢
  have HB := Lib.hid hbw
  have HK := Lib.hid hkw
  clear hbw hkw
  go_loop [0, 3] (fun r y => ∃ Y : Int, 1 ≤ Y ∧ Y ≤ 9999 ∧ y = .int .i64 Y ∧ 0 ≤ n - dby Y ∧ r = .int .i64 (n - dby Y)) (fun _ y => (9999 - intOf y).toNat)
  case atStart =>
    refine ⟨1 + 400 * (n / 146097), by omega, by omega, rfl, ?_, congrArg (Value.int .i64) ?_⟩
    · rw [dby_age]; omega
    · rw [dby_age]; omega
  case round =>
    obtain ⟨Y, y1, y2, rfl, r0, rfl⟩ := hrel
    have hls := leap_size Y
    have ds := dby_succ Y y1 y2
    have dl := dby_lo Y y1
    have dh := dby_hi Y y1
    have hl := hl Y
    by_cases hc : dby Y + 365 + lp Y ≤ n
    · have y3 := year_room h1 y1 y2 hc
      cases hb : leapB Y
      all_goals
        rw [hb] at hl
        first
          | (have hz : lp Y = 1 := hls.1 hb
             have HS := Lib.hid (show dby (Y + 1) = dby Y + 366 by omega))
          | (have hz : lp Y = 0 := hls.2 hb
             have HS := Lib.hid (show dby (Y + 1) = dby Y + 365 by omega))
        have hcc : dby Y + 365 ≤ n := by omega
        have hcd : lp Y = 0 ∨ dby Y + 366 ≤ n := by omega
        have HZ := Lib.hid hz
        have HCD := Lib.hid hcd
        clear hls ds hz hb hcd
        first
          | (have hcd : dby Y + 366 ≤ n := by
               rcases HCD.out with h | h
               · exact absurd h (by rw [HZ.out]; decide)
               · exact h)
          | skip
        clear HCD HZ hc
        go_wp2_with (go_at_call 41; refine (hl _).mono ?_; rintro e w' ⟨rfl, rfl⟩)
        go_round
        case rel => exact ⟨Y + 1, by omega, by omega, by go_num, by rw [HS.out]; omega, by rw [HS.out]; go_num⟩
        case measure => simp [intOf]; omega
    · have hY : yr n = Y := (yr_unique n Y h0 h1 y1 y2 (by omega) (by omega)).symm
      have HY := Lib.hid hY
      obtain ⟨R, hR⟩ : ∃ R, n - dby Y = R := ⟨_, rfl⟩
      have hRl : R < 365 + lp Y := by omega
      have hRd : R ≤ 366 := by have := lp_01 Y; omega
      have lq := lp_01 Y
      have hcl := cum_bd Y
      cases hb : leapB Y
      all_goals
        have hRs : R < 365 ∨ lp Y = 1 ∧ R < 366 := by omega
        first
          | (have hRt : R < 365 := by
               have hz : lp Y = 0 := hls.2 hb
               omega)
          | (have hRt : R < 366 := by omega)
        rw [hb] at hl
        rw [hR] at r0 ⊢
        have HR := Lib.hid hR
        have HRl := Lib.hid hRl
        clear hls ds hb hc hY hR dl dh hRl hRs
        go_wp2_with (go_at_call 41; refine (hl _).mono ?_; rintro e w' ⟨rfl, rfl⟩)
        go_loopw [0, 5] (fun r k wr => ∃ m : Int, 1 ≤ m ∧ m ≤ 12 ∧ k = .int .i64 m ∧ 0 ≤ R - cum Y m ∧ r = .int .i64 (R - cum Y m) ∧ Below w.heap.size w wr ∧ Blk wr w.heap.size 57 #[.int .i64 0, .int .i64 0, .int .i64 0]) (fun _ k _ => (12 - intOf k).toNat)
        case atStart => exact ⟨1, by omega, by omega, rfl, by rw [cum_one]; omega, by rw [cum_one, Int.sub_zero], HB.out, HK.out⟩
        case round =>
          obtain ⟨m, hm1, hm2, rfl, hr0, rfl, hbr, hkr⟩ := hrel
          have cb := hcl m
          have lb := mlen_bd Y m
          have cs := cum_succ Y m y1 y2 hm1 hm2
          have HBR := Lib.hid hbr
          have HKR := Lib.hid hkr
          have hcb : cum Y m ≤ 366 := by omega
          clear hbr hkr
          by_cases hc : mlen Y m ≤ R - cum Y m
          · have hm : m < 12 := by
              rcases Int.lt_or_le m 12 with h | h
              · exact h
              · exfalso
                have e : m = 12 := by omega
                subst e
                have := cum_13 Y
                have e13 : cum Y (12 + 1) = cum Y 13 := rfl
                have := HRl.out
                omega
            have HS := Lib.hid cs
            clear cs
            go_wp2_with fail
            refine (RLength_any Y m _).mono ?_
            rintro e w5 ⟨rfl, hb5⟩
            have HB5 := Lib.hid (HBR.out.trans (hb5.mono HBR.out.size))
            have HK5 := Lib.hid (HKR.out.below hb5 HKR.out.lt)
            clear hb5
            go_wp2_with fail
            refine (RLength_any Y m _).mono ?_
            rintro e w6 ⟨rfl, hb6⟩
            have HB6 := Lib.hid (HB5.out.trans (hb6.mono HB5.out.size))
            have HK6 := Lib.hid (HK5.out.below hb6 HK5.out.lt)
            clear hb6
            go_wp2_with fail
            go_roundw
            case rel => exact ⟨m + 1, by omega, by omega, rfl, by rw [HS.out]; omega, by rw [HS.out]; go_num, HB6.out, HK6.out⟩
            case measure => simp [intOf]; omega
          · have hd := date_end HY.out HR.out y1 y2 hm1 hm2 hr0 (by omega)
            have HD := Lib.hid hd
            clear hd cs
            go_wp2_with fail
            refine (RLength_any Y m _).mono ?_
            rintro e w5 ⟨rfl, hb5⟩
            have HB5 := Lib.hid (HBR.out.trans (hb5.mono HBR.out.size))
            have hk5 := HKR.out.below hb5 HKR.out.lt
            have c0 := hk5.cell 0
            have c1 := hk5.cell 1
            have c2 := hk5.cell 2
            have f0 := hk5.frozen 0
            have f1 := hk5.frozen 1
            have f2 := hk5.frozen 2
            obtain ⟨s0, s1, s2⟩ := set3 hk5 (.int .i64 Y) (.int .i64 m) (.int .i64 (R - cum Y m + 1))
            clear hb5 hk5
            go_wp2_with fail
            refine bodyPost_ret (v := .agg #[.int .i64 Y, .int .i64 m, .int .i64 (R - cum Y m + 1)]) (by simp [results, Tryz.results24, go_sem, s0, s1, s2, Result.andThen]) rfl ⟨?_, ?_⟩
            · obtain ⟨d1, d2, d3⟩ := HD.out
              rw [← d1, ← d2, ← d3]
            · exact below3 HB5.out (Nat.le_refl _) _ _ _
end Go.Proofs.YtkhjmbemjndcoaaGreatDoor
