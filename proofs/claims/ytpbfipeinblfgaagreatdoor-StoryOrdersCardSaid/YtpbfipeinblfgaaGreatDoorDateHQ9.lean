/-
date: a date's Right, Last, Number, Months, a day's Civil; the references' Right, Civil, Number, Months. Condition: the months' lengths are laid.
date: a day's Civil, a date's Number; the references'. Condition: the months' lengths are laid.
The references' Civil and Number, a date's Number. Condition: the months' lengths are laid.
A date's Number, Last, the reference's Number. Condition: the months' lengths are laid.
A date's Last and Months, what is no date and no day; the reference's Next and Months. Condition: the months' lengths are laid.
A date's Months; the reference's. Condition: the months' lengths are laid.
A date's Months where it is none or beyond; the reference's Months; the document's example. Condition: the months' lengths are laid.
-/
import Derived.Test.YtpbfipeinblfgaaGreatDoorDateAQ9
import Derived.Test.YtpbfipeinblfgaaGreatDoorCalMQ9
import Derived.Lib.QuietBelow
import Derived.BigQuiet
import Derived.LoopTactic
import Derived.StillTailTactics
import Derived.Deep.RegionHeld3
namespace Go.Proofs.YtpbfipeinblfgaaGreatDoor
open Go.RowKit

theorem below_alloc (w : World) (o : Obj) : Below w.heap.size w (w.alloc o) := (Below.refl _ _).alloc (Nat.le_refl _) _
theorem below_sameC {P : Program} {f : FuncId} {args : Array Value} {W : World} {v : Value} (h : Calls P f args W fun e w' => e = .returned v ∧ W = w') : Calls P f args W fun e w' => e = .returned v ∧ Below W.heap.size W w' :=
  h.mono fun _ _ ⟨a, b⟩ => ⟨a, b ▸ Below.refl _ _⟩
theorem box3 {w W0 : World} {T : TypeId} {y m d : Value} (h : w.alloc (.cells #[y, m, d] T) = W0) :
    (∀ dd os, (Go.Sort.grow (redrawn W0 dd) os).cell? ⟨w.heap.size, 0, none⟩ = some y) ∧ (∀ dd os, (Go.Sort.grow (redrawn W0 dd) os).cell? ⟨w.heap.size, 1, none⟩ = some m) ∧
      (∀ dd os, (Go.Sort.grow (redrawn W0 dd) os).cell? ⟨w.heap.size, 2, none⟩ = some d) := by
  have hk : Blk W0 w.heap.size T #[y, m, d] := by rw [← h]; exact Blk.new w _ _
  exact ⟨cell_regrown (hk.cell 0), cell_regrown (hk.cell 1), cell_regrown (hk.cell 2)⟩
theorem pos_yes {d : Int} (h : 1 ≤ d) : decide (1 ≤ d) = true := decide_eq_true h
theorem pos_no {d : Int} (h : ¬ 1 ≤ d) : decide (1 ≤ d) = false := decide_eq_false h

set_option maxHeartbeats 1000000 in
theorem CRight_any (y m d : Int) (w : World) (hw : Lens w) : Calls Tryz.prog 132 #[.agg #[.int .i64 y, .int .i64 m, .int .i64 d]] w fun e w' => e = .returned (.bool (rightB y m d)) ∧ Below w.heap.size w w' := by
  obtain ⟨L, hL⟩ : ∃ L, mlen y m = L := ⟨_, rfl⟩
  unfold rightB
  rw [hL]
  go_enter Tryz.func132, Tryz.ntmps132
  go_wp2_with fail
  obtain ⟨W0, hw0⟩ : ∃ W, w.alloc (.cells #[.int .i64 y, .int .i64 m, .int .i64 d] 153) = W := ⟨_, rfl⟩
  have hb0 : Below w.heap.size w W0 := by rw [← hw0]; exact below_alloc w _
  obtain ⟨b0, b1, b2⟩ := box3 hw0
  have HC : ∀ dd os, _ := fun (dd : Nat) (os : Array Obj) => Calls.regrown_of (below_sameC (hL ▸ Length_any y m (Go.Sort.grow (redrawn W0 dd) os) ((hw.below hb0).below (below_regrown W0 dd os))))
  rw [hw0]
  clear hw0 hw
  by_cases hd : 1 ≤ d
  · have hd1 := pos_yes hd
    refine wp_region_quiet_below (by kernel_rfl) (by kernel_rfl) ?_
    repeat (go_big_quiet_step (exact HC _ _))
    refine wpQuiet_nil ?_
    intro w9 hw'
    have hbx : Below W0.heap.size W0 w9 := by
      obtain ⟨p, rfl⟩ := hw'
      exact below_regrown _ _ _
    clear hw' HC b0 b1 b2
    go_wp2_with fail
    go_ret
    exact ⟨ret_bool (by simp [hd]), hb0.trans (hbx.mono hb0.size)⟩
  · have hd1 := pos_no hd
    refine wp_region_quiet_below (by kernel_rfl) (by kernel_rfl) ?_
    repeat (go_big_quiet_step (exact HC _ _))
    refine wpQuiet_nil ?_
    intro w9 hw'
    have hbx : Below W0.heap.size W0 w9 := by
      obtain ⟨p, rfl⟩ := hw'
      exact below_regrown _ _ _
    clear hw' HC b0 b1 b2
    go_wp2_with fail
    go_ret
    exact ⟨ret_bool (by simp), hb0.trans (hbx.mono hb0.size)⟩

def plen (m : Int) : Int := if m = 2 then 28 else if m = 4 ∨ m = 6 ∨ m = 9 ∨ m = 11 then 30 else 31
theorem plen_at (m : Int) (h1 : 1 ≤ m) (h2 : m ≤ 12) : ([Value.int IntKind.i64 31, .int .i64 28, .int .i64 31, .int .i64 30, .int .i64 31, .int .i64 30, .int .i64 31, .int .i64 31, .int .i64 30, .int .i64 31, .int .i64 30, .int .i64 31] : List Value)[m.toNat - 1]? = some (.int .i64 (plen m)) := by
  have hm : m = 1 ∨ m = 2 ∨ m = 3 ∨ m = 4 ∨ m = 5 ∨ m = 6 ∨ m = 7 ∨ m = 8 ∨ m = 9 ∨ m = 10 ∨ m = 11 ∨ m = 12 := by omega
  rcases hm with rfl | rfl | rfl | rfl | rfl | rfl | rfl | rfl | rfl | rfl | rfl | rfl <;> rfl

set_option maxHeartbeats 1000000 in
theorem RLength_any (y m : Int) (w : World) : Calls Tryz.prog 70 #[.int .i64 y, .int .i64 m] w fun e w' => e = .returned (.int .i64 (mlen y m)) ∧ Below w.heap.size w w' := by
  by_cases h : 1 ≤ y ∧ y ≤ 9999 ∧ 1 ≤ m ∧ m ≤ 12
  · obtain ⟨h1, h2, h3, h4⟩ := h
    have hp := plen_at m h3 h4
    have hl : ∀ W, Calls Tryz.prog 112 #[.int .i64 y] W fun e w' => e = .returned (.bool (leapB y)) ∧ W = w' := fun W => RefLeap_any y W
    by_cases h5 : m = 2
    · subst h5
      have hp : ([Value.int IntKind.i64 31, .int .i64 28, .int .i64 31, .int .i64 30, .int .i64 31, .int .i64 30, .int .i64 31, .int .i64 31, .int .i64 30, .int .i64 31, .int .i64 30, .int .i64 31] : List Value)[1]? = some (.int .i64 28) := rfl
      cases hb : leapB y
      · have hm : mlen y 2 = 28 := by unfold mlen lp; rw [hb]; simp [h1, h2]
        rw [hm]
        rw [hb] at hl
        clear hm hb
        go_enter Tryz.func70, Tryz.ntmps70
        go_wp2_with (go_at_call 112; refine (hl _).mono ?_; rintro e w' ⟨rfl, rfl⟩)
        go_ret
        exact ⟨rfl, below_alloc _ _⟩
      · have hm : mlen y 2 = 29 := by unfold mlen lp; rw [hb]; simp [h1, h2]
        rw [hm]
        rw [hb] at hl
        clear hm hb
        go_enter Tryz.func70, Tryz.ntmps70
        go_wp2_with (go_at_call 112; refine (hl _).mono ?_; rintro e w' ⟨rfl, rfl⟩)
        go_ret
        exact ⟨rfl, below_alloc _ _⟩
    · have hm : mlen y m = plen m := by unfold mlen plen; rw [if_pos ⟨h1, h2, h3, h4⟩, if_neg h5, if_neg h5]
      rw [← hm] at hp
      clear hm
      go_enter Tryz.func70, Tryz.ntmps70
      go_wp2_with (go_at_call 112; refine (hl _).mono ?_; rintro e w' ⟨rfl, rfl⟩)
      go_ret
      exact ⟨rfl, below_alloc _ _⟩
  · rw [mlen_no y m (by omega)]
    by_cases h1 : 1 ≤ y
    · by_cases h2 : y ≤ 9999
      · by_cases h3 : 1 ≤ m
        · have h4 : ¬ m ≤ 12 := by omega
          clear h
          go_enter Tryz.func70, Tryz.ntmps70
          go_wp2
          go_ret
          exact ⟨rfl, Below.refl _ _⟩
        · clear h
          go_enter Tryz.func70, Tryz.ntmps70
          go_wp2
          go_ret
          exact ⟨rfl, Below.refl _ _⟩
      · clear h
        go_enter Tryz.func70, Tryz.ntmps70
        go_wp2
        go_ret
        exact ⟨rfl, Below.refl _ _⟩
    · clear h
      go_enter Tryz.func70, Tryz.ntmps70
      go_wp2
      go_ret
      exact ⟨rfl, Below.refl _ _⟩

end Go.Proofs.YtpbfipeinblfgaaGreatDoor
namespace Go.Proofs.YtpbfipeinblfgaaGreatDoor
open Go.RowKit

set_option maxHeartbeats 1000000 in
theorem yearOf_any (n : Int) (w : World) (h0 : 0 ≤ n) (h1 : n ≤ 3652058) : Calls Tryz.prog 171 #[.int .i64 n] w fun e w' => e = .returned (.tuple #[.int .i64 (yr n), .int .i64 (n - dby (yr n))]) ∧ w = w' := by
  go_enter Tryz.func171, Tryz.ntmps171
  go_wp2_with fail
  all_goals
    go_ret2
    first
      | (obtain ⟨e1, e2⟩ := yr_low n h0 h1 (by assumption) (by assumption); rw [e1, e2]; exact ⟨rfl, rfl⟩)
      | (obtain ⟨e1, e2⟩ := yr_top n h0 h1 (by assumption) (by assumption); rw [e1, e2]; exact ⟨rfl, rfl⟩)
      | (obtain ⟨e1, e2⟩ := yr_end n h0 h1 (by assumption); rw [e1, e2]; exact ⟨rfl, rfl⟩)


theorem mo_bounds (n : Int) (h0 : 0 ≤ n) (h1 : n ≤ 3652058) : 1 ≤ yr n ∧ yr n ≤ 9999 ∧ 0 ≤ n - dby (yr n) ∧ n - dby (yr n) < 365 + lp (yr n) := by
  obtain ⟨a, b, c, d⟩ := yr_spec n h0 h1
  omega
theorem date_end {n Y R m : Int} (hY : yr n = Y) (hR : n - dby Y = R) (y1 : 1 ≤ Y) (y2 : Y ≤ 9999) (h1 : 1 ≤ m) (h2 : m ≤ 12) (h3 : 0 ≤ R - cum Y m) (h4 : R - cum Y m < mlen Y m) : Y = cY n ∧ m = cM n ∧ R - cum Y m + 1 = cD n := by
  have hs := cum_succ Y m y1 y2 h1 h2
  have e1 : Y = cY n := hY.symm
  have e2 : m = cM n := by
    unfold cM
    rw [hY, hR]
    exact mo_unique Y R m y1 y2 h1 h2 (by omega) (by omega)
  refine ⟨e1, e2, ?_⟩
  unfold cD
  rw [← e2, hY, hR]

set_option maxHeartbeats 1000000 in
theorem DCivil_any (n : Int) (w : World) (h0 : 0 ≤ n) (h1 : n ≤ 3652058) (hw : Lens w) : Calls Tryz.prog 134 #[.int .i32 n] w fun e w' => e = .returned (.tuple #[.agg #[.int .i64 (cY n), .int .i64 (cM n), .int .i64 (cD n)], .nilIface]) ∧ Below w.heap.size w w' := by
  have hr : ∀ W, Calls Tryz.prog 29 #[.int .i32 n] W fun e w' => e = .returned (.bool true) ∧ W = w' := fun W => by have := DRight_any n W; rw [day_yes h0 h1] at this; exact this
  have hy := fun W => yearOf_any n W h0 h1
  obtain ⟨y1, y2, r0, r1⟩ := mo_bounds n h0 h1
  obtain ⟨Y, hY⟩ : ∃ Y, yr n = Y := ⟨_, rfl⟩
  rw [hY] at hy y1 y2 r0 r1
  obtain ⟨R, hR⟩ : ∃ R, n - dby Y = R := ⟨_, rfl⟩
  rw [hR] at hy r0 r1
  have HY := Lib.hid hY
  have HR := Lib.hid hR
  have hcl := cum_bd Y
  clear hY hR
  go_enter Tryz.func134, Tryz.ntmps134
  go_wp2_with (first | (go_at_call 29; refine (hr _).mono ?_; rintro e w' ⟨rfl, rfl⟩) | (go_at_call 171; refine (hy _).mono ?_; rintro e w' ⟨rfl, rfl⟩))
  have hL := fun m => Length_any Y m (w.alloc (.cells #[.int .i64 0, .int .i64 0, .int .i64 0] 153)) (hw.below (below_alloc _ _))
  clear hr hy hw
  go_loop [5, 6] (fun r k => ∃ m : Int, 1 ≤ m ∧ m ≤ 12 ∧ k = .int .i64 m ∧ 0 ≤ R - cum Y m ∧ r = .int .i64 (R - cum Y m)) (fun _ k => (12 - intOf k).toNat)
  case atStart => exact ⟨1, by omega, by omega, rfl, by rw [cum_one]; omega, by rw [cum_one, Int.sub_zero]⟩
  case round =>
    obtain ⟨m, hm1, hm2, rfl, hr0, rfl⟩ := hrel
    have cb := hcl m
    have lb := mlen_bd Y m
    have lq := lp_01 Y
    have cs := cum_succ Y m y1 y2 hm1 hm2
    have hL := hL m
    by_cases hc : mlen Y m ≤ R - cum Y m
    · have hm : m < 12 := by
        rcases Int.lt_or_le m 12 with h | h
        · exact h
        · exfalso
          have e : m = 12 := by omega
          subst e
          have := cum_13 Y
          have e13 : cum Y (12 + 1) = cum Y 13 := rfl
          omega
      have HS := Lib.hid cs
      have hcb : cum Y m ≤ 366 := by omega
      clear cs
      go_wp2_with (go_at_call 133; refine hL.mono ?_; rintro e w' ⟨rfl, rfl⟩)
      go_round
      case rel => exact ⟨m + 1, by omega, by omega, rfl, by rw [HS.out]; omega, by rw [HS.out]; go_num⟩
      case measure => simp [intOf]; omega
    · have hd := date_end HY.out HR.out y1 y2 hm1 hm2 hr0 (by omega)
      have HD := Lib.hid hd
      have hcb : cum Y m ≤ 366 := by omega
      clear hd cs
      go_wp2_with (go_at_call 133; refine hL.mono ?_; rintro e w' ⟨rfl, rfl⟩)
      refine bodyPost_ret (v := .tuple #[.agg #[.int .i64 Y, .int .i64 m, .int .i64 (R - cum Y m + 1)], .nilIface]) (by simp [results, Tryz.results134, go_sem]) rfl ⟨?_, ?_⟩
      · obtain ⟨d1, d2, d3⟩ := HD.out
        rw [← d1, ← d2, ← d3]
      · exact below_alloc _ _
end Go.Proofs.YtpbfipeinblfgaaGreatDoor
namespace Go.Proofs.YtpbfipeinblfgaaGreatDoor
open Go.RowKit

theorem dby_age (a : Int) : dby (1 + 400 * a) = 146097 * a := by unfold dby; omega
theorem leap_size (Y : Int) : (leapB Y = true → lp Y = 1) ∧ (leapB Y = false → lp Y = 0) := by
  unfold lp
  constructor <;> intro h <;> rw [h] <;> rfl
theorem year_room {n Y : Int} (h1 : n ≤ 3652058) (y1 : 1 ≤ Y) (y2 : Y ≤ 9999) (h : dby Y + 365 + lp Y ≤ n) : Y < 9999 := by
  rcases Int.lt_or_le Y 9999 with h9 | h9
  · exact h9
  · exfalso
    have e : Y = 9999 := by omega
    subst e
    have hs := dby_succ 9999 (by omega) (by omega)
    have he : dby (9999 + 1) = 3652059 := dby_end
    omega

/-- A box of three cells, laid anew. -/
theorem set3 {w : World} {g : Nat} {T : TypeId} {a b c : Value} (h : Blk w g T #[a, b, c]) (x y z : Value) :
    (w.setCell ⟨g, 0, none⟩ x).cell? ⟨g, 0, none⟩ = some x ∧ ((w.setCell ⟨g, 0, none⟩ x).setCell ⟨g, 1, none⟩ y).cell? ⟨g, 1, none⟩ = some y ∧
      (((w.setCell ⟨g, 0, none⟩ x).setCell ⟨g, 1, none⟩ y).setCell ⟨g, 2, none⟩ z).cell? ⟨g, 2, none⟩ = some z :=
  ⟨(h.set_ 0 x).cell 0, ((h.set_ 0 x).set_ 1 y).cell 1, (((h.set_ 0 x).set_ 1 y).set_ 2 z).cell 2⟩
theorem below3 {B : Nat} {a w : World} {g : Nat} (h : Below B a w) (hg : B ≤ g) (x y z : Value) : Below B a (((w.setCell ⟨g, 0, none⟩ x).setCell ⟨g, 1, none⟩ y).setCell ⟨g, 2, none⟩ z) :=
  ((h.setCell hg _).setCell hg _).setCell hg _

set_option maxHeartbeats 2000000 in
theorem RCivil_any (n : Int) (w : World) (h0 : 0 ≤ n) (h1 : n ≤ 3652058) : Calls Tryz.prog 69 #[.int .i64 n] w fun e w' => e = .returned (.agg #[.int .i64 (cY n), .int .i64 (cM n), .int .i64 (cD n)]) ∧ Below w.heap.size w w' := by
  have hl := fun Y W => RefLeap_any Y W
  go_enter Tryz.func69, Tryz.ntmps69
  go_wp2_with fail
  have hbw := below_alloc w (.cells #[.int .i64 0, .int .i64 0, .int .i64 0] 142)
  have hkw := Blk.new w 142 #[.int .i64 0, .int .i64 0, .int .i64 0]
  generalize w.alloc (.cells #[.int .i64 0, .int .i64 0, .int .i64 0] 142) = W0 at hbw hkw ⊢
  have HB := Lib.hid hbw
  have HK := Lib.hid hkw
  clear hbw hkw
  go_loop [0, 3] (fun r y => ∃ Y : Int, 1 ≤ Y ∧ Y ≤ 9999 ∧ y = .int .i64 Y ∧ 0 ≤ n - dby Y ∧ r = .int .i64 (n - dby Y)) (fun _ y => (9999 - intOf y).toNat)
  case atStart =>
    refine ⟨1 + 400 * (n / 146097), by omega, by omega, rfl, ?_, congrArg (Value.int .i64) ?_⟩
    · rw [dby_age]; omega
    · rw [dby_age]; omega
  case round =>
    obtain ⟨Y, y1, y2, rfl, r0, rfl⟩ := hrel
    have hls := leap_size Y
    have ds := dby_succ Y y1 y2
    have dl := dby_lo Y y1
    have dh := dby_hi Y y1
    have hl := hl Y
    by_cases hc : dby Y + 365 + lp Y ≤ n
    · have y3 := year_room h1 y1 y2 hc
      cases hb : leapB Y
      all_goals
        rw [hb] at hl
        first
          | (have hz : lp Y = 1 := hls.1 hb
             have HS := Lib.hid (show dby (Y + 1) = dby Y + 366 by omega))
          | (have hz : lp Y = 0 := hls.2 hb
             have HS := Lib.hid (show dby (Y + 1) = dby Y + 365 by omega))
        have hcc : dby Y + 365 ≤ n := by omega
        have hcd : lp Y = 0 ∨ dby Y + 366 ≤ n := by omega
        have HZ := Lib.hid hz
        have HCD := Lib.hid hcd
        clear hls ds hz hb hcd
        first
          | (have hcd : dby Y + 366 ≤ n := by
               rcases HCD.out with h | h
               · exact absurd h (by rw [HZ.out]; decide)
               · exact h)
          | skip
        clear HCD HZ hc
        go_wp2_with (go_at_call 112; refine (hl _).mono ?_; rintro e w' ⟨rfl, rfl⟩)
        go_round
        case rel => exact ⟨Y + 1, by omega, by omega, by go_num, by rw [HS.out]; omega, by rw [HS.out]; go_num⟩
        case measure => simp [intOf]; omega
    · have hY : yr n = Y := (yr_unique n Y h0 h1 y1 y2 (by omega) (by omega)).symm
      have HY := Lib.hid hY
      obtain ⟨R, hR⟩ : ∃ R, n - dby Y = R := ⟨_, rfl⟩
      have hRl : R < 365 + lp Y := by omega
      have hRd : R ≤ 366 := by have := lp_01 Y; omega
      have lq := lp_01 Y
      have hcl := cum_bd Y
      cases hb : leapB Y
      all_goals
        have hRs : R < 365 ∨ lp Y = 1 ∧ R < 366 := by omega
        first
          | (have hRt : R < 365 := by
               have hz : lp Y = 0 := hls.2 hb
               omega)
          | (have hRt : R < 366 := by omega)
        rw [hb] at hl
        rw [hR] at r0 ⊢
        have HR := Lib.hid hR
        have HRl := Lib.hid hRl
        clear hls ds hb hc hY hR dl dh hRl hRs
        go_wp2_with (go_at_call 112; refine (hl _).mono ?_; rintro e w' ⟨rfl, rfl⟩)
        go_loopw [0, 5] (fun r k wr => ∃ m : Int, 1 ≤ m ∧ m ≤ 12 ∧ k = .int .i64 m ∧ 0 ≤ R - cum Y m ∧ r = .int .i64 (R - cum Y m) ∧ Below w.heap.size w wr ∧ Blk wr w.heap.size 142 #[.int .i64 0, .int .i64 0, .int .i64 0]) (fun _ k _ => (12 - intOf k).toNat)
        case atStart => exact ⟨1, by omega, by omega, rfl, by rw [cum_one]; omega, by rw [cum_one, Int.sub_zero], HB.out, HK.out⟩
        case round =>
          obtain ⟨m, hm1, hm2, rfl, hr0, rfl, hbr, hkr⟩ := hrel
          have cb := hcl m
          have lb := mlen_bd Y m
          have cs := cum_succ Y m y1 y2 hm1 hm2
          have HBR := Lib.hid hbr
          have HKR := Lib.hid hkr
          have hcb : cum Y m ≤ 366 := by omega
          clear hbr hkr
          by_cases hc : mlen Y m ≤ R - cum Y m
          · have hm : m < 12 := by
              rcases Int.lt_or_le m 12 with h | h
              · exact h
              · exfalso
                have e : m = 12 := by omega
                subst e
                have := cum_13 Y
                have e13 : cum Y (12 + 1) = cum Y 13 := rfl
                have := HRl.out
                omega
            have HS := Lib.hid cs
            clear cs
            go_wp2_with fail
            refine (RLength_any Y m _).mono ?_
            rintro e w5 ⟨rfl, hb5⟩
            have HB5 := Lib.hid (HBR.out.trans (hb5.mono HBR.out.size))
            have HK5 := Lib.hid (HKR.out.below hb5 HKR.out.lt)
            clear hb5
            go_wp2_with fail
            refine (RLength_any Y m _).mono ?_
            rintro e w6 ⟨rfl, hb6⟩
            have HB6 := Lib.hid (HB5.out.trans (hb6.mono HB5.out.size))
            have HK6 := Lib.hid (HK5.out.below hb6 HK5.out.lt)
            clear hb6
            go_wp2_with fail
            go_roundw
            case rel => exact ⟨m + 1, by omega, by omega, rfl, by rw [HS.out]; omega, by rw [HS.out]; go_num, HB6.out, HK6.out⟩
            case measure => simp [intOf]; omega
          · have hd := date_end HY.out HR.out y1 y2 hm1 hm2 hr0 (by omega)
            have HD := Lib.hid hd
            clear hd cs
            go_wp2_with fail
            refine (RLength_any Y m _).mono ?_
            rintro e w5 ⟨rfl, hb5⟩
            have HB5 := Lib.hid (HBR.out.trans (hb5.mono HBR.out.size))
            have hk5 := HKR.out.below hb5 HKR.out.lt
            have c0 := hk5.cell 0
            have c1 := hk5.cell 1
            have c2 := hk5.cell 2
            have f0 := hk5.frozen 0
            have f1 := hk5.frozen 1
            have f2 := hk5.frozen 2
            obtain ⟨s0, s1, s2⟩ := set3 hk5 (.int .i64 Y) (.int .i64 m) (.int .i64 (R - cum Y m + 1))
            clear hb5 hk5
            go_wp2_with fail
            refine bodyPost_ret (v := .agg #[.int .i64 Y, .int .i64 m, .int .i64 (R - cum Y m + 1)]) (by simp [results, Tryz.results69, go_sem, s0, s1, s2, Result.andThen]) rfl ⟨?_, ?_⟩
            · obtain ⟨d1, d2, d3⟩ := HD.out
              rw [← d1, ← d2, ← d3]
            · exact below3 HB5.out (Nat.le_refl _) _ _ _
end Go.Proofs.YtpbfipeinblfgaaGreatDoor
namespace Go.Proofs.YtpbfipeinblfgaaGreatDoor
open Go.RowKit

theorem dby_lim (y : Int) (h1 : 1 ≤ y) (h2 : y ≤ 9999) : 0 ≤ dby y ∧ dby y ≤ 3700000 := by
  have := dby_lo y h1
  have := dby_hi y h1
  omega
theorem cum_lim (y m : Int) : 0 ≤ cum y m ∧ cum y m ≤ 366 := by
  have := cum_bd y m
  have := lp_01 y
  omega

set_option maxHeartbeats 1000000 in
theorem CNum_yes (y m d : Int) (h : rightB y m d = true) (w : World) (hw : Lens w) : Calls Tryz.prog 79 #[.agg #[.int .i64 y, .int .i64 m, .int .i64 d]] w fun e w' => e = .returned (.tuple #[.int .i32 (num y m d), .nilIface]) ∧ Below w.heap.size w w' := by
  obtain ⟨y1, y2, m1, m2, d1, d2⟩ := right_in h
  have hn := num_in h
  obtain ⟨-, -, -, -, n1, n2⟩ := hn
  have hR := CRight_any y m d (w.alloc (.cells #[.int .i64 y, .int .i64 m, .int .i64 d] 153)) (hw.below (below_alloc _ _))
  rw [h] at hR
  have hkw := Blk.new w 153 #[.int .i64 y, .int .i64 m, .int .i64 d]
  have hbw := below_alloc w (.cells #[.int .i64 y, .int .i64 m, .int .i64 d] 153)
  have HK := Lib.hid hkw
  have HB := Lib.hid hbw
  have HW := Lib.hid hw
  have ld := mlen_bd y m
  clear hkw hbw hw h
  go_enter Tryz.func79, Tryz.ntmps79
  go_wp2_with fail
  refine hR.mono ?_
  rintro e w1 ⟨rfl, hb1⟩
  have hk1 := HK.out.below hb1 HK.out.lt
  have HB1 := Lib.hid (HB.out.trans (hb1.mono HB.out.size))
  have hl1 := HW.out.below HB1.out
  have hL := fun k => Length_any y k w1 hl1
  have c0 := hk1.cell 0
  have c1 := hk1.cell 1
  have c2 := hk1.cell 2
  simp at c0 c1 c2
  clear hk1 hb1 hl1 hR
  go_wp2_with fail
  have hD0 := dby_lim y y1 y2
  have hcl := cum_lim y
  obtain ⟨D, hD⟩ : ∃ D, dby y = D := ⟨_, rfl⟩
  rw [hD] at hD0
  have hDe : 365 * (y - 1) + (y - 1) / 4 - (y - 1) / 100 + (y - 1) / 400 = D := hD
  rw [hDe]
  have hN : num y m d = D + cum y m + d - 1 := by unfold num; rw [hD]
  have HN := Lib.hid hN
  rw [hN] at n1 n2
  clear hD hDe hN
  go_loop [5, 6] (fun r k => ∃ j : Int, 1 ≤ j ∧ j ≤ m ∧ k = .int .i64 j ∧ r = .int .i64 (D + cum y j)) (fun _ k => (12 - intOf k).toNat)
  case atStart => exact ⟨1, by omega, by omega, rfl, by rw [cum_one, Int.add_zero]⟩
  case round =>
    obtain ⟨j, j1, j2, rfl, rfl⟩ := hrel
    have cb := hcl j
    have cs := cum_succ y j y1 y2 j1 (by omega)
    have lb := mlen_bd y j
    have hL := hL j
    by_cases hc : j < m
    · have HS := Lib.hid cs
      clear cs
      go_wp2_with (go_at_call 133; refine hL.mono ?_; rintro e w' ⟨rfl, rfl⟩)
      go_round
      case rel => exact ⟨j + 1, by omega, by omega, rfl, by rw [HS.out]; go_num⟩
      case measure => simp [intOf]; omega
    · have hj : j = m := by omega
      subst hj
      clear cs
      have i1 : IntKind.i32.wrap (D + cum y j + d - 1) = D + cum y j + d - 1 := by rw [IntKind.wrap_i32]; omega
      go_wp2_with fail
      go_ret2
      exact ⟨by rw [HN.out]; rfl, HB1.out⟩

end Go.Proofs.YtpbfipeinblfgaaGreatDoor
namespace Go.Proofs.YtpbfipeinblfgaaGreatDoor
open Go.RowKit

set_option maxHeartbeats 1000000 in
theorem CNum_no (y m d : Int) (h : rightB y m d = false) (w : World) (hw : Lens w) : Calls Tryz.prog 79 #[.agg #[.int .i64 y, .int .i64 m, .int .i64 d]] w fun e w' => e = .returned (.tuple #[.int .i32 0, .iface 110 (.int .i64 1)]) ∧ Below w.heap.size w w' := by
  have hR := CRight_any y m d (w.alloc (.cells #[.int .i64 y, .int .i64 m, .int .i64 d] 153)) (hw.below (below_alloc _ _))
  rw [h] at hR
  have HB := Lib.hid (below_alloc w (.cells #[.int .i64 y, .int .i64 m, .int .i64 d] 153))
  clear hw h
  go_enter Tryz.func79, Tryz.ntmps79
  go_wp2_with fail
  refine hR.mono ?_
  rintro e w1 ⟨rfl, hb1⟩
  have HB1 := Lib.hid (HB.out.trans (hb1.mono HB.out.size))
  clear hb1 hR
  go_wp2_with fail
  go_ret2
  exact ⟨rfl, HB1.out⟩

set_option maxHeartbeats 1000000 in
theorem DCivil_no (n : Int) (h : n < 0 ∨ 3652058 < n) (w : World) : Calls Tryz.prog 134 #[.int .i32 n] w fun e w' => e = .returned (.tuple #[.agg #[.int .i64 0, .int .i64 0, .int .i64 0], .iface 110 (.int .i64 1)]) ∧ Below w.heap.size w w' := by
  have hr : ∀ W, Calls Tryz.prog 29 #[.int .i32 n] W fun e w' => e = .returned (.bool false) ∧ W = w' := fun W => by have := DRight_any n W; rw [day_no h] at this; exact this
  clear h
  go_enter Tryz.func134, Tryz.ntmps134
  go_wp2_with (go_at_call 29; refine (hr _).mono ?_; rintro e w' ⟨rfl, rfl⟩)
  exact bodyPost_ret (v := .tuple #[.agg #[.int .i64 0, .int .i64 0, .int .i64 0], .iface 110 (.int .i64 1)]) (by simp [results, Tryz.results134, go_sem]) rfl ⟨rfl, below_alloc _ _⟩

/-- The last date of its month. -/
def lastB (y m d : Int) : Bool := rightB y m d && (d == mlen y m)
set_option maxHeartbeats 1000000 in
theorem CLast_any (y m d : Int) (w : World) (hw : Lens w) : Calls Tryz.prog 144 #[.agg #[.int .i64 y, .int .i64 m, .int .i64 d]] w fun e w' => e = .returned (.bool (lastB y m d)) ∧ Below w.heap.size w w' := by
  obtain ⟨L, hL⟩ : ∃ L, mlen y m = L := ⟨_, rfl⟩
  unfold lastB
  rw [hL]
  go_enter Tryz.func144, Tryz.ntmps144
  go_wp2_with fail
  obtain ⟨W0, hw0⟩ : ∃ W, w.alloc (.cells #[.int .i64 y, .int .i64 m, .int .i64 d] 153) = W := ⟨_, rfl⟩
  have hb0 : Below w.heap.size w W0 := by rw [← hw0]; exact below_alloc w _
  obtain ⟨b0, b1, b2⟩ := box3 hw0
  have hk0 : Blk W0 w.heap.size 153 #[.int .i64 y, .int .i64 m, .int .i64 d] := by rw [← hw0]; exact Blk.new w _ _
  have c0 := hk0.cell 0
  have c1 := hk0.cell 1
  have c2 := hk0.cell 2
  simp at c0 c1 c2
  have HC : ∀ dd os, _ := fun (dd : Nat) (os : Array Obj) => Calls.regrown_of (below_sameC (hL ▸ Length_any y m (Go.Sort.grow (redrawn W0 dd) os) ((hw.below hb0).below (below_regrown W0 dd os))))
  have HR : ∀ dd os, _ := fun (dd : Nat) (os : Array Obj) => Calls.regrown_of (CRight_any y m d (Go.Sort.grow (redrawn W0 dd) os) ((hw.below hb0).below (below_regrown W0 dd os)))
  rw [hw0]
  clear hw0 hw hk0
  cases hd : rightB y m d
  all_goals
    rw [hd] at HR
    refine wp_region_quiet_below (by kernel_rfl) (by kernel_rfl) ?_
    repeat (go_big_quiet_step (first | (go_at_call 132; exact HR _ _) | (go_at_call 133; exact HC _ _)))
    refine wpQuiet_nil ?_
    intro w9 hw'
    have hbx : Below W0.heap.size W0 w9 := by
      obtain ⟨p, rfl⟩ := hw'
      exact below_regrown _ _ _
    clear hw' HC HR b0 b1 b2
    go_wp2_with fail
    go_ret
    exact ⟨by rw [hd]; rfl, hb0.trans (hbx.mono hb0.size)⟩

end Go.Proofs.YtpbfipeinblfgaaGreatDoor
namespace Go.Proofs.YtpbfipeinblfgaaGreatDoor
open Go.RowKit

theorem two_boxes {w W1 : World} {T U : TypeId} {a b c x y z : Value} (h : (w.alloc (.cells #[a, b, c] T)).alloc (.cells #[x, y, z] U) = W1) :
    Below w.heap.size w W1 ∧ Blk W1 w.heap.size T #[a, b, c] ∧ Blk W1 (w.heap.size + 1) U #[x, y, z] := by
  subst h
  refine ⟨(below_alloc w _).trans ((below_alloc _ _).mono (by simp)), (Blk.new w _ _).alloc _, ?_⟩
  have := Blk.new (w.alloc (.cells #[a, b, c] T)) U #[x, y, z]
  rw [World.size_alloc] at this
  exact this

theorem same_sym {P : Program} {f : FuncId} {args : Array Value} {W : World} {v : Value} (h : Calls P f args W fun e w' => e = .returned v ∧ W = w') : Calls P f args W fun e w'' => e = .returned v ∧ w'' = W :=
  h.mono fun _ _ ⟨a, b⟩ => ⟨a, b.symm⟩

set_option maxRecDepth 20000 in
set_option maxHeartbeats 2000000 in
theorem Months_ok (y m d n : Int) (h : rightB y m d = true) (t0 : 0 ≤ mon y m n) (t1 : mon y m n < 119988) (w : World) (hw : Lens w) :
    Calls Tryz.prog 143 #[.agg #[.int .i64 y, .int .i64 m, .int .i64 d], .int .i64 n] w fun e w' => e = .returned (.tuple #[.agg #[.int .i64 (mY (mon y m n)), .int .i64 (mM (mon y m n)), .int .i64 (mD (mon y m n) d)], .nilIface]) ∧ Below w.heap.size w w' := by
  obtain ⟨y1, y2, m1, m2, d1, d2⟩ := right_in h
  have ld := mlen_bd y m
  obtain ⟨q1, q2, q3, q4⟩ := mon_in t0 t1
  have hY : (12 * (y - 1) + m - 1 + n) / 12 + 1 = mY (mon y m n) := by unfold mY mon; omega
  have hM : (12 * (y - 1) + m - 1 + n) % 12 + 1 = mM (mon y m n) := by unfold mM mon; omega
  have hD : min d (mlen (mY (mon y m n)) (mM (mon y m n))) = mD (mon y m n) d := rfl
  have s0 : 0 ≤ 12 * (y - 1) + m - 1 + n := by unfold mon at t0; omega
  have s1 : 12 * (y - 1) + m - 1 + n < 119988 := by unfold mon at t1; omega
  generalize mY (mon y m n) = y' at hY hM hD q1 q2 ⊢
  generalize mM (mon y m n) = m' at hM hD q3 q4 ⊢
  generalize mD (mon y m n) d = d' at hD ⊢
  have lm := mlen_bd y' m'
  have HD := Lib.hid hD
  have HY := Lib.hid hY
  have HM := Lib.hid hM
  clear t0 t1 hD hY hM
  have HW := Lib.hid hw
  clear hw
  go_enter Tryz.func143, Tryz.ntmps143
  go_wp2_with fail
  obtain ⟨W1, hW1⟩ : ∃ W, (w.alloc (.cells #[.int .i64 y, .int .i64 m, .int .i64 d] 153)).alloc (.cells #[.int .i64 0, .int .i64 0, .int .i64 0] 153) = W := ⟨_, rfl⟩
  rw [hW1]
  obtain ⟨hb1, hka, hkb⟩ := two_boxes hW1
  clear hW1
  have hR := CRight_any y m d W1 (HW.out.below hb1)
  rw [h] at hR
  refine hR.mono ?_
  rintro e w2 ⟨rfl, hb2⟩
  have hka2 := hka.below hb2 hka.lt
  have hkb2 := hkb.below hb2 hkb.lt
  have HB2 := Lib.hid (hb1.trans (hb2.mono hb1.size))
  have hl2 := HW.out.below HB2.out
  have c0 := hka2.cell 0
  have c1 := hka2.cell 1
  have c2 := hka2.cell 2
  simp at c0 c1 c2
  clear hR hb2 hb1 hka hkb h
  have i1 : ¬ n < -(12 * (y - 1) + m - 1) := by omega
  have i2 : ¬ 119988 - (12 * (y - 1) + m - 1) ≤ n := by omega
  have HA := Lib.hid hka2
  have HC := Lib.hid hkb2
  clear hka2 hkb2
  go_wp2_with fail
  rw [HY.out, HM.out]
  obtain ⟨w3, hw3⟩ : ∃ W, w2.drew = W := ⟨_, rfl⟩
  have HL : Hid _ := Lib.hid (same_sym (Length_any y' m' w2.drew hl2))
  rw [hw3] at HL
  have e2 : w3.cell? ⟨w.heap.size, 2, none⟩ = some (.int .i64 d) := by rw [← hw3]; exact c2
  have kb : Blk w3 (w.heap.size + 1) 153 #[.int .i64 0, .int .i64 0, .int .i64 0] := by rw [← hw3]; exact HC.out
  have hb3 : Below w.heap.size w w3 := by rw [← hw3]; exact HB2.out.drew
  have HKB := Lib.hid kb
  have HB3 := Lib.hid hb3
  clear c0 c1 c2 kb hb3 hl2 i1 i2 HA HC HB2
  have kb := HKB.out
  have g0 := kb.cell 0
  have g1 := kb.cell 1
  have g2 := kb.cell 2
  have f0 := kb.frozen 0
  have f1 := kb.frozen 1
  have f2 := kb.frozen 2
  simp at g0 g1 g2
  by_cases hmn : d ≤ mlen y' m'
  · have hd' : d = d' := by rw [← HD.out]; exact (Int.min_eq_left hmn).symm
    obtain ⟨s0, s1, s2⟩ := set3 kb (.int .i64 y') (.int .i64 m') (.int .i64 d)
    have HD' := Lib.hid hd'
    clear hd' kb
    refine wp_region_still_tail 9 (by kernel_rfl) (by kernel_rfl) ?_
    simp only [List.take_succ_cons, List.take_zero, List.drop_succ_cons, List.drop_zero]
    change wpStill _ _ w2.drew _ _ _
    rw [hw3]
    change wpStill _ _ w3 (fun a' => wpList _ _ _ _ a' w2.drew) _ _
    rw [hw3]
    clear hw3
    iterate 6 still_step
    still_call HL.out
    still_step
    still_step
    refine wpStill_nil ?_
    go_wp2_with fail
    exact bodyPost_ret (v := .tuple #[.agg #[.int .i64 y', .int .i64 m', .int .i64 d], .nilIface]) (by simp [results, Tryz.results143, go_sem, s0, s1, s2, Result.andThen]) rfl ⟨by rw [HD'.out], below3 HB3.out (by omega) _ _ _⟩
  · have hd' : mlen y' m' = d' := by rw [← HD.out]; exact (Int.min_eq_right (by omega)).symm
    rw [hd'] at HL hmn lm
    obtain ⟨s0, s1, s2⟩ := set3 kb (.int .i64 y') (.int .i64 m') (.int .i64 d')
    clear hd' kb HD
    refine wp_region_still_tail 9 (by kernel_rfl) (by kernel_rfl) ?_
    simp only [List.take_succ_cons, List.take_zero, List.drop_succ_cons, List.drop_zero]
    change wpStill _ _ w2.drew _ _ _
    rw [hw3]
    change wpStill _ _ w3 (fun a' => wpList _ _ _ _ a' w2.drew) _ _
    rw [hw3]
    clear hw3
    iterate 6 still_step
    still_call HL.out
    still_step
    still_step
    refine wpStill_nil ?_
    go_wp2_with fail
    exact bodyPost_ret (v := .tuple #[.agg #[.int .i64 y', .int .i64 m', .int .i64 d'], .nilIface]) (by simp [results, Tryz.results143, go_sem, s0, s1, s2, Result.andThen]) rfl ⟨rfl, below3 HB3.out (by omega) _ _ _⟩
end Go.Proofs.YtpbfipeinblfgaaGreatDoor
namespace Go.Proofs.YtpbfipeinblfgaaGreatDoor
open Go.RowKit

set_option maxRecDepth 20000 in
set_option maxHeartbeats 2000000 in
theorem Months_arg (y m d n : Int) (h : rightB y m d = false) (w : World) (hw : Lens w) :
    Calls Tryz.prog 143 #[.agg #[.int .i64 y, .int .i64 m, .int .i64 d], .int .i64 n] w fun e w' => e = .returned (.tuple #[.agg #[.int .i64 0, .int .i64 0, .int .i64 0], .iface 110 (.int .i64 1)]) ∧ Below w.heap.size w w' := by
  go_enter Tryz.func143, Tryz.ntmps143
  go_wp2_with fail
  obtain ⟨W1, hW1⟩ : ∃ W, (w.alloc (.cells #[.int .i64 y, .int .i64 m, .int .i64 d] 153)).alloc (.cells #[.int .i64 0, .int .i64 0, .int .i64 0] 153) = W := ⟨_, rfl⟩
  rw [hW1]
  obtain ⟨hb1, hka, hkb⟩ := two_boxes hW1
  clear hW1
  have hR := CRight_any y m d W1 (hw.below hb1)
  rw [h] at hR
  refine hR.mono ?_
  rintro e w2 ⟨rfl, hb2⟩
  have hkb2 := hkb.below hb2 hkb.lt
  have HB2 := Lib.hid (hb1.trans (hb2.mono hb1.size))
  have g0 := hkb2.cell 0
  have g1 := hkb2.cell 1
  have g2 := hkb2.cell 2
  have f0 := hkb2.frozen 0
  have f1 := hkb2.frozen 1
  have f2 := hkb2.frozen 2
  simp at g0 g1 g2
  obtain ⟨s0, s1, s2⟩ := set3 hkb2 (.int .i64 0) (.int .i64 0) (.int .i64 0)
  clear hR hb2 hb1 hka hkb h hw hkb2
  go_wp2_with fail
  exact bodyPost_ret (v := .tuple #[.agg #[.int .i64 0, .int .i64 0, .int .i64 0], .iface 110 (.int .i64 1)]) (by simp [results, Tryz.results143, go_sem, s0, s1, s2, Result.andThen]) rfl ⟨rfl, below3 HB2.out (by omega) _ _ _⟩

set_option maxRecDepth 20000 in
set_option maxHeartbeats 2000000 in
theorem Months_over (y m d n : Int) (h : rightB y m d = true) (t : mon y m n < 0 ∨ 119988 ≤ mon y m n) (w : World) (hw : Lens w) :
    Calls Tryz.prog 143 #[.agg #[.int .i64 y, .int .i64 m, .int .i64 d], .int .i64 n] w fun e w' => e = .returned (.tuple #[.agg #[.int .i64 0, .int .i64 0, .int .i64 0], .iface 110 (.int .i64 12)]) ∧ Below w.heap.size w w' := by
  obtain ⟨y1, y2, m1, m2, d1, d2⟩ := right_in h
  unfold mon at t
  go_enter Tryz.func143, Tryz.ntmps143
  go_wp2_with fail
  obtain ⟨W1, hW1⟩ : ∃ W, (w.alloc (.cells #[.int .i64 y, .int .i64 m, .int .i64 d] 153)).alloc (.cells #[.int .i64 0, .int .i64 0, .int .i64 0] 153) = W := ⟨_, rfl⟩
  rw [hW1]
  obtain ⟨hb1, hka, hkb⟩ := two_boxes hW1
  clear hW1
  have hR := CRight_any y m d W1 (hw.below hb1)
  rw [h] at hR
  refine hR.mono ?_
  rintro e w2 ⟨rfl, hb2⟩
  have hka2 := hka.below hb2 hka.lt
  have hkb2 := hkb.below hb2 hkb.lt
  have HB2 := Lib.hid (hb1.trans (hb2.mono hb1.size))
  have c0 := hka2.cell 0
  have c1 := hka2.cell 1
  have g0 := hkb2.cell 0
  have g1 := hkb2.cell 1
  have g2 := hkb2.cell 2
  have f0 := hkb2.frozen 0
  have f1 := hkb2.frozen 1
  have f2 := hkb2.frozen 2
  simp at g0 g1 g2 c0 c1
  obtain ⟨s0, s1, s2⟩ := set3 hkb2 (.int .i64 0) (.int .i64 0) (.int .i64 0)
  clear hR hb2 hb1 hka hkb h hw hkb2 hka2
  by_cases ht : n < -(12 * (y - 1) + m - 1)
  · clear t
    go_wp2_with fail
    exact bodyPost_ret (v := .tuple #[.agg #[.int .i64 0, .int .i64 0, .int .i64 0], .iface 110 (.int .i64 12)]) (by simp [results, Tryz.results143, go_sem, s0, s1, s2, Result.andThen]) rfl ⟨rfl, below3 HB2.out (by omega) _ _ _⟩
  · have ht2 : 119988 - (12 * (y - 1) + m - 1) ≤ n := by omega
    clear t
    go_wp2_with fail
    exact bodyPost_ret (v := .tuple #[.agg #[.int .i64 0, .int .i64 0, .int .i64 0], .iface 110 (.int .i64 12)]) (by simp [results, Tryz.results143, go_sem, s0, s1, s2, Result.andThen]) rfl ⟨rfl, below3 HB2.out (by omega) _ _ _⟩

theorem keep3 {W : World} {g : Nat} {q : Addr} {v x y z : Value} (h : W.cell? q = some v) (hq : q.block ≠ g) : (((W.setCell ⟨g, 0, none⟩ x).setCell ⟨g, 1, none⟩ y).setCell ⟨g, 2, none⟩ z).cell? q = some v := by
  rw [World.cell?_setCell_other _ _ _ _ (fun e => hq (by subst e; rfl)), World.cell?_setCell_other _ _ _ _ (fun e => hq (by subst e; rfl)), World.cell?_setCell_other _ _ _ _ (fun e => hq (by subst e; rfl))]
  exact h

end Go.Proofs.YtpbfipeinblfgaaGreatDoor
