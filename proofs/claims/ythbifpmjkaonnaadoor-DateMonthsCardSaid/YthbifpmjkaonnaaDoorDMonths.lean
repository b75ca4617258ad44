/-
  DateMonths: the walk. Conditions: the numbers' kinds; errors.errorType and the months' lengths are laid.
-/
import Derived.Test.YthbifpmjkaonnaaDoorDateH
import Derived.Test.YthbifpmjkaonnaaDoorCodeC
namespace Go.Proofs.YthbifpmjkaonnaaDoor
open Go.RowKit

theorem mon_back {y m d n : Int} (h : rightB y m d = true) (t0 : 0 ≤ mon y m n) (t1 : mon y m n < 119988) :
    mon (mY (mon y m n)) (mM (mon y m n)) (-n) = mon y m 0 ∧ 0 ≤ mon y m 0 ∧ mon y m 0 < 119988 ∧ mY (mon y m 0) = y ∧ mM (mon y m 0) = m ∧ ∀ k, mD (mon y m 0) (mD k d) ≤ d := by
  obtain ⟨y1, y2, m1, m2, d1, d2⟩ := right_in h
  have hT : 12 * (y - 1) + (m - 1) + n = mon y m n := rfl
  have h0 : mon y m 0 = 12 * (y - 1) + (m - 1) := by unfold mon; omega
  obtain ⟨u1, u2⟩ := mon_uniq (t := mon y m 0) m1 m2 h0.symm
  generalize mon y m n = T at *
  have e := mon_of T
  have hb : mon (mY T) (mM T) (-n) = 12 * (mY T - 1) + (mM T - 1) + -n := rfl
  refine ⟨by omega, by omega, by omega, u1.symm, u2.symm, fun k => ?_⟩
  have a : mD (mon y m 0) (mD k d) ≤ mD k d := Int.min_le_left _ _
  have b : mD k d ≤ d := Int.min_le_left _ _
  omega

set_option maxRecDepth 20000 in
set_option maxHeartbeats 4000000 in
theorem Months_bad (y m d n : Int) (h : rightB y m d = false) (hn : -9223372036854775808 ≤ n ∧ n ≤ 9223372036854775807) (w : World) (hw : Lens w) (hg : Laid w) : Calls Tryd.prog 6 #[.agg #[.int .i64 y, .int .i64 m, .int .i64 d], .int .i64 n] w fun e w' => e = .returned (.bool true) ∧ Below w.heap.size w w' := by
  have HW := Lib.hid hw
  have HG := Lib.hid hg
  clear hw hg
  have hM := fun W (hW : Lens W) => Months_arg y m d n h W hW
  have hR := fun W => RRight_any y m d W
  rw [h] at hR
  clear h
  go_enter Tryd.func6, Tryd.ntmps6
  go_wp2_with fail
  have HQ0 := Lib.hid (Blk.new w 40 #[.int .i64 y, .int .i64 m, .int .i64 d])
  have HB0 := Lib.hid (below_alloc w (.cells #[.int .i64 y, .int .i64 m, .int .i64 d] 40))
  refine (awake5 _ (HW.out.below HB0.out)).mono ?_
  rintro e w1 ⟨rfl, hb1⟩
  have HQ1_0 := Lib.hid (HQ0.out.below hb1 HQ0.out.lt)
  have HB1 := Lib.hid (HB0.out.trans (hb1.mono HB0.out.size))
  clear hb1
  have c1_0_0 := HQ1_0.out.cell 0
  have c1_0_1 := HQ1_0.out.cell 1
  have c1_0_2 := HQ1_0.out.cell 2
  have z1_0 := HQ1_0.out.lt
  simp at c1_0_0 c1_0_1 c1_0_2
  go_wp2_with fail
  have HQ2_0 := Lib.hid (HQ1_0.out.alloc (.cells #[.int .i64 y, .int .i64 m, .int .i64 d] 46))
  have HQ2_1 := Lib.hid (Blk.new w1 46 #[.int .i64 y, .int .i64 m, .int .i64 d])
  have HB2 := Lib.hid (HB1.out.alloc HB1.out.size (.cells #[.int .i64 y, .int .i64 m, .int .i64 d] 46))
  refine (hM _ (HW.out.below HB2.out)).mono ?_
  rintro e w3 ⟨rfl, hb3⟩
  have HQ3_0 := Lib.hid (HQ2_0.out.below hb3 HQ2_0.out.lt)
  have HQ3_1 := Lib.hid (HQ2_1.out.below hb3 HQ2_1.out.lt)
  have HB3 := Lib.hid (HB2.out.trans (hb3.mono HB2.out.size))
  clear hb3 c1_0_0 c1_0_1 c1_0_2 z1_0
  have c3_0_0 := HQ3_0.out.cell 0
  have c3_0_1 := HQ3_0.out.cell 1
  have c3_0_2 := HQ3_0.out.cell 2
  have z3_0 := HQ3_0.out.lt
  have c3_1_0 := HQ3_1.out.cell 0
  have c3_1_1 := HQ3_1.out.cell 1
  have c3_1_2 := HQ3_1.out.cell 2
  have z3_1 := HQ3_1.out.lt
  simp at c3_0_0 c3_0_1 c3_0_2 c3_1_0 c3_1_1 c3_1_2
  go_wp2_with fail
  have HQ4_0 := Lib.hid (HQ3_0.out.alloc (.cells #[.int .i64 0, .int .i64 0, .int .i64 0] 40))
  have HQ4_1 := Lib.hid (HQ3_1.out.alloc (.cells #[.int .i64 0, .int .i64 0, .int .i64 0] 40))
  have HQ4_2 := Lib.hid (Blk.new w3 40 #[.int .i64 0, .int .i64 0, .int .i64 0])
  have HB4 := Lib.hid (HB3.out.alloc HB3.out.size (.cells #[.int .i64 0, .int .i64 0, .int .i64 0] 40))
  refine (hR _).mono ?_
  rintro e w5 ⟨rfl, hb5⟩
  have HQ5_0 := Lib.hid (HQ4_0.out.below hb5 HQ4_0.out.lt)
  have HQ5_1 := Lib.hid (HQ4_1.out.below hb5 HQ4_1.out.lt)
  have HQ5_2 := Lib.hid (HQ4_2.out.below hb5 HQ4_2.out.lt)
  have HB5 := Lib.hid (HB4.out.trans (hb5.mono HB4.out.size))
  clear hb5 c3_0_0 c3_0_1 c3_0_2 z3_0 c3_1_0 c3_1_1 c3_1_2 z3_1
  have c5_0_0 := HQ5_0.out.cell 0
  have c5_0_1 := HQ5_0.out.cell 1
  have c5_0_2 := HQ5_0.out.cell 2
  have z5_0 := HQ5_0.out.lt
  have c5_1_0 := HQ5_1.out.cell 0
  have c5_1_1 := HQ5_1.out.cell 1
  have c5_1_2 := HQ5_1.out.cell 2
  have z5_1 := HQ5_1.out.lt
  have c5_2_0 := HQ5_2.out.cell 0
  have c5_2_1 := HQ5_2.out.cell 1
  have c5_2_2 := HQ5_2.out.cell 2
  have z5_2 := HQ5_2.out.lt
  simp at c5_0_0 c5_0_1 c5_0_2 c5_1_0 c5_1_1 c5_1_2 c5_2_0 c5_2_1 c5_2_2
  go_wp2_with fail
  refine (Code_errno 1 _ (HG.out.below HB5.out)).mono ?_
  rintro e w6 ⟨rfl, hb6⟩
  have HQ6_0 := Lib.hid (HQ5_0.out.below hb6 HQ5_0.out.lt)
  have HQ6_1 := Lib.hid (HQ5_1.out.below hb6 HQ5_1.out.lt)
  have HQ6_2 := Lib.hid (HQ5_2.out.below hb6 HQ5_2.out.lt)
  have HB6 := Lib.hid (HB5.out.trans (hb6.mono HB5.out.size))
  clear hb6 c5_0_0 c5_0_1 c5_0_2 z5_0 c5_1_0 c5_1_1 c5_1_2 z5_1 c5_2_0 c5_2_1 c5_2_2 z5_2
  have c6_0_0 := HQ6_0.out.cell 0
  have c6_0_1 := HQ6_0.out.cell 1
  have c6_0_2 := HQ6_0.out.cell 2
  have z6_0 := HQ6_0.out.lt
  have c6_1_0 := HQ6_1.out.cell 0
  have c6_1_1 := HQ6_1.out.cell 1
  have c6_1_2 := HQ6_1.out.cell 2
  have z6_1 := HQ6_1.out.lt
  have c6_2_0 := HQ6_2.out.cell 0
  have c6_2_1 := HQ6_2.out.cell 1
  have c6_2_2 := HQ6_2.out.cell 2
  have z6_2 := HQ6_2.out.lt
  simp at c6_0_0 c6_0_1 c6_0_2 c6_1_0 c6_1_1 c6_1_2 c6_2_0 c6_2_1 c6_2_2
  go_wp2_with fail
  go_ret
  exact ⟨rfl, HB6.out⟩

set_option maxRecDepth 20000 in
set_option maxHeartbeats 4000000 in
theorem Months_far_in_lo (y m d n : Int) (h : rightB y m d = true) (t0 : 0 ≤ mon y m n) (t1 : mon y m n < 119988) (hf : n < -1500) (hn : -9223372036854775808 ≤ n ∧ n ≤ 9223372036854775807) (w : World) (hw : Lens w) (hg : Laid w) : Calls Tryd.prog 6 #[.agg #[.int .i64 y, .int .i64 m, .int .i64 d], .int .i64 n] w fun e w' => e = .returned (.bool true) ∧ Below w.heap.size w w' := by
  have HW := Lib.hid hw
  have HG := Lib.hid hg
  clear hw hg
  have hM := fun W (hW : Lens W) => Months_ok y m d n h t0 t1 W hW
  have hR := fun W => RRight_any y m d W
  obtain ⟨y1, y2, m1, m2, d1, d2⟩ := right_in h
  have hr := mon_right t0 t1 d1
  have hC := fun W (hW : Lens W) => CRight_any (mY (mon y m n)) (mM (mon y m n)) (mD (mon y m n) d) W hW
  rw [h] at hR
  rw [hr] at hC
  clear h hr t0 t1
  generalize mY (mon y m n) = Y at *
  generalize mM (mon y m n) = M at *
  generalize mD (mon y m n) d = D at *
  go_enter Tryd.func6, Tryd.ntmps6
  go_wp2_with fail
  have HQ0 := Lib.hid (Blk.new w 40 #[.int .i64 y, .int .i64 m, .int .i64 d])
  have HB0 := Lib.hid (below_alloc w (.cells #[.int .i64 y, .int .i64 m, .int .i64 d] 40))
  refine (awake5 _ (HW.out.below HB0.out)).mono ?_
  rintro e w1 ⟨rfl, hb1⟩
  have HQ1_0 := Lib.hid (HQ0.out.below hb1 HQ0.out.lt)
  have HB1 := Lib.hid (HB0.out.trans (hb1.mono HB0.out.size))
  clear hb1
  have c1_0_0 := HQ1_0.out.cell 0
  have c1_0_1 := HQ1_0.out.cell 1
  have c1_0_2 := HQ1_0.out.cell 2
  have z1_0 := HQ1_0.out.lt
  simp at c1_0_0 c1_0_1 c1_0_2
  go_wp2_with fail
  have HQ2_0 := Lib.hid (HQ1_0.out.alloc (.cells #[.int .i64 y, .int .i64 m, .int .i64 d] 46))
  have HQ2_1 := Lib.hid (Blk.new w1 46 #[.int .i64 y, .int .i64 m, .int .i64 d])
  have HB2 := Lib.hid (HB1.out.alloc HB1.out.size (.cells #[.int .i64 y, .int .i64 m, .int .i64 d] 46))
  refine (hM _ (HW.out.below HB2.out)).mono ?_
  rintro e w3 ⟨rfl, hb3⟩
  have HQ3_0 := Lib.hid (HQ2_0.out.below hb3 HQ2_0.out.lt)
  have HQ3_1 := Lib.hid (HQ2_1.out.below hb3 HQ2_1.out.lt)
  have HB3 := Lib.hid (HB2.out.trans (hb3.mono HB2.out.size))
  clear hb3 c1_0_0 c1_0_1 c1_0_2 z1_0
  have c3_0_0 := HQ3_0.out.cell 0
  have c3_0_1 := HQ3_0.out.cell 1
  have c3_0_2 := HQ3_0.out.cell 2
  have z3_0 := HQ3_0.out.lt
  have c3_1_0 := HQ3_1.out.cell 0
  have c3_1_1 := HQ3_1.out.cell 1
  have c3_1_2 := HQ3_1.out.cell 2
  have z3_1 := HQ3_1.out.lt
  simp at c3_0_0 c3_0_1 c3_0_2 c3_1_0 c3_1_1 c3_1_2
  go_wp2_with fail
  have HQ4_0 := Lib.hid (HQ3_0.out.alloc (.cells #[.int .i64 Y, .int .i64 M, .int .i64 D] 40))
  have HQ4_1 := Lib.hid (HQ3_1.out.alloc (.cells #[.int .i64 Y, .int .i64 M, .int .i64 D] 40))
  have HQ4_2 := Lib.hid (Blk.new w3 40 #[.int .i64 Y, .int .i64 M, .int .i64 D])
  have HB4 := Lib.hid (HB3.out.alloc HB3.out.size (.cells #[.int .i64 Y, .int .i64 M, .int .i64 D] 40))
  refine (hR _).mono ?_
  rintro e w5 ⟨rfl, hb5⟩
  have HQ5_0 := Lib.hid (HQ4_0.out.below hb5 HQ4_0.out.lt)
  have HQ5_1 := Lib.hid (HQ4_1.out.below hb5 HQ4_1.out.lt)
  have HQ5_2 := Lib.hid (HQ4_2.out.below hb5 HQ4_2.out.lt)
  have HB5 := Lib.hid (HB4.out.trans (hb5.mono HB4.out.size))
  clear hb5 c3_0_0 c3_0_1 c3_0_2 z3_0 c3_1_0 c3_1_1 c3_1_2 z3_1
  have c5_0_0 := HQ5_0.out.cell 0
  have c5_0_1 := HQ5_0.out.cell 1
  have c5_0_2 := HQ5_0.out.cell 2
  have z5_0 := HQ5_0.out.lt
  have c5_1_0 := HQ5_1.out.cell 0
  have c5_1_1 := HQ5_1.out.cell 1
  have c5_1_2 := HQ5_1.out.cell 2
  have z5_1 := HQ5_1.out.lt
  have c5_2_0 := HQ5_2.out.cell 0
  have c5_2_1 := HQ5_2.out.cell 1
  have c5_2_2 := HQ5_2.out.cell 2
  have z5_2 := HQ5_2.out.lt
  simp at c5_0_0 c5_0_1 c5_0_2 c5_1_0 c5_1_1 c5_1_2 c5_2_0 c5_2_1 c5_2_2
  go_wp2_with fail
  clear c5_0_0 c5_0_1 c5_0_2 z5_0 c5_1_0 c5_1_1 c5_1_2 z5_1 c5_2_0 c5_2_1 c5_2_2 z5_2
  have q6_0_0 := cell_regrown (HQ5_0.out.cell 0)
  have q6_0_1 := cell_regrown (HQ5_0.out.cell 1)
  have q6_0_2 := cell_regrown (HQ5_0.out.cell 2)
  have q6_1_0 := cell_regrown (HQ5_1.out.cell 0)
  have q6_1_1 := cell_regrown (HQ5_1.out.cell 1)
  have q6_1_2 := cell_regrown (HQ5_1.out.cell 2)
  have q6_2_0 := cell_regrown (HQ5_2.out.cell 0)
  have q6_2_1 := cell_regrown (HQ5_2.out.cell 1)
  have q6_2_2 := cell_regrown (HQ5_2.out.cell 2)
  simp at q6_0_0 q6_0_1 q6_0_2 q6_1_0 q6_1_1 q6_1_2 q6_2_0 q6_2_1 q6_2_2
  have A6_0 := fun (dd : Nat) (os : Array Obj) => Calls.regrown_of (hC (Go.Sort.grow (redrawn w5 dd) os) ((HW.out.below HB5.out).below (below_regrown w5 dd os)))
  have A6_1 := fun (dd : Nat) (os : Array Obj) => Calls.regrown_of (Code_errno 12 (Go.Sort.grow (redrawn w5 dd) os) ((HG.out.below HB5.out).below (below_regrown w5 dd os)))
  refine wp_region_quiet_below (by kernel_rfl) (by kernel_rfl) ?_
  repeat (go_big_quiet_step (first | (go_at_call 30; exact A6_0 _ _) | (go_at_call 20; exact A6_1 _ _)))
  refine wpQuiet_nil ?_
  intro w6 hw6
  have hb6 : Below w5.heap.size w5 w6 := by
    obtain ⟨p, rfl⟩ := hw6
    exact below_regrown _ _ _
  clear hw6 q6_0_0 q6_0_1 q6_0_2 q6_1_0 q6_1_1 q6_1_2 q6_2_0 q6_2_1 q6_2_2 A6_0 A6_1
  have HQ6_0 := Lib.hid (HQ5_0.out.below hb6 HQ5_0.out.lt)
  have HQ6_1 := Lib.hid (HQ5_1.out.below hb6 HQ5_1.out.lt)
  have HQ6_2 := Lib.hid (HQ5_2.out.below hb6 HQ5_2.out.lt)
  have HB6 := Lib.hid (HB5.out.trans (hb6.mono HB5.out.size))
  clear hb6
  have c6_0_0 := HQ6_0.out.cell 0
  have c6_0_1 := HQ6_0.out.cell 1
  have c6_0_2 := HQ6_0.out.cell 2
  have z6_0 := HQ6_0.out.lt
  have c6_1_0 := HQ6_1.out.cell 0
  have c6_1_1 := HQ6_1.out.cell 1
  have c6_1_2 := HQ6_1.out.cell 2
  have z6_1 := HQ6_1.out.lt
  have c6_2_0 := HQ6_2.out.cell 0
  have c6_2_1 := HQ6_2.out.cell 1
  have c6_2_2 := HQ6_2.out.cell 2
  have z6_2 := HQ6_2.out.lt
  simp at c6_0_0 c6_0_1 c6_0_2 c6_1_0 c6_1_1 c6_1_2 c6_2_0 c6_2_1 c6_2_2
  go_wp2_with fail
  go_ret
  exact ⟨by simp, HB6.out⟩

set_option maxRecDepth 20000 in
set_option maxHeartbeats 4000000 in
theorem Months_far_in_hi (y m d n : Int) (h : rightB y m d = true) (t0 : 0 ≤ mon y m n) (t1 : mon y m n < 119988) (hf : 1500 < n) (hn : -9223372036854775808 ≤ n ∧ n ≤ 9223372036854775807) (w : World) (hw : Lens w) (hg : Laid w) : Calls Tryd.prog 6 #[.agg #[.int .i64 y, .int .i64 m, .int .i64 d], .int .i64 n] w fun e w' => e = .returned (.bool true) ∧ Below w.heap.size w w' := by
  have HW := Lib.hid hw
  have HG := Lib.hid hg
  clear hw hg
  have hM := fun W (hW : Lens W) => Months_ok y m d n h t0 t1 W hW
  have hR := fun W => RRight_any y m d W
  obtain ⟨y1, y2, m1, m2, d1, d2⟩ := right_in h
  have hr := mon_right t0 t1 d1
  have hC := fun W (hW : Lens W) => CRight_any (mY (mon y m n)) (mM (mon y m n)) (mD (mon y m n) d) W hW
  rw [h] at hR
  rw [hr] at hC
  clear h hr t0 t1
  generalize mY (mon y m n) = Y at *
  generalize mM (mon y m n) = M at *
  generalize mD (mon y m n) d = D at *
  go_enter Tryd.func6, Tryd.ntmps6
  go_wp2_with fail
  have HQ0 := Lib.hid (Blk.new w 40 #[.int .i64 y, .int .i64 m, .int .i64 d])
  have HB0 := Lib.hid (below_alloc w (.cells #[.int .i64 y, .int .i64 m, .int .i64 d] 40))
  refine (awake5 _ (HW.out.below HB0.out)).mono ?_
  rintro e w1 ⟨rfl, hb1⟩
  have HQ1_0 := Lib.hid (HQ0.out.below hb1 HQ0.out.lt)
  have HB1 := Lib.hid (HB0.out.trans (hb1.mono HB0.out.size))
  clear hb1
  have c1_0_0 := HQ1_0.out.cell 0
  have c1_0_1 := HQ1_0.out.cell 1
  have c1_0_2 := HQ1_0.out.cell 2
  have z1_0 := HQ1_0.out.lt
  simp at c1_0_0 c1_0_1 c1_0_2
  go_wp2_with fail
  have HQ2_0 := Lib.hid (HQ1_0.out.alloc (.cells #[.int .i64 y, .int .i64 m, .int .i64 d] 46))
  have HQ2_1 := Lib.hid (Blk.new w1 46 #[.int .i64 y, .int .i64 m, .int .i64 d])
  have HB2 := Lib.hid (HB1.out.alloc HB1.out.size (.cells #[.int .i64 y, .int .i64 m, .int .i64 d] 46))
  refine (hM _ (HW.out.below HB2.out)).mono ?_
  rintro e w3 ⟨rfl, hb3⟩
  have HQ3_0 := Lib.hid (HQ2_0.out.below hb3 HQ2_0.out.lt)
  have HQ3_1 := Lib.hid (HQ2_1.out.below hb3 HQ2_1.out.lt)
  have HB3 := Lib.hid (HB2.out.trans (hb3.mono HB2.out.size))
  clear hb3 c1_0_0 c1_0_1 c1_0_2 z1_0
  have c3_0_0 := HQ3_0.out.cell 0
  have c3_0_1 := HQ3_0.out.cell 1
  have c3_0_2 := HQ3_0.out.cell 2
  have z3_0 := HQ3_0.out.lt
  have c3_1_0 := HQ3_1.out.cell 0
  have c3_1_1 := HQ3_1.out.cell 1
  have c3_1_2 := HQ3_1.out.cell 2
  have z3_1 := HQ3_1.out.lt
  simp at c3_0_0 c3_0_1 c3_0_2 c3_1_0 c3_1_1 c3_1_2
  go_wp2_with fail
  have HQ4_0 := Lib.hid (HQ3_0.out.alloc (.cells #[.int .i64 Y, .int .i64 M, .int .i64 D] 40))
  have HQ4_1 := Lib.hid (HQ3_1.out.alloc (.cells #[.int .i64 Y, .int .i64 M, .int .i64 D] 40))
  have HQ4_2 := Lib.hid (Blk.new w3 40 #[.int .i64 Y, .int .i64 M, .int .i64 D])
  have HB4 := Lib.hid (HB3.out.alloc HB3.out.size (.cells #[.int .i64 Y, .int .i64 M, .int .i64 D] 40))
  refine (hR _).mono ?_
  rintro e w5 ⟨rfl, hb5⟩
  have HQ5_0 := Lib.hid (HQ4_0.out.below hb5 HQ4_0.out.lt)
  have HQ5_1 := Lib.hid (HQ4_1.out.below hb5 HQ4_1.out.lt)
  have HQ5_2 := Lib.hid (HQ4_2.out.below hb5 HQ4_2.out.lt)
  have HB5 := Lib.hid (HB4.out.trans (hb5.mono HB4.out.size))
  clear hb5 c3_0_0 c3_0_1 c3_0_2 z3_0 c3_1_0 c3_1_1 c3_1_2 z3_1
  have c5_0_0 := HQ5_0.out.cell 0
  have c5_0_1 := HQ5_0.out.cell 1
  have c5_0_2 := HQ5_0.out.cell 2
  have z5_0 := HQ5_0.out.lt
  have c5_1_0 := HQ5_1.out.cell 0
  have c5_1_1 := HQ5_1.out.cell 1
  have c5_1_2 := HQ5_1.out.cell 2
  have z5_1 := HQ5_1.out.lt
  have c5_2_0 := HQ5_2.out.cell 0
  have c5_2_1 := HQ5_2.out.cell 1
  have c5_2_2 := HQ5_2.out.cell 2
  have z5_2 := HQ5_2.out.lt
  simp at c5_0_0 c5_0_1 c5_0_2 c5_1_0 c5_1_1 c5_1_2 c5_2_0 c5_2_1 c5_2_2
  go_wp2_with fail
  clear c5_0_0 c5_0_1 c5_0_2 z5_0 c5_1_0 c5_1_1 c5_1_2 z5_1 c5_2_0 c5_2_1 c5_2_2 z5_2
  have q6_0_0 := cell_regrown (HQ5_0.out.cell 0)
  have q6_0_1 := cell_regrown (HQ5_0.out.cell 1)
  have q6_0_2 := cell_regrown (HQ5_0.out.cell 2)
  have q6_1_0 := cell_regrown (HQ5_1.out.cell 0)
  have q6_1_1 := cell_regrown (HQ5_1.out.cell 1)
  have q6_1_2 := cell_regrown (HQ5_1.out.cell 2)
  have q6_2_0 := cell_regrown (HQ5_2.out.cell 0)
  have q6_2_1 := cell_regrown (HQ5_2.out.cell 1)
  have q6_2_2 := cell_regrown (HQ5_2.out.cell 2)
  simp at q6_0_0 q6_0_1 q6_0_2 q6_1_0 q6_1_1 q6_1_2 q6_2_0 q6_2_1 q6_2_2
  have A6_0 := fun (dd : Nat) (os : Array Obj) => Calls.regrown_of (hC (Go.Sort.grow (redrawn w5 dd) os) ((HW.out.below HB5.out).below (below_regrown w5 dd os)))
  have A6_1 := fun (dd : Nat) (os : Array Obj) => Calls.regrown_of (Code_errno 12 (Go.Sort.grow (redrawn w5 dd) os) ((HG.out.below HB5.out).below (below_regrown w5 dd os)))
  refine wp_region_quiet_below (by kernel_rfl) (by kernel_rfl) ?_
  repeat (go_big_quiet_step (first | (go_at_call 30; exact A6_0 _ _) | (go_at_call 20; exact A6_1 _ _)))
  refine wpQuiet_nil ?_
  intro w6 hw6
  have hb6 : Below w5.heap.size w5 w6 := by
    obtain ⟨p, rfl⟩ := hw6
    exact below_regrown _ _ _
  clear hw6 q6_0_0 q6_0_1 q6_0_2 q6_1_0 q6_1_1 q6_1_2 q6_2_0 q6_2_1 q6_2_2 A6_0 A6_1
  have HQ6_0 := Lib.hid (HQ5_0.out.below hb6 HQ5_0.out.lt)
  have HQ6_1 := Lib.hid (HQ5_1.out.below hb6 HQ5_1.out.lt)
  have HQ6_2 := Lib.hid (HQ5_2.out.below hb6 HQ5_2.out.lt)
  have HB6 := Lib.hid (HB5.out.trans (hb6.mono HB5.out.size))
  clear hb6
  have c6_0_0 := HQ6_0.out.cell 0
  have c6_0_1 := HQ6_0.out.cell 1
  have c6_0_2 := HQ6_0.out.cell 2
  have z6_0 := HQ6_0.out.lt
  have c6_1_0 := HQ6_1.out.cell 0
  have c6_1_1 := HQ6_1.out.cell 1
  have c6_1_2 := HQ6_1.out.cell 2
  have z6_1 := HQ6_1.out.lt
  have c6_2_0 := HQ6_2.out.cell 0
  have c6_2_1 := HQ6_2.out.cell 1
  have c6_2_2 := HQ6_2.out.cell 2
  have z6_2 := HQ6_2.out.lt
  simp at c6_0_0 c6_0_1 c6_0_2 c6_1_0 c6_1_1 c6_1_2 c6_2_0 c6_2_1 c6_2_2
  go_wp2_with fail
  go_ret
  exact ⟨by simp, HB6.out⟩

set_option maxRecDepth 20000 in
set_option maxHeartbeats 4000000 in
theorem Months_far_over_lo (y m d n : Int) (h : rightB y m d = true) (t0 : mon y m n < 0 ∨ 119988 ≤ mon y m n) (hf : n < -1500) (hn : -9223372036854775808 ≤ n ∧ n ≤ 9223372036854775807) (w : World) (hw : Lens w) (hg : Laid w) : Calls Tryd.prog 6 #[.agg #[.int .i64 y, .int .i64 m, .int .i64 d], .int .i64 n] w fun e w' => e = .returned (.bool true) ∧ Below w.heap.size w w' := by
  have HW := Lib.hid hw
  have HG := Lib.hid hg
  clear hw hg
  have hM := fun W (hW : Lens W) => Months_over y m d n h t0 W hW
  have hR := fun W => RRight_any y m d W
  have hC := fun W (hW : Lens W) => CRight_any 0 0 0 W hW
  have hr : rightB 0 0 0 = false := by decide
  rw [h] at hR
  rw [hr] at hC
  clear h hr t0
  go_enter Tryd.func6, Tryd.ntmps6
  go_wp2_with fail
  have HQ0 := Lib.hid (Blk.new w 40 #[.int .i64 y, .int .i64 m, .int .i64 d])
  have HB0 := Lib.hid (below_alloc w (.cells #[.int .i64 y, .int .i64 m, .int .i64 d] 40))
  refine (awake5 _ (HW.out.below HB0.out)).mono ?_
  rintro e w1 ⟨rfl, hb1⟩
  have HQ1_0 := Lib.hid (HQ0.out.below hb1 HQ0.out.lt)
  have HB1 := Lib.hid (HB0.out.trans (hb1.mono HB0.out.size))
  clear hb1
  have c1_0_0 := HQ1_0.out.cell 0
  have c1_0_1 := HQ1_0.out.cell 1
  have c1_0_2 := HQ1_0.out.cell 2
  have z1_0 := HQ1_0.out.lt
  simp at c1_0_0 c1_0_1 c1_0_2
  go_wp2_with fail
  have HQ2_0 := Lib.hid (HQ1_0.out.alloc (.cells #[.int .i64 y, .int .i64 m, .int .i64 d] 46))
  have HQ2_1 := Lib.hid (Blk.new w1 46 #[.int .i64 y, .int .i64 m, .int .i64 d])
  have HB2 := Lib.hid (HB1.out.alloc HB1.out.size (.cells #[.int .i64 y, .int .i64 m, .int .i64 d] 46))
  refine (hM _ (HW.out.below HB2.out)).mono ?_
  rintro e w3 ⟨rfl, hb3⟩
  have HQ3_0 := Lib.hid (HQ2_0.out.below hb3 HQ2_0.out.lt)
  have HQ3_1 := Lib.hid (HQ2_1.out.below hb3 HQ2_1.out.lt)
  have HB3 := Lib.hid (HB2.out.trans (hb3.mono HB2.out.size))
  clear hb3 c1_0_0 c1_0_1 c1_0_2 z1_0
  have c3_0_0 := HQ3_0.out.cell 0
  have c3_0_1 := HQ3_0.out.cell 1
  have c3_0_2 := HQ3_0.out.cell 2
  have z3_0 := HQ3_0.out.lt
  have c3_1_0 := HQ3_1.out.cell 0
  have c3_1_1 := HQ3_1.out.cell 1
  have c3_1_2 := HQ3_1.out.cell 2
  have z3_1 := HQ3_1.out.lt
  simp at c3_0_0 c3_0_1 c3_0_2 c3_1_0 c3_1_1 c3_1_2
  go_wp2_with fail
  have HQ4_0 := Lib.hid (HQ3_0.out.alloc (.cells #[.int .i64 0, .int .i64 0, .int .i64 0] 40))
  have HQ4_1 := Lib.hid (HQ3_1.out.alloc (.cells #[.int .i64 0, .int .i64 0, .int .i64 0] 40))
  have HQ4_2 := Lib.hid (Blk.new w3 40 #[.int .i64 0, .int .i64 0, .int .i64 0])
  have HB4 := Lib.hid (HB3.out.alloc HB3.out.size (.cells #[.int .i64 0, .int .i64 0, .int .i64 0] 40))
  refine (hR _).mono ?_
  rintro e w5 ⟨rfl, hb5⟩
  have HQ5_0 := Lib.hid (HQ4_0.out.below hb5 HQ4_0.out.lt)
  have HQ5_1 := Lib.hid (HQ4_1.out.below hb5 HQ4_1.out.lt)
  have HQ5_2 := Lib.hid (HQ4_2.out.below hb5 HQ4_2.out.lt)
  have HB5 := Lib.hid (HB4.out.trans (hb5.mono HB4.out.size))
  clear hb5 c3_0_0 c3_0_1 c3_0_2 z3_0 c3_1_0 c3_1_1 c3_1_2 z3_1
  have c5_0_0 := HQ5_0.out.cell 0
  have c5_0_1 := HQ5_0.out.cell 1
  have c5_0_2 := HQ5_0.out.cell 2
  have z5_0 := HQ5_0.out.lt
  have c5_1_0 := HQ5_1.out.cell 0
  have c5_1_1 := HQ5_1.out.cell 1
  have c5_1_2 := HQ5_1.out.cell 2
  have z5_1 := HQ5_1.out.lt
  have c5_2_0 := HQ5_2.out.cell 0
  have c5_2_1 := HQ5_2.out.cell 1
  have c5_2_2 := HQ5_2.out.cell 2
  have z5_2 := HQ5_2.out.lt
  simp at c5_0_0 c5_0_1 c5_0_2 c5_1_0 c5_1_1 c5_1_2 c5_2_0 c5_2_1 c5_2_2
  go_wp2_with fail
  clear c5_0_0 c5_0_1 c5_0_2 z5_0 c5_1_0 c5_1_1 c5_1_2 z5_1 c5_2_0 c5_2_1 c5_2_2 z5_2
  have q6_0_0 := cell_regrown (HQ5_0.out.cell 0)
  have q6_0_1 := cell_regrown (HQ5_0.out.cell 1)
  have q6_0_2 := cell_regrown (HQ5_0.out.cell 2)
  have q6_1_0 := cell_regrown (HQ5_1.out.cell 0)
  have q6_1_1 := cell_regrown (HQ5_1.out.cell 1)
  have q6_1_2 := cell_regrown (HQ5_1.out.cell 2)
  have q6_2_0 := cell_regrown (HQ5_2.out.cell 0)
  have q6_2_1 := cell_regrown (HQ5_2.out.cell 1)
  have q6_2_2 := cell_regrown (HQ5_2.out.cell 2)
  simp at q6_0_0 q6_0_1 q6_0_2 q6_1_0 q6_1_1 q6_1_2 q6_2_0 q6_2_1 q6_2_2
  have A6_0 := fun (dd : Nat) (os : Array Obj) => Calls.regrown_of (hC (Go.Sort.grow (redrawn w5 dd) os) ((HW.out.below HB5.out).below (below_regrown w5 dd os)))
  have A6_1 := fun (dd : Nat) (os : Array Obj) => Calls.regrown_of (Code_errno 12 (Go.Sort.grow (redrawn w5 dd) os) ((HG.out.below HB5.out).below (below_regrown w5 dd os)))
  refine wp_region_quiet_below (by kernel_rfl) (by kernel_rfl) ?_
  repeat (go_big_quiet_step (first | (go_at_call 30; exact A6_0 _ _) | (go_at_call 20; exact A6_1 _ _)))
  refine wpQuiet_nil ?_
  intro w6 hw6
  have hb6 : Below w5.heap.size w5 w6 := by
    obtain ⟨p, rfl⟩ := hw6
    exact below_regrown _ _ _
  clear hw6 q6_0_0 q6_0_1 q6_0_2 q6_1_0 q6_1_1 q6_1_2 q6_2_0 q6_2_1 q6_2_2 A6_0 A6_1
  have HQ6_0 := Lib.hid (HQ5_0.out.below hb6 HQ5_0.out.lt)
  have HQ6_1 := Lib.hid (HQ5_1.out.below hb6 HQ5_1.out.lt)
  have HQ6_2 := Lib.hid (HQ5_2.out.below hb6 HQ5_2.out.lt)
  have HB6 := Lib.hid (HB5.out.trans (hb6.mono HB5.out.size))
  clear hb6
  have c6_0_0 := HQ6_0.out.cell 0
  have c6_0_1 := HQ6_0.out.cell 1
  have c6_0_2 := HQ6_0.out.cell 2
  have z6_0 := HQ6_0.out.lt
  have c6_1_0 := HQ6_1.out.cell 0
  have c6_1_1 := HQ6_1.out.cell 1
  have c6_1_2 := HQ6_1.out.cell 2
  have z6_1 := HQ6_1.out.lt
  have c6_2_0 := HQ6_2.out.cell 0
  have c6_2_1 := HQ6_2.out.cell 1
  have c6_2_2 := HQ6_2.out.cell 2
  have z6_2 := HQ6_2.out.lt
  simp at c6_0_0 c6_0_1 c6_0_2 c6_1_0 c6_1_1 c6_1_2 c6_2_0 c6_2_1 c6_2_2
  go_wp2_with fail
  go_ret
  exact ⟨by simp, HB6.out⟩

set_option maxRecDepth 20000 in
set_option maxHeartbeats 4000000 in
theorem Months_far_over_hi (y m d n : Int) (h : rightB y m d = true) (t0 : mon y m n < 0 ∨ 119988 ≤ mon y m n) (hf : 1500 < n) (hn : -9223372036854775808 ≤ n ∧ n ≤ 9223372036854775807) (w : World) (hw : Lens w) (hg : Laid w) : Calls Tryd.prog 6 #[.agg #[.int .i64 y, .int .i64 m, .int .i64 d], .int .i64 n] w fun e w' => e = .returned (.bool true) ∧ Below w.heap.size w w' := by
  have HW := Lib.hid hw
  have HG := Lib.hid hg
  clear hw hg
  have hM := fun W (hW : Lens W) => Months_over y m d n h t0 W hW
  have hR := fun W => RRight_any y m d W
  have hC := fun W (hW : Lens W) => CRight_any 0 0 0 W hW
  have hr : rightB 0 0 0 = false := by decide
  rw [h] at hR
  rw [hr] at hC
  clear h hr t0
  go_enter Tryd.func6, Tryd.ntmps6
  go_wp2_with fail
  have HQ0 := Lib.hid (Blk.new w 40 #[.int .i64 y, .int .i64 m, .int .i64 d])
  have HB0 := Lib.hid (below_alloc w (.cells #[.int .i64 y, .int .i64 m, .int .i64 d] 40))
  refine (awake5 _ (HW.out.below HB0.out)).mono ?_
  rintro e w1 ⟨rfl, hb1⟩
  have HQ1_0 := Lib.hid (HQ0.out.below hb1 HQ0.out.lt)
  have HB1 := Lib.hid (HB0.out.trans (hb1.mono HB0.out.size))
  clear hb1
  have c1_0_0 := HQ1_0.out.cell 0
  have c1_0_1 := HQ1_0.out.cell 1
  have c1_0_2 := HQ1_0.out.cell 2
  have z1_0 := HQ1_0.out.lt
  simp at c1_0_0 c1_0_1 c1_0_2
  go_wp2_with fail
  have HQ2_0 := Lib.hid (HQ1_0.out.alloc (.cells #[.int .i64 y, .int .i64 m, .int .i64 d] 46))
  have HQ2_1 := Lib.hid (Blk.new w1 46 #[.int .i64 y, .int .i64 m, .int .i64 d])
  have HB2 := Lib.hid (HB1.out.alloc HB1.out.size (.cells #[.int .i64 y, .int .i64 m, .int .i64 d] 46))
  refine (hM _ (HW.out.below HB2.out)).mono ?_
  rintro e w3 ⟨rfl, hb3⟩
  have HQ3_0 := Lib.hid (HQ2_0.out.below hb3 HQ2_0.out.lt)
  have HQ3_1 := Lib.hid (HQ2_1.out.below hb3 HQ2_1.out.lt)
  have HB3 := Lib.hid (HB2.out.trans (hb3.mono HB2.out.size))
  clear hb3 c1_0_0 c1_0_1 c1_0_2 z1_0
  have c3_0_0 := HQ3_0.out.cell 0
  have c3_0_1 := HQ3_0.out.cell 1
  have c3_0_2 := HQ3_0.out.cell 2
  have z3_0 := HQ3_0.out.lt
  have c3_1_0 := HQ3_1.out.cell 0
  have c3_1_1 := HQ3_1.out.cell 1
  have c3_1_2 := HQ3_1.out.cell 2
  have z3_1 := HQ3_1.out.lt
  simp at c3_0_0 c3_0_1 c3_0_2 c3_1_0 c3_1_1 c3_1_2
  go_wp2_with fail
  have HQ4_0 := Lib.hid (HQ3_0.out.alloc (.cells #[.int .i64 0, .int .i64 0, .int .i64 0] 40))
  have HQ4_1 := Lib.hid (HQ3_1.out.alloc (.cells #[.int .i64 0, .int .i64 0, .int .i64 0] 40))
  have HQ4_2 := Lib.hid (Blk.new w3 40 #[.int .i64 0, .int .i64 0, .int .i64 0])
  have HB4 := Lib.hid (HB3.out.alloc HB3.out.size (.cells #[.int .i64 0, .int .i64 0, .int .i64 0] 40))
  refine (hR _).mono ?_
  rintro e w5 ⟨rfl, hb5⟩
  have HQ5_0 := Lib.hid (HQ4_0.out.below hb5 HQ4_0.out.lt)
  have HQ5_1 := Lib.hid (HQ4_1.out.below hb5 HQ4_1.out.lt)
  have HQ5_2 := Lib.hid (HQ4_2.out.below hb5 HQ4_2.out.lt)
  have HB5 := Lib.hid (HB4.out.trans (hb5.mono HB4.out.size))
  clear hb5 c3_0_0 c3_0_1 c3_0_2 z3_0 c3_1_0 c3_1_1 c3_1_2 z3_1
  have c5_0_0 := HQ5_0.out.cell 0
  have c5_0_1 := HQ5_0.out.cell 1
  have c5_0_2 := HQ5_0.out.cell 2
  have z5_0 := HQ5_0.out.lt
  have c5_1_0 := HQ5_1.out.cell 0
  have c5_1_1 := HQ5_1.out.cell 1
  have c5_1_2 := HQ5_1.out.cell 2
  have z5_1 := HQ5_1.out.lt
  have c5_2_0 := HQ5_2.out.cell 0
  have c5_2_1 := HQ5_2.out.cell 1
  have c5_2_2 := HQ5_2.out.cell 2
  have z5_2 := HQ5_2.out.lt
  simp at c5_0_0 c5_0_1 c5_0_2 c5_1_0 c5_1_1 c5_1_2 c5_2_0 c5_2_1 c5_2_2
  go_wp2_with fail
  clear c5_0_0 c5_0_1 c5_0_2 z5_0 c5_1_0 c5_1_1 c5_1_2 z5_1 c5_2_0 c5_2_1 c5_2_2 z5_2
  have q6_0_0 := cell_regrown (HQ5_0.out.cell 0)
  have q6_0_1 := cell_regrown (HQ5_0.out.cell 1)
  have q6_0_2 := cell_regrown (HQ5_0.out.cell 2)
  have q6_1_0 := cell_regrown (HQ5_1.out.cell 0)
  have q6_1_1 := cell_regrown (HQ5_1.out.cell 1)
  have q6_1_2 := cell_regrown (HQ5_1.out.cell 2)
  have q6_2_0 := cell_regrown (HQ5_2.out.cell 0)
  have q6_2_1 := cell_regrown (HQ5_2.out.cell 1)
  have q6_2_2 := cell_regrown (HQ5_2.out.cell 2)
  simp at q6_0_0 q6_0_1 q6_0_2 q6_1_0 q6_1_1 q6_1_2 q6_2_0 q6_2_1 q6_2_2
  have A6_0 := fun (dd : Nat) (os : Array Obj) => Calls.regrown_of (hC (Go.Sort.grow (redrawn w5 dd) os) ((HW.out.below HB5.out).below (below_regrown w5 dd os)))
  have A6_1 := fun (dd : Nat) (os : Array Obj) => Calls.regrown_of (Code_errno 12 (Go.Sort.grow (redrawn w5 dd) os) ((HG.out.below HB5.out).below (below_regrown w5 dd os)))
  refine wp_region_quiet_below (by kernel_rfl) (by kernel_rfl) ?_
  repeat (go_big_quiet_step (first | (go_at_call 30; exact A6_0 _ _) | (go_at_call 20; exact A6_1 _ _)))
  refine wpQuiet_nil ?_
  intro w6 hw6
  have hb6 : Below w5.heap.size w5 w6 := by
    obtain ⟨p, rfl⟩ := hw6
    exact below_regrown _ _ _
  clear hw6 q6_0_0 q6_0_1 q6_0_2 q6_1_0 q6_1_1 q6_1_2 q6_2_0 q6_2_1 q6_2_2 A6_0 A6_1
  have HQ6_0 := Lib.hid (HQ5_0.out.below hb6 HQ5_0.out.lt)
  have HQ6_1 := Lib.hid (HQ5_1.out.below hb6 HQ5_1.out.lt)
  have HQ6_2 := Lib.hid (HQ5_2.out.below hb6 HQ5_2.out.lt)
  have HB6 := Lib.hid (HB5.out.trans (hb6.mono HB5.out.size))
  clear hb6
  have c6_0_0 := HQ6_0.out.cell 0
  have c6_0_1 := HQ6_0.out.cell 1
  have c6_0_2 := HQ6_0.out.cell 2
  have z6_0 := HQ6_0.out.lt
  have c6_1_0 := HQ6_1.out.cell 0
  have c6_1_1 := HQ6_1.out.cell 1
  have c6_1_2 := HQ6_1.out.cell 2
  have z6_1 := HQ6_1.out.lt
  have c6_2_0 := HQ6_2.out.cell 0
  have c6_2_1 := HQ6_2.out.cell 1
  have c6_2_2 := HQ6_2.out.cell 2
  have z6_2 := HQ6_2.out.lt
  simp at c6_0_0 c6_0_1 c6_0_2 c6_1_0 c6_1_1 c6_1_2 c6_2_0 c6_2_1 c6_2_2
  go_wp2_with fail
  go_ret
  exact ⟨by simp, HB6.out⟩

set_option maxRecDepth 20000 in
set_option maxHeartbeats 4000000 in
theorem Months_near_over (y m d n : Int) (h : rightB y m d = true) (t0 : mon y m n < 0 ∨ 119988 ≤ mon y m n) (n0 : -1500 ≤ n) (n1 : n ≤ 1500) (hn : -9223372036854775808 ≤ n ∧ n ≤ 9223372036854775807) (w : World) (hw : Lens w) (hg : Laid w) : Calls Tryd.prog 6 #[.agg #[.int .i64 y, .int .i64 m, .int .i64 d], .int .i64 n] w fun e w' => e = .returned (.bool true) ∧ Below w.heap.size w w' := by
  have HW := Lib.hid hw
  have HG := Lib.hid hg
  clear hw hg
  have hM := fun W (hW : Lens W) => Months_over y m d n h t0 W hW
  have hR := fun W => RRight_any y m d W
  have hRM := fun W => RMonths_any y m d n h n0 n1 W
  rw [if_neg (by omega)] at hRM
  rw [h] at hR
  clear h t0
  go_enter Tryd.func6, Tryd.ntmps6
  go_wp2_with fail
  have HQ0 := Lib.hid (Blk.new w 40 #[.int .i64 y, .int .i64 m, .int .i64 d])
  have HB0 := Lib.hid (below_alloc w (.cells #[.int .i64 y, .int .i64 m, .int .i64 d] 40))
  refine (awake5 _ (HW.out.below HB0.out)).mono ?_
  rintro e w1 ⟨rfl, hb1⟩
  have HQ1_0 := Lib.hid (HQ0.out.below hb1 HQ0.out.lt)
  have HB1 := Lib.hid (HB0.out.trans (hb1.mono HB0.out.size))
  clear hb1
  have c1_0_0 := HQ1_0.out.cell 0
  have c1_0_1 := HQ1_0.out.cell 1
  have c1_0_2 := HQ1_0.out.cell 2
  have z1_0 := HQ1_0.out.lt
  simp at c1_0_0 c1_0_1 c1_0_2
  go_wp2_with fail
  have HQ2_0 := Lib.hid (HQ1_0.out.alloc (.cells #[.int .i64 y, .int .i64 m, .int .i64 d] 46))
  have HQ2_1 := Lib.hid (Blk.new w1 46 #[.int .i64 y, .int .i64 m, .int .i64 d])
  have HB2 := Lib.hid (HB1.out.alloc HB1.out.size (.cells #[.int .i64 y, .int .i64 m, .int .i64 d] 46))
  refine (hM _ (HW.out.below HB2.out)).mono ?_
  rintro e w3 ⟨rfl, hb3⟩
  have HQ3_0 := Lib.hid (HQ2_0.out.below hb3 HQ2_0.out.lt)
  have HQ3_1 := Lib.hid (HQ2_1.out.below hb3 HQ2_1.out.lt)
  have HB3 := Lib.hid (HB2.out.trans (hb3.mono HB2.out.size))
  clear hb3 c1_0_0 c1_0_1 c1_0_2 z1_0
  have c3_0_0 := HQ3_0.out.cell 0
  have c3_0_1 := HQ3_0.out.cell 1
  have c3_0_2 := HQ3_0.out.cell 2
  have z3_0 := HQ3_0.out.lt
  have c3_1_0 := HQ3_1.out.cell 0
  have c3_1_1 := HQ3_1.out.cell 1
  have c3_1_2 := HQ3_1.out.cell 2
  have z3_1 := HQ3_1.out.lt
  simp at c3_0_0 c3_0_1 c3_0_2 c3_1_0 c3_1_1 c3_1_2
  go_wp2_with fail
  have HQ4_0 := Lib.hid (HQ3_0.out.alloc (.cells #[.int .i64 0, .int .i64 0, .int .i64 0] 40))
  have HQ4_1 := Lib.hid (HQ3_1.out.alloc (.cells #[.int .i64 0, .int .i64 0, .int .i64 0] 40))
  have HQ4_2 := Lib.hid (Blk.new w3 40 #[.int .i64 0, .int .i64 0, .int .i64 0])
  have HB4 := Lib.hid (HB3.out.alloc HB3.out.size (.cells #[.int .i64 0, .int .i64 0, .int .i64 0] 40))
  refine (hR _).mono ?_
  rintro e w5 ⟨rfl, hb5⟩
  have HQ5_0 := Lib.hid (HQ4_0.out.below hb5 HQ4_0.out.lt)
  have HQ5_1 := Lib.hid (HQ4_1.out.below hb5 HQ4_1.out.lt)
  have HQ5_2 := Lib.hid (HQ4_2.out.below hb5 HQ4_2.out.lt)
  have HB5 := Lib.hid (HB4.out.trans (hb5.mono HB4.out.size))
  clear hb5 c3_0_0 c3_0_1 c3_0_2 z3_0 c3_1_0 c3_1_1 c3_1_2 z3_1
  have c5_0_0 := HQ5_0.out.cell 0
  have c5_0_1 := HQ5_0.out.cell 1
  have c5_0_2 := HQ5_0.out.cell 2
  have z5_0 := HQ5_0.out.lt
  have c5_1_0 := HQ5_1.out.cell 0
  have c5_1_1 := HQ5_1.out.cell 1
  have c5_1_2 := HQ5_1.out.cell 2
  have z5_1 := HQ5_1.out.lt
  have c5_2_0 := HQ5_2.out.cell 0
  have c5_2_1 := HQ5_2.out.cell 1
  have c5_2_2 := HQ5_2.out.cell 2
  have z5_2 := HQ5_2.out.lt
  simp at c5_0_0 c5_0_1 c5_0_2 c5_1_0 c5_1_1 c5_1_2 c5_2_0 c5_2_1 c5_2_2
  go_wp2_with fail
  refine (hRM _).mono ?_
  rintro e w6 ⟨rfl, hb6⟩
  have HQ6_0 := Lib.hid (HQ5_0.out.below hb6 HQ5_0.out.lt)
  have HQ6_1 := Lib.hid (HQ5_1.out.below hb6 HQ5_1.out.lt)
  have HQ6_2 := Lib.hid (HQ5_2.out.below hb6 HQ5_2.out.lt)
  have HB6 := Lib.hid (HB5.out.trans (hb6.mono HB5.out.size))
  clear hb6 c5_0_0 c5_0_1 c5_0_2 z5_0 c5_1_0 c5_1_1 c5_1_2 z5_1 c5_2_0 c5_2_1 c5_2_2 z5_2
  have c6_0_0 := HQ6_0.out.cell 0
  have c6_0_1 := HQ6_0.out.cell 1
  have c6_0_2 := HQ6_0.out.cell 2
  have z6_0 := HQ6_0.out.lt
  have c6_1_0 := HQ6_1.out.cell 0
  have c6_1_1 := HQ6_1.out.cell 1
  have c6_1_2 := HQ6_1.out.cell 2
  have z6_1 := HQ6_1.out.lt
  have c6_2_0 := HQ6_2.out.cell 0
  have c6_2_1 := HQ6_2.out.cell 1
  have c6_2_2 := HQ6_2.out.cell 2
  have z6_2 := HQ6_2.out.lt
  simp at c6_0_0 c6_0_1 c6_0_2 c6_1_0 c6_1_1 c6_1_2 c6_2_0 c6_2_1 c6_2_2
  go_wp2_with fail
  have HQ7_0 := Lib.hid (HQ6_0.out.alloc (.cells #[.int .i64 0, .int .i64 0, .int .i64 0] 46))
  have HQ7_1 := Lib.hid (HQ6_1.out.alloc (.cells #[.int .i64 0, .int .i64 0, .int .i64 0] 46))
  have HQ7_2 := Lib.hid (HQ6_2.out.alloc (.cells #[.int .i64 0, .int .i64 0, .int .i64 0] 46))
  have HQ7_3 := Lib.hid (Blk.new w6 46 #[.int .i64 0, .int .i64 0, .int .i64 0])
  have HB7 := Lib.hid (HB6.out.alloc HB6.out.size (.cells #[.int .i64 0, .int .i64 0, .int .i64 0] 46))
  refine (Code_errno 12 _ (HG.out.below HB7.out)).mono ?_
  rintro e w8 ⟨rfl, hb8⟩
  have HQ8_0 := Lib.hid (HQ7_0.out.below hb8 HQ7_0.out.lt)
  have HQ8_1 := Lib.hid (HQ7_1.out.below hb8 HQ7_1.out.lt)
  have HQ8_2 := Lib.hid (HQ7_2.out.below hb8 HQ7_2.out.lt)
  have HQ8_3 := Lib.hid (HQ7_3.out.below hb8 HQ7_3.out.lt)
  have HB8 := Lib.hid (HB7.out.trans (hb8.mono HB7.out.size))
  clear hb8 c6_0_0 c6_0_1 c6_0_2 z6_0 c6_1_0 c6_1_1 c6_1_2 z6_1 c6_2_0 c6_2_1 c6_2_2 z6_2
  have c8_0_0 := HQ8_0.out.cell 0
  have c8_0_1 := HQ8_0.out.cell 1
  have c8_0_2 := HQ8_0.out.cell 2
  have z8_0 := HQ8_0.out.lt
  have c8_1_0 := HQ8_1.out.cell 0
  have c8_1_1 := HQ8_1.out.cell 1
  have c8_1_2 := HQ8_1.out.cell 2
  have z8_1 := HQ8_1.out.lt
  have c8_2_0 := HQ8_2.out.cell 0
  have c8_2_1 := HQ8_2.out.cell 1
  have c8_2_2 := HQ8_2.out.cell 2
  have z8_2 := HQ8_2.out.lt
  have c8_3_0 := HQ8_3.out.cell 0
  have c8_3_1 := HQ8_3.out.cell 1
  have c8_3_2 := HQ8_3.out.cell 2
  have z8_3 := HQ8_3.out.lt
  simp at c8_0_0 c8_0_1 c8_0_2 c8_1_0 c8_1_1 c8_1_2 c8_2_0 c8_2_1 c8_2_2 c8_3_0 c8_3_1 c8_3_2
  go_wp2_with fail
  go_ret
  exact ⟨rfl, HB8.out⟩

set_option maxRecDepth 20000 in
set_option maxHeartbeats 4000000 in
theorem Months_near_in (y m d n : Int) (h : rightB y m d = true) (t0 : 0 ≤ mon y m n) (t1 : mon y m n < 119988) (n0 : -1500 ≤ n) (n1 : n ≤ 1500) (hn : -9223372036854775808 ≤ n ∧ n ≤ 9223372036854775807) (w : World) (hw : Lens w) (hg : Laid w) : Calls Tryd.prog 6 #[.agg #[.int .i64 y, .int .i64 m, .int .i64 d], .int .i64 n] w fun e w' => e = .returned (.bool true) ∧ Below w.heap.size w w' := by
  have HW := Lib.hid hw
  have HG := Lib.hid hg
  clear hw hg
  have hM := fun W (hW : Lens W) => Months_ok y m d n h t0 t1 W hW
  have hR := fun W => RRight_any y m d W
  have hRM := fun W => RMonths_any y m d n h n0 n1 W
  rw [if_pos ⟨t0, t1⟩] at hRM
  rw [h] at hR
  obtain ⟨y1, y2, m1, m2, d1, d2⟩ := right_in h
  have hr := mon_right t0 t1 d1
  obtain ⟨e1, b0, b1, e2, e3, e4⟩ := mon_back h t0 t1
  have hBk := fun W (hW : Lens W) => Months_ok (mY (mon y m n)) (mM (mon y m n)) (mD (mon y m n) d) (-n) hr (by omega) (by omega) W hW
  rw [e1, e2, e3] at hBk
  have e4 := e4 (mon y m n)
  clear h hr t0 t1 e1 b0 b1 e2 e3
  generalize mD (mon y m 0) (mD (mon y m n) d) = E at *
  generalize mY (mon y m n) = Y at *
  generalize mM (mon y m n) = M at *
  generalize mD (mon y m n) d = D at *
  go_enter Tryd.func6, Tryd.ntmps6
  go_wp2_with fail
  have HQ0 := Lib.hid (Blk.new w 40 #[.int .i64 y, .int .i64 m, .int .i64 d])
  have HB0 := Lib.hid (below_alloc w (.cells #[.int .i64 y, .int .i64 m, .int .i64 d] 40))
  refine (awake5 _ (HW.out.below HB0.out)).mono ?_
  rintro e w1 ⟨rfl, hb1⟩
  have HQ1_0 := Lib.hid (HQ0.out.below hb1 HQ0.out.lt)
  have HB1 := Lib.hid (HB0.out.trans (hb1.mono HB0.out.size))
  clear hb1
  have c1_0_0 := HQ1_0.out.cell 0
  have c1_0_1 := HQ1_0.out.cell 1
  have c1_0_2 := HQ1_0.out.cell 2
  have z1_0 := HQ1_0.out.lt
  simp at c1_0_0 c1_0_1 c1_0_2
  go_wp2_with fail
  have HQ2_0 := Lib.hid (HQ1_0.out.alloc (.cells #[.int .i64 y, .int .i64 m, .int .i64 d] 46))
  have HQ2_1 := Lib.hid (Blk.new w1 46 #[.int .i64 y, .int .i64 m, .int .i64 d])
  have HB2 := Lib.hid (HB1.out.alloc HB1.out.size (.cells #[.int .i64 y, .int .i64 m, .int .i64 d] 46))
  refine (hM _ (HW.out.below HB2.out)).mono ?_
  rintro e w3 ⟨rfl, hb3⟩
  have HQ3_0 := Lib.hid (HQ2_0.out.below hb3 HQ2_0.out.lt)
  have HQ3_1 := Lib.hid (HQ2_1.out.below hb3 HQ2_1.out.lt)
  have HB3 := Lib.hid (HB2.out.trans (hb3.mono HB2.out.size))
  clear hb3 c1_0_0 c1_0_1 c1_0_2 z1_0
  have c3_0_0 := HQ3_0.out.cell 0
  have c3_0_1 := HQ3_0.out.cell 1
  have c3_0_2 := HQ3_0.out.cell 2
  have z3_0 := HQ3_0.out.lt
  have c3_1_0 := HQ3_1.out.cell 0
  have c3_1_1 := HQ3_1.out.cell 1
  have c3_1_2 := HQ3_1.out.cell 2
  have z3_1 := HQ3_1.out.lt
  simp at c3_0_0 c3_0_1 c3_0_2 c3_1_0 c3_1_1 c3_1_2
  go_wp2_with fail
  have HQ4_0 := Lib.hid (HQ3_0.out.alloc (.cells #[.int .i64 Y, .int .i64 M, .int .i64 D] 40))
  have HQ4_1 := Lib.hid (HQ3_1.out.alloc (.cells #[.int .i64 Y, .int .i64 M, .int .i64 D] 40))
  have HQ4_2 := Lib.hid (Blk.new w3 40 #[.int .i64 Y, .int .i64 M, .int .i64 D])
  have HB4 := Lib.hid (HB3.out.alloc HB3.out.size (.cells #[.int .i64 Y, .int .i64 M, .int .i64 D] 40))
  refine (hR _).mono ?_
  rintro e w5 ⟨rfl, hb5⟩
  have HQ5_0 := Lib.hid (HQ4_0.out.below hb5 HQ4_0.out.lt)
  have HQ5_1 := Lib.hid (HQ4_1.out.below hb5 HQ4_1.out.lt)
  have HQ5_2 := Lib.hid (HQ4_2.out.below hb5 HQ4_2.out.lt)
  have HB5 := Lib.hid (HB4.out.trans (hb5.mono HB4.out.size))
  clear hb5 c3_0_0 c3_0_1 c3_0_2 z3_0 c3_1_0 c3_1_1 c3_1_2 z3_1
  have c5_0_0 := HQ5_0.out.cell 0
  have c5_0_1 := HQ5_0.out.cell 1
  have c5_0_2 := HQ5_0.out.cell 2
  have z5_0 := HQ5_0.out.lt
  have c5_1_0 := HQ5_1.out.cell 0
  have c5_1_1 := HQ5_1.out.cell 1
  have c5_1_2 := HQ5_1.out.cell 2
  have z5_1 := HQ5_1.out.lt
  have c5_2_0 := HQ5_2.out.cell 0
  have c5_2_1 := HQ5_2.out.cell 1
  have c5_2_2 := HQ5_2.out.cell 2
  have z5_2 := HQ5_2.out.lt
  simp at c5_0_0 c5_0_1 c5_0_2 c5_1_0 c5_1_1 c5_1_2 c5_2_0 c5_2_1 c5_2_2
  go_wp2_with fail
  refine (hRM _).mono ?_
  rintro e w6 ⟨rfl, hb6⟩
  have HQ6_0 := Lib.hid (HQ5_0.out.below hb6 HQ5_0.out.lt)
  have HQ6_1 := Lib.hid (HQ5_1.out.below hb6 HQ5_1.out.lt)
  have HQ6_2 := Lib.hid (HQ5_2.out.below hb6 HQ5_2.out.lt)
  have HB6 := Lib.hid (HB5.out.trans (hb6.mono HB5.out.size))
  clear hb6 c5_0_0 c5_0_1 c5_0_2 z5_0 c5_1_0 c5_1_1 c5_1_2 z5_1 c5_2_0 c5_2_1 c5_2_2 z5_2
  have c6_0_0 := HQ6_0.out.cell 0
  have c6_0_1 := HQ6_0.out.cell 1
  have c6_0_2 := HQ6_0.out.cell 2
  have z6_0 := HQ6_0.out.lt
  have c6_1_0 := HQ6_1.out.cell 0
  have c6_1_1 := HQ6_1.out.cell 1
  have c6_1_2 := HQ6_1.out.cell 2
  have z6_1 := HQ6_1.out.lt
  have c6_2_0 := HQ6_2.out.cell 0
  have c6_2_1 := HQ6_2.out.cell 1
  have c6_2_2 := HQ6_2.out.cell 2
  have z6_2 := HQ6_2.out.lt
  simp at c6_0_0 c6_0_1 c6_0_2 c6_1_0 c6_1_1 c6_1_2 c6_2_0 c6_2_1 c6_2_2
  go_wp2_with fail
  have HQ7_0 := Lib.hid (HQ6_0.out.alloc (.cells #[.int .i64 Y, .int .i64 M, .int .i64 D] 46))
  have HQ7_1 := Lib.hid (HQ6_1.out.alloc (.cells #[.int .i64 Y, .int .i64 M, .int .i64 D] 46))
  have HQ7_2 := Lib.hid (HQ6_2.out.alloc (.cells #[.int .i64 Y, .int .i64 M, .int .i64 D] 46))
  have HQ7_3 := Lib.hid (Blk.new w6 46 #[.int .i64 Y, .int .i64 M, .int .i64 D])
  have HB7 := Lib.hid (HB6.out.alloc HB6.out.size (.cells #[.int .i64 Y, .int .i64 M, .int .i64 D] 46))
  refine (hBk _ (HW.out.below HB7.out)).mono ?_
  rintro e w8 ⟨rfl, hb8⟩
  have HQ8_0 := Lib.hid (HQ7_0.out.below hb8 HQ7_0.out.lt)
  have HQ8_1 := Lib.hid (HQ7_1.out.below hb8 HQ7_1.out.lt)
  have HQ8_2 := Lib.hid (HQ7_2.out.below hb8 HQ7_2.out.lt)
  have HQ8_3 := Lib.hid (HQ7_3.out.below hb8 HQ7_3.out.lt)
  have HB8 := Lib.hid (HB7.out.trans (hb8.mono HB7.out.size))
  clear hb8 c6_0_0 c6_0_1 c6_0_2 z6_0 c6_1_0 c6_1_1 c6_1_2 z6_1 c6_2_0 c6_2_1 c6_2_2 z6_2
  have c8_0_0 := HQ8_0.out.cell 0
  have c8_0_1 := HQ8_0.out.cell 1
  have c8_0_2 := HQ8_0.out.cell 2
  have z8_0 := HQ8_0.out.lt
  have c8_1_0 := HQ8_1.out.cell 0
  have c8_1_1 := HQ8_1.out.cell 1
  have c8_1_2 := HQ8_1.out.cell 2
  have z8_1 := HQ8_1.out.lt
  have c8_2_0 := HQ8_2.out.cell 0
  have c8_2_1 := HQ8_2.out.cell 1
  have c8_2_2 := HQ8_2.out.cell 2
  have z8_2 := HQ8_2.out.lt
  have c8_3_0 := HQ8_3.out.cell 0
  have c8_3_1 := HQ8_3.out.cell 1
  have c8_3_2 := HQ8_3.out.cell 2
  have z8_3 := HQ8_3.out.lt
  simp at c8_0_0 c8_0_1 c8_0_2 c8_1_0 c8_1_1 c8_1_2 c8_2_0 c8_2_1 c8_2_2 c8_3_0 c8_3_1 c8_3_2
  go_wp2_with fail
  have HQ9_0 := Lib.hid (HQ8_0.out.alloc (.cells #[.int .i64 y, .int .i64 m, .int .i64 E] 40))
  have HQ9_1 := Lib.hid (HQ8_1.out.alloc (.cells #[.int .i64 y, .int .i64 m, .int .i64 E] 40))
  have HQ9_2 := Lib.hid (HQ8_2.out.alloc (.cells #[.int .i64 y, .int .i64 m, .int .i64 E] 40))
  have HQ9_3 := Lib.hid (HQ8_3.out.alloc (.cells #[.int .i64 y, .int .i64 m, .int .i64 E] 40))
  have HQ9_4 := Lib.hid (Blk.new w8 40 #[.int .i64 y, .int .i64 m, .int .i64 E])
  have HB9 := Lib.hid (HB8.out.alloc HB8.out.size (.cells #[.int .i64 y, .int .i64 m, .int .i64 E] 40))
  go_ret
  exact ⟨rfl, HB9.out⟩

theorem DMonths_any (y m d n : Int) (hn : -9223372036854775808 ≤ n ∧ n ≤ 9223372036854775807) (w : World) (hw : Lens w) (hg : Laid w) : Calls Tryd.prog 6 #[.agg #[.int .i64 y, .int .i64 m, .int .i64 d], .int .i64 n] w fun e w' => e = .returned (.bool true) ∧ Below w.heap.size w w' := by
  cases h : rightB y m d
  · exact Months_bad y m d n h hn w hw hg
  · by_cases t0 : 0 ≤ mon y m n
    · by_cases t1 : mon y m n < 119988
      · by_cases a : n < -1500
        · exact Months_far_in_lo y m d n h t0 t1 a hn w hw hg
        · by_cases b : 1500 < n
          · exact Months_far_in_hi y m d n h t0 t1 b hn w hw hg
          · exact Months_near_in y m d n h t0 t1 (by omega) (by omega) hn w hw hg
      · have t := (Or.inr (by omega) : mon y m n < 0 ∨ 119988 ≤ mon y m n)
        by_cases a : n < -1500
        · exact Months_far_over_lo y m d n h t a hn w hw hg
        · by_cases b : 1500 < n
          · exact Months_far_over_hi y m d n h t b hn w hw hg
          · exact Months_near_over y m d n h t (by omega) (by omega) hn w hw hg
    · have t := (Or.inl (by omega) : mon y m n < 0 ∨ 119988 ≤ mon y m n)
      by_cases a : n < -1500
      · exact Months_far_over_lo y m d n h t a hn w hw hg
      · by_cases b : 1500 < n
        · exact Months_far_over_hi y m d n h t b hn w hw hg
        · exact Months_near_over y m d n h t (by omega) (by omega) hn w hw hg
end Go.Proofs.YthbifpmjkaonnaaDoor
