/-
  DateTurns: the walk. Conditions: the day's kind; errors.errorType, the months' lengths and strconv's powers of ten are laid.
-/
import Derived.Test.YthbifpmjkaonnaaDoorTextC
import Derived.Test.YthbifpmjkaonnaaDoorCodeC
namespace Go.Proofs.YthbifpmjkaonnaaDoor
open Go.RowKit

theorem dayB_trueT {d : Int} (h0 : 0 ≤ d) (h1 : d ≤ 3652058) (W : World) : Calls Tryd.prog 23 #[.int .i32 d] W fun e w' => e = .returned (.bool true) ∧ W = w' := by
  have := DRight_any d W
  rw [day_yes h0 h1] at this
  exact this
theorem dayB_falseT {d : Int} (h : d < 0 ∨ 3652058 < d) (W : World) : Calls Tryd.prog 23 #[.int .i32 d] W fun e w' => e = .returned (.bool false) ∧ W = w' := by
  have := DRight_any d W
  rw [day_no h] at this
  exact this

set_option maxRecDepth 20000 in
set_option maxHeartbeats 4000000 in
theorem Turns_lo (n : Int) (h : n < 0) (w : World) (hw : Lens w) (hp : Pows w) (hg : Laid w) : Calls Tryd.prog 4 #[.int .i32 n] w fun e w' => e = .returned (.bool true) ∧ Below w.heap.size w w' := by
  have HW := Lib.hid hw
  have HP := Lib.hid hp
  have HG := Lib.hid hg
  clear hw hp hg
  have ho : n < 0 ∨ 3652058 < n := by omega
  have hC := fun W => DCivil_no n ho W
  have hR := fun W => dayB_falseT ho W
  have hT := fun W => DText_no n ho W
  have hK := fun W => Week_no n ho W
  clear ho
  go_enter Tryd.func4, Tryd.ntmps4
  go_wp2_with fail
  have HB0 := Lib.hid (Below.refl w.heap.size w)
  refine (awake5 _ (HW.out.below HB0.out)).mono ?_
  rintro e w1 ⟨rfl, hb1⟩
  have HB1 := Lib.hid (HB0.out.trans (hb1.mono HB0.out.size))
  clear hb1
  go_wp2_with fail
  refine (hC _).mono ?_
  rintro e w2 ⟨rfl, hb2⟩
  have HB2 := Lib.hid (HB1.out.trans (hb2.mono HB1.out.size))
  clear hb2
  go_wp2_with fail
  have HQ3_0 := Lib.hid (Blk.new w2 40 #[.int .i64 0, .int .i64 0, .int .i64 0])
  have HB3 := Lib.hid (HB2.out.alloc HB2.out.size (.cells #[.int .i64 0, .int .i64 0, .int .i64 0] 40))
  refine (hR _).mono ?_
  rintro e w98 ⟨rfl, rfl⟩
  go_wp2_with fail
  refine (Code_errno 1 _ (HG.out.below HB3.out)).mono ?_
  rintro e w4 ⟨rfl, hb4⟩
  have HQ4_0 := Lib.hid (HQ3_0.out.below hb4 HQ3_0.out.lt)
  have HB4 := Lib.hid (HB3.out.trans (hb4.mono HB3.out.size))
  clear hb4
  have c4_0_0 := HQ4_0.out.cell 0
  have c4_0_1 := HQ4_0.out.cell 1
  have c4_0_2 := HQ4_0.out.cell 2
  have z4_0 := HQ4_0.out.lt
  simp at c4_0_0 c4_0_1 c4_0_2
  go_wp2_with fail
  refine (hT _).mono ?_
  rintro e w5 ⟨rfl, hb5⟩
  have HQ5_0 := Lib.hid (HQ4_0.out.below hb5 HQ4_0.out.lt)
  have HB5 := Lib.hid (HB4.out.trans (hb5.mono HB4.out.size))
  clear hb5 c4_0_0 c4_0_1 c4_0_2 z4_0
  have c5_0_0 := HQ5_0.out.cell 0
  have c5_0_1 := HQ5_0.out.cell 1
  have c5_0_2 := HQ5_0.out.cell 2
  have z5_0 := HQ5_0.out.lt
  simp at c5_0_0 c5_0_1 c5_0_2
  go_wp2_with fail
  refine (hK _).mono ?_
  rintro e w98 ⟨rfl, rfl⟩
  go_wp2_with fail
  go_ret
  exact ⟨by first | rfl | simp, HB5.out⟩

set_option maxRecDepth 20000 in
set_option maxHeartbeats 4000000 in
theorem Turns_hi (n : Int) (h0 : 0 ≤ n) (h : 3652058 < n) (w : World) (hw : Lens w) (hp : Pows w) (hg : Laid w) : Calls Tryd.prog 4 #[.int .i32 n] w fun e w' => e = .returned (.bool true) ∧ Below w.heap.size w w' := by
  have HW := Lib.hid hw
  have HP := Lib.hid hp
  have HG := Lib.hid hg
  clear hw hp hg
  have ho : n < 0 ∨ 3652058 < n := by omega
  have hC := fun W => DCivil_no n ho W
  have hR := fun W => dayB_falseT ho W
  have hT := fun W => DText_no n ho W
  have hK := fun W => Week_no n ho W
  clear ho
  go_enter Tryd.func4, Tryd.ntmps4
  go_wp2_with fail
  have HB0 := Lib.hid (Below.refl w.heap.size w)
  refine (awake5 _ (HW.out.below HB0.out)).mono ?_
  rintro e w1 ⟨rfl, hb1⟩
  have HB1 := Lib.hid (HB0.out.trans (hb1.mono HB0.out.size))
  clear hb1
  go_wp2_with fail
  refine (hC _).mono ?_
  rintro e w2 ⟨rfl, hb2⟩
  have HB2 := Lib.hid (HB1.out.trans (hb2.mono HB1.out.size))
  clear hb2
  go_wp2_with fail
  have HQ3_0 := Lib.hid (Blk.new w2 40 #[.int .i64 0, .int .i64 0, .int .i64 0])
  have HB3 := Lib.hid (HB2.out.alloc HB2.out.size (.cells #[.int .i64 0, .int .i64 0, .int .i64 0] 40))
  refine (hR _).mono ?_
  rintro e w98 ⟨rfl, rfl⟩
  go_wp2_with fail
  refine (Code_errno 1 _ (HG.out.below HB3.out)).mono ?_
  rintro e w4 ⟨rfl, hb4⟩
  have HQ4_0 := Lib.hid (HQ3_0.out.below hb4 HQ3_0.out.lt)
  have HB4 := Lib.hid (HB3.out.trans (hb4.mono HB3.out.size))
  clear hb4
  have c4_0_0 := HQ4_0.out.cell 0
  have c4_0_1 := HQ4_0.out.cell 1
  have c4_0_2 := HQ4_0.out.cell 2
  have z4_0 := HQ4_0.out.lt
  simp at c4_0_0 c4_0_1 c4_0_2
  go_wp2_with fail
  refine (hT _).mono ?_
  rintro e w5 ⟨rfl, hb5⟩
  have HQ5_0 := Lib.hid (HQ4_0.out.below hb5 HQ4_0.out.lt)
  have HB5 := Lib.hid (HB4.out.trans (hb5.mono HB4.out.size))
  clear hb5 c4_0_0 c4_0_1 c4_0_2 z4_0
  have c5_0_0 := HQ5_0.out.cell 0
  have c5_0_1 := HQ5_0.out.cell 1
  have c5_0_2 := HQ5_0.out.cell 2
  have z5_0 := HQ5_0.out.lt
  simp at c5_0_0 c5_0_1 c5_0_2
  go_wp2_with fail
  refine (hK _).mono ?_
  rintro e w98 ⟨rfl, rfl⟩
  go_wp2_with fail
  go_ret
  exact ⟨by first | rfl | simp, HB5.out⟩

set_option maxRecDepth 20000 in
set_option maxHeartbeats 4000000 in
theorem Turns_in (n : Int) (h0 : 0 ≤ n) (h1 : n ≤ 3652058) (w : World) (hw : Lens w) (hp : Pows w) (hg : Laid w) : Calls Tryd.prog 4 #[.int .i32 n] w fun e w' => e = .returned (.bool true) ∧ Below w.heap.size w w' := by
  have HW := Lib.hid hw
  have HP := Lib.hid hp
  have HG := Lib.hid hg
  clear hw hp hg
  obtain ⟨y1, y2, m1, m2, d1, d2, d3⟩ := civ_in n h0 h1
  obtain ⟨hr, hn⟩ := civ_right n h0 h1
  have hC := fun W (hW : Lens W) => DCivil_any n W h0 h1 hW
  have hRC := fun W => RCivil_any n W h0 h1
  have hN := fun W (hW : Lens W) => CNum_yes (cY n) (cM n) (cD n) hr W hW
  have hT := fun W (hW : Lens W) (hP : Pows W) => DText_any n h0 h1 W hW hP
  have hRd := fun W (hW : Lens W) (hP : Pows W) => Read_text n h0 h1 W hW hP
  have hR := fun W => dayB_trueT h0 h1 W
  have hK := fun W => Week_any n h0 h1 W
  have hCR := fun W (hW : Lens W) => CRight_any (cY n) (cM n) (cD n) W hW
  have hS : dayText n = textS (cY n).toNat (cM n).toNat (cD n).toNat := rfl
  rw [hn] at hN
  rw [hr] at hCR
  obtain ⟨Y, hY⟩ : ∃ Y : Nat, cY n = (Y : Int) := ⟨(cY n).toNat, by omega⟩
  obtain ⟨M, hM⟩ : ∃ M : Nat, cM n = (M : Int) := ⟨(cM n).toNat, by omega⟩
  obtain ⟨D, hD⟩ : ∃ D : Nat, cD n = (D : Int) := ⟨(cD n).toNat, by omega⟩
  rw [hY, hM, hD] at hN hS hCR hC hRC
  rw [hY] at y1 y2
  rw [hM] at m1 m2
  rw [hD] at d1 d3
  rw [Int.toNat_natCast, Int.toNat_natCast, Int.toNat_natCast] at hS
  have hRT := fun W => RText_any Y M D (by omega) (by omega) (by omega) W
  rw [← hS] at hRT
  generalize dayText n = S at *
  clear hY hM hD d2 hr hn hS
  go_enter Tryd.func4, Tryd.ntmps4
  go_wp2_with fail
  have HB0 := Lib.hid (Below.refl w.heap.size w)
  refine (awake5 _ (HW.out.below HB0.out)).mono ?_
  rintro e w1 ⟨rfl, hb1⟩
  have HB1 := Lib.hid (HB0.out.trans (hb1.mono HB0.out.size))
  clear hb1
  go_wp2_with fail
  refine (hC _ (HW.out.below HB1.out)).mono ?_
  rintro e w2 ⟨rfl, hb2⟩
  have HB2 := Lib.hid (HB1.out.trans (hb2.mono HB1.out.size))
  clear hb2
  go_wp2_with fail
  have HQ3_0 := Lib.hid (Blk.new w2 40 #[.int .i64 (Y : Int), .int .i64 (M : Int), .int .i64 (D : Int)])
  have HB3 := Lib.hid (HB2.out.alloc HB2.out.size (.cells #[.int .i64 (Y : Int), .int .i64 (M : Int), .int .i64 (D : Int)] 40))
  refine (hRC _).mono ?_
  rintro e w4 ⟨rfl, hb4⟩
  have HQ4_0 := Lib.hid (HQ3_0.out.below hb4 HQ3_0.out.lt)
  have HB4 := Lib.hid (HB3.out.trans (hb4.mono HB3.out.size))
  clear hb4
  have c4_0_0 := HQ4_0.out.cell 0
  have c4_0_1 := HQ4_0.out.cell 1
  have c4_0_2 := HQ4_0.out.cell 2
  have z4_0 := HQ4_0.out.lt
  simp at c4_0_0 c4_0_1 c4_0_2
  go_wp2_with fail
  have HQ5_0 := Lib.hid (HQ4_0.out.alloc (.cells #[.int .i64 (Y : Int), .int .i64 (M : Int), .int .i64 (D : Int)] 46))
  have HQ5_1 := Lib.hid (Blk.new w4 46 #[.int .i64 (Y : Int), .int .i64 (M : Int), .int .i64 (D : Int)])
  have HB5 := Lib.hid (HB4.out.alloc HB4.out.size (.cells #[.int .i64 (Y : Int), .int .i64 (M : Int), .int .i64 (D : Int)] 46))
  refine (hN _ (HW.out.below HB5.out)).mono ?_
  rintro e w6 ⟨rfl, hb6⟩
  have HQ6_0 := Lib.hid (HQ5_0.out.below hb6 HQ5_0.out.lt)
  have HQ6_1 := Lib.hid (HQ5_1.out.below hb6 HQ5_1.out.lt)
  have HB6 := Lib.hid (HB5.out.trans (hb6.mono HB5.out.size))
  clear hb6 c4_0_0 c4_0_1 c4_0_2 z4_0
  have c6_0_0 := HQ6_0.out.cell 0
  have c6_0_1 := HQ6_0.out.cell 1
  have c6_0_2 := HQ6_0.out.cell 2
  have z6_0 := HQ6_0.out.lt
  have c6_1_0 := HQ6_1.out.cell 0
  have c6_1_1 := HQ6_1.out.cell 1
  have c6_1_2 := HQ6_1.out.cell 2
  have z6_1 := HQ6_1.out.lt
  simp at c6_0_0 c6_0_1 c6_0_2 c6_1_0 c6_1_1 c6_1_2
  go_wp2_with fail
  refine (hT _ (HW.out.below HB6.out) (HP.out.below HB6.out)).mono ?_
  rintro e w7 ⟨rfl, hb7⟩
  have HQ7_0 := Lib.hid (HQ6_0.out.below hb7 HQ6_0.out.lt)
  have HQ7_1 := Lib.hid (HQ6_1.out.below hb7 HQ6_1.out.lt)
  have HB7 := Lib.hid (HB6.out.trans (hb7.mono HB6.out.size))
  clear hb7 c6_0_0 c6_0_1 c6_0_2 z6_0 c6_1_0 c6_1_1 c6_1_2 z6_1
  have c7_0_0 := HQ7_0.out.cell 0
  have c7_0_1 := HQ7_0.out.cell 1
  have c7_0_2 := HQ7_0.out.cell 2
  have z7_0 := HQ7_0.out.lt
  have c7_1_0 := HQ7_1.out.cell 0
  have c7_1_1 := HQ7_1.out.cell 1
  have c7_1_2 := HQ7_1.out.cell 2
  have z7_1 := HQ7_1.out.lt
  simp at c7_0_0 c7_0_1 c7_0_2 c7_1_0 c7_1_1 c7_1_2
  go_wp2_with fail
  refine (hRd _ (HW.out.below HB7.out) (HP.out.below HB7.out)).mono ?_
  rintro e w8 ⟨rfl, hb8⟩
  have HQ8_0 := Lib.hid (HQ7_0.out.below hb8 HQ7_0.out.lt)
  have HQ8_1 := Lib.hid (HQ7_1.out.below hb8 HQ7_1.out.lt)
  have HB8 := Lib.hid (HB7.out.trans (hb8.mono HB7.out.size))
  clear hb8 c7_0_0 c7_0_1 c7_0_2 z7_0 c7_1_0 c7_1_1 c7_1_2 z7_1
  have c8_0_0 := HQ8_0.out.cell 0
  have c8_0_1 := HQ8_0.out.cell 1
  have c8_0_2 := HQ8_0.out.cell 2
  have z8_0 := HQ8_0.out.lt
  have c8_1_0 := HQ8_1.out.cell 0
  have c8_1_1 := HQ8_1.out.cell 1
  have c8_1_2 := HQ8_1.out.cell 2
  have z8_1 := HQ8_1.out.lt
  simp at c8_0_0 c8_0_1 c8_0_2 c8_1_0 c8_1_1 c8_1_2
  go_wp2_with fail
  clear c8_0_0 c8_0_1 c8_0_2 z8_0 c8_1_0 c8_1_1 c8_1_2 z8_1
  have q9_0_0 := cell_regrown (HQ8_0.out.cell 0)
  have q9_0_1 := cell_regrown (HQ8_0.out.cell 1)
  have q9_0_2 := cell_regrown (HQ8_0.out.cell 2)
  have q9_1_0 := cell_regrown (HQ8_1.out.cell 0)
  have q9_1_1 := cell_regrown (HQ8_1.out.cell 1)
  have q9_1_2 := cell_regrown (HQ8_1.out.cell 2)
  simp at q9_0_0 q9_0_1 q9_0_2 q9_1_0 q9_1_1 q9_1_2
  have A9_0 := fun (dd : Nat) (os : Array Obj) => Calls.regrown_of (below_same (hR (Go.Sort.grow (redrawn w8 dd) os)))
  have A9_1 := fun (dd : Nat) (os : Array Obj) => Calls.regrown_of (hT (Go.Sort.grow (redrawn w8 dd) os) ((HW.out.below HB8.out).below (below_regrown w8 dd os)) ((HP.out.below HB8.out).below (below_regrown w8 dd os)))
  have A9_2 := fun (dd : Nat) (os : Array Obj) => Calls.regrown_of (hRT (Go.Sort.grow (redrawn w8 dd) os))
  have A9_3 := fun (dd : Nat) (os : Array Obj) => Calls.regrown_of (below_same (hK (Go.Sort.grow (redrawn w8 dd) os)))
  have A9_4 := fun (dd : Nat) (os : Array Obj) => Calls.regrown_of (hCR (Go.Sort.grow (redrawn w8 dd) os) ((HW.out.below HB8.out).below (below_regrown w8 dd os)))
  refine wp_region_quiet_below (by kernel_rfl) (by kernel_rfl) ?_
  repeat (go_big_quiet_step (first | (go_at_call 23; exact A9_0 _ _) | (go_at_call 24; exact A9_1 _ _) | (go_at_call 29; exact A9_2 _ _) | (go_at_call 25; exact A9_3 _ _) | (go_at_call 30; exact A9_4 _ _)))
  refine wpQuiet_nil ?_
  intro w9 hw9
  have hb9 : Below w8.heap.size w8 w9 := by
    obtain ⟨p, rfl⟩ := hw9
    exact below_regrown _ _ _
  clear hw9 q9_0_0 q9_0_1 q9_0_2 q9_1_0 q9_1_1 q9_1_2 A9_0 A9_1 A9_2 A9_3 A9_4
  have HQ9_0 := Lib.hid (HQ8_0.out.below hb9 HQ8_0.out.lt)
  have HQ9_1 := Lib.hid (HQ8_1.out.below hb9 HQ8_1.out.lt)
  have HB9 := Lib.hid (HB8.out.trans (hb9.mono HB8.out.size))
  clear hb9
  have c9_0_0 := HQ9_0.out.cell 0
  have c9_0_1 := HQ9_0.out.cell 1
  have c9_0_2 := HQ9_0.out.cell 2
  have z9_0 := HQ9_0.out.lt
  have c9_1_0 := HQ9_1.out.cell 0
  have c9_1_1 := HQ9_1.out.cell 1
  have c9_1_2 := HQ9_1.out.cell 2
  have z9_1 := HQ9_1.out.lt
  simp at c9_0_0 c9_0_1 c9_0_2 c9_1_0 c9_1_1 c9_1_2
  go_wp2_with fail
  go_ret
  exact ⟨by first | rfl | simp, HB9.out⟩

theorem Turns_any (n : Int) (w : World) (hw : Lens w) (hp : Pows w) (hg : Laid w) : Calls Tryd.prog 4 #[.int .i32 n] w fun e w' => e = .returned (.bool true) ∧ Below w.heap.size w w' := by
  by_cases h0 : 0 ≤ n
  · by_cases h1 : n ≤ 3652058
    · exact Turns_in n h0 h1 w hw hp hg
    · exact Turns_hi n h0 (by omega) w hw hp hg
  · exact Turns_lo n (by omega) w hw hp hg
end Go.Proofs.YthbifpmjkaonnaaDoor
