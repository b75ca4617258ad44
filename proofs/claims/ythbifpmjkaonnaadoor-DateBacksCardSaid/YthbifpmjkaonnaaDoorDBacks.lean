/-
  DateBacks: the walk. Conditions: the numbers' kinds; errors.errorType and the months' lengths are laid.
-/
import Derived.Test.YthbifpmjkaonnaaDoorDateH
import Derived.Test.YthbifpmjkaonnaaDoorCodeC
namespace Go.Proofs.YthbifpmjkaonnaaDoor
open Go.RowKit

set_option maxRecDepth 20000 in
set_option maxHeartbeats 2000000 in
theorem Backs_any (y m d : Int) (w : World) (hw : Lens w) (hg : Laid w) : Calls Tryd.prog 5 #[.agg #[.int .i64 y, .int .i64 m, .int .i64 d]] w fun e w' => e = .returned (.bool true) ∧ Below w.heap.size w w' := by
  have HW := Lib.hid hw
  have HG := Lib.hid hg
  clear hw hg
  cases h : rightB y m d
  · have hN := fun W (hW : Lens W) => CNum_no y m d h W hW
    have hR := fun W => RRight_any y m d W
    have hC := fun W (hW : Lens W) => CRight_any y m d W hW
    have hL := fun W (hW : Lens W) => CLast_any y m d W hW
    have hlb : lastB y m d = false := by unfold lastB; rw [h]; rfl
    rw [h] at hR hC
    rw [hlb] at hL
    clear h hlb
    go_enter Tryd.func5, Tryd.ntmps5
    go_wp2_with fail
    have HQ0 := Lib.hid (Blk.new w 40 #[.int .i64 y, .int .i64 m, .int .i64 d])
    have HB0 := Lib.hid (below_alloc w (.cells #[.int .i64 y, .int .i64 m, .int .i64 d] 40))
    refine (awake5 _ (HW.out.below HB0.out)).mono ?_
    rintro e w1 ⟨rfl, hb1⟩
    have HQ1_0 := Lib.hid (HQ0.out.below hb1 HQ0.out.lt)
    have HB1 := Lib.hid (HB0.out.trans (hb1.mono HB0.out.size))
    clear hb1
    have c1_0_0 := HQ1_0.out.cell 0
    have c1_0_1 := HQ1_0.out.cell 1
    have c1_0_2 := HQ1_0.out.cell 2
    have z1_0 := HQ1_0.out.lt
    simp at c1_0_0 c1_0_1 c1_0_2
    go_wp2_with fail
    have HQ2_0 := Lib.hid (HQ1_0.out.alloc (.cells #[.int .i64 y, .int .i64 m, .int .i64 d] 46))
    have HQ2_1 := Lib.hid (Blk.new w1 46 #[.int .i64 y, .int .i64 m, .int .i64 d])
    have HB2 := Lib.hid (HB1.out.alloc HB1.out.size (.cells #[.int .i64 y, .int .i64 m, .int .i64 d] 46))
    refine (hN _ (HW.out.below HB2.out)).mono ?_
    rintro e w3 ⟨rfl, hb3⟩
    have HQ3_0 := Lib.hid (HQ2_0.out.below hb3 HQ2_0.out.lt)
    have HQ3_1 := Lib.hid (HQ2_1.out.below hb3 HQ2_1.out.lt)
    have HB3 := Lib.hid (HB2.out.trans (hb3.mono HB2.out.size))
    clear hb3 c1_0_0 c1_0_1 c1_0_2 z1_0
    have c3_0_0 := HQ3_0.out.cell 0
    have c3_0_1 := HQ3_0.out.cell 1
    have c3_0_2 := HQ3_0.out.cell 2
    have z3_0 := HQ3_0.out.lt
    have c3_1_0 := HQ3_1.out.cell 0
    have c3_1_1 := HQ3_1.out.cell 1
    have c3_1_2 := HQ3_1.out.cell 2
    have z3_1 := HQ3_1.out.lt
    simp at c3_0_0 c3_0_1 c3_0_2 c3_1_0 c3_1_1 c3_1_2
    go_wp2_with fail
    refine (hR _).mono ?_
    rintro e w4 ⟨rfl, hb4⟩
    have HQ4_0 := Lib.hid (HQ3_0.out.below hb4 HQ3_0.out.lt)
    have HQ4_1 := Lib.hid (HQ3_1.out.below hb4 HQ3_1.out.lt)
    have HB4 := Lib.hid (HB3.out.trans (hb4.mono HB3.out.size))
    clear hb4 c3_0_0 c3_0_1 c3_0_2 z3_0 c3_1_0 c3_1_1 c3_1_2 z3_1
    have c4_0_0 := HQ4_0.out.cell 0
    have c4_0_1 := HQ4_0.out.cell 1
    have c4_0_2 := HQ4_0.out.cell 2
    have z4_0 := HQ4_0.out.lt
    have c4_1_0 := HQ4_1.out.cell 0
    have c4_1_1 := HQ4_1.out.cell 1
    have c4_1_2 := HQ4_1.out.cell 2
    have z4_1 := HQ4_1.out.lt
    simp at c4_0_0 c4_0_1 c4_0_2 c4_1_0 c4_1_1 c4_1_2
    go_wp2_with fail
    refine (hC _ (HW.out.below HB4.out)).mono ?_
    rintro e w5 ⟨rfl, hb5⟩
    have HQ5_0 := Lib.hid (HQ4_0.out.below hb5 HQ4_0.out.lt)
    have HQ5_1 := Lib.hid (HQ4_1.out.below hb5 HQ4_1.out.lt)
    have HB5 := Lib.hid (HB4.out.trans (hb5.mono HB4.out.size))
    clear hb5 c4_0_0 c4_0_1 c4_0_2 z4_0 c4_1_0 c4_1_1 c4_1_2 z4_1
    have c5_0_0 := HQ5_0.out.cell 0
    have c5_0_1 := HQ5_0.out.cell 1
    have c5_0_2 := HQ5_0.out.cell 2
    have z5_0 := HQ5_0.out.lt
    have c5_1_0 := HQ5_1.out.cell 0
    have c5_1_1 := HQ5_1.out.cell 1
    have c5_1_2 := HQ5_1.out.cell 2
    have z5_1 := HQ5_1.out.lt
    simp at c5_0_0 c5_0_1 c5_0_2 c5_1_0 c5_1_1 c5_1_2
    go_wp2_with fail
    refine (hL _ (HW.out.below HB5.out)).mono ?_
    rintro e w6 ⟨rfl, hb6⟩
    have HQ6_0 := Lib.hid (HQ5_0.out.below hb6 HQ5_0.out.lt)
    have HQ6_1 := Lib.hid (HQ5_1.out.below hb6 HQ5_1.out.lt)
    have HB6 := Lib.hid (HB5.out.trans (hb6.mono HB5.out.size))
    clear hb6 c5_0_0 c5_0_1 c5_0_2 z5_0 c5_1_0 c5_1_1 c5_1_2 z5_1
    have c6_0_0 := HQ6_0.out.cell 0
    have c6_0_1 := HQ6_0.out.cell 1
    have c6_0_2 := HQ6_0.out.cell 2
    have z6_0 := HQ6_0.out.lt
    have c6_1_0 := HQ6_1.out.cell 0
    have c6_1_1 := HQ6_1.out.cell 1
    have c6_1_2 := HQ6_1.out.cell 2
    have z6_1 := HQ6_1.out.lt
    simp at c6_0_0 c6_0_1 c6_0_2 c6_1_0 c6_1_1 c6_1_2
    go_wp2_with fail
    refine (Code_errno 1 _ (HG.out.below HB6.out)).mono ?_
    rintro e w7 ⟨rfl, hb7⟩
    have HQ7_0 := Lib.hid (HQ6_0.out.below hb7 HQ6_0.out.lt)
    have HQ7_1 := Lib.hid (HQ6_1.out.below hb7 HQ6_1.out.lt)
    have HB7 := Lib.hid (HB6.out.trans (hb7.mono HB6.out.size))
    clear hb7 c6_0_0 c6_0_1 c6_0_2 z6_0 c6_1_0 c6_1_1 c6_1_2 z6_1
    have c7_0_0 := HQ7_0.out.cell 0
    have c7_0_1 := HQ7_0.out.cell 1
    have c7_0_2 := HQ7_0.out.cell 2
    have z7_0 := HQ7_0.out.lt
    have c7_1_0 := HQ7_1.out.cell 0
    have c7_1_1 := HQ7_1.out.cell 1
    have c7_1_2 := HQ7_1.out.cell 2
    have z7_1 := HQ7_1.out.lt
    simp at c7_0_0 c7_0_1 c7_0_2 c7_1_0 c7_1_1 c7_1_2
    go_wp2_with fail
    go_ret
    exact ⟨rfl, HB7.out⟩
  · have hN := fun W (hW : Lens W) => CNum_yes y m d h W hW
    have hR := fun W => RRight_any y m d W
    have hC := fun W (hW : Lens W) => CRight_any y m d W hW
    have hL := fun W (hW : Lens W) => CLast_any y m d W hW
    have hRN := fun W => RNum_any y m d h W
    have hRL := fun W => RLength_any y m W
    have hn := num_in h
    obtain ⟨-, -, -, -, n0, n1⟩ := hn
    have hlb : lastB y m d = (d == mlen y m) := by unfold lastB; rw [h, Bool.true_and]
    rw [h] at hR hC
    rw [hlb] at hL
    clear h hlb
    generalize num y m d = N at *
    have i1 : (0 : Int) ≤ N ∧ N ≤ 3652058 := ⟨n0, n1⟩
    generalize mlen y m = L at *
    go_enter Tryd.func5, Tryd.ntmps5
    go_wp2_with fail
    have HQ0 := Lib.hid (Blk.new w 40 #[.int .i64 y, .int .i64 m, .int .i64 d])
    have HB0 := Lib.hid (below_alloc w (.cells #[.int .i64 y, .int .i64 m, .int .i64 d] 40))
    refine (awake5 _ (HW.out.below HB0.out)).mono ?_
    rintro e w1 ⟨rfl, hb1⟩
    have HQ1_0 := Lib.hid (HQ0.out.below hb1 HQ0.out.lt)
    have HB1 := Lib.hid (HB0.out.trans (hb1.mono HB0.out.size))
    clear hb1
    have c1_0_0 := HQ1_0.out.cell 0
    have c1_0_1 := HQ1_0.out.cell 1
    have c1_0_2 := HQ1_0.out.cell 2
    have z1_0 := HQ1_0.out.lt
    simp at c1_0_0 c1_0_1 c1_0_2
    go_wp2_with fail
    have HQ2_0 := Lib.hid (HQ1_0.out.alloc (.cells #[.int .i64 y, .int .i64 m, .int .i64 d] 46))
    have HQ2_1 := Lib.hid (Blk.new w1 46 #[.int .i64 y, .int .i64 m, .int .i64 d])
    have HB2 := Lib.hid (HB1.out.alloc HB1.out.size (.cells #[.int .i64 y, .int .i64 m, .int .i64 d] 46))
    refine (hN _ (HW.out.below HB2.out)).mono ?_
    rintro e w3 ⟨rfl, hb3⟩
    have HQ3_0 := Lib.hid (HQ2_0.out.below hb3 HQ2_0.out.lt)
    have HQ3_1 := Lib.hid (HQ2_1.out.below hb3 HQ2_1.out.lt)
    have HB3 := Lib.hid (HB2.out.trans (hb3.mono HB2.out.size))
    clear hb3 c1_0_0 c1_0_1 c1_0_2 z1_0
    have c3_0_0 := HQ3_0.out.cell 0
    have c3_0_1 := HQ3_0.out.cell 1
    have c3_0_2 := HQ3_0.out.cell 2
    have z3_0 := HQ3_0.out.lt
    have c3_1_0 := HQ3_1.out.cell 0
    have c3_1_1 := HQ3_1.out.cell 1
    have c3_1_2 := HQ3_1.out.cell 2
    have z3_1 := HQ3_1.out.lt
    simp at c3_0_0 c3_0_1 c3_0_2 c3_1_0 c3_1_1 c3_1_2
    go_wp2_with fail
    refine (hR _).mono ?_
    rintro e w4 ⟨rfl, hb4⟩
    have HQ4_0 := Lib.hid (HQ3_0.out.below hb4 HQ3_0.out.lt)
    have HQ4_1 := Lib.hid (HQ3_1.out.below hb4 HQ3_1.out.lt)
    have HB4 := Lib.hid (HB3.out.trans (hb4.mono HB3.out.size))
    clear hb4 c3_0_0 c3_0_1 c3_0_2 z3_0 c3_1_0 c3_1_1 c3_1_2 z3_1
    have c4_0_0 := HQ4_0.out.cell 0
    have c4_0_1 := HQ4_0.out.cell 1
    have c4_0_2 := HQ4_0.out.cell 2
    have z4_0 := HQ4_0.out.lt
    have c4_1_0 := HQ4_1.out.cell 0
    have c4_1_1 := HQ4_1.out.cell 1
    have c4_1_2 := HQ4_1.out.cell 2
    have z4_1 := HQ4_1.out.lt
    simp at c4_0_0 c4_0_1 c4_0_2 c4_1_0 c4_1_1 c4_1_2
    go_wp2_with fail
    clear c4_0_0 c4_0_1 c4_0_2 z4_0 c4_1_0 c4_1_1 c4_1_2 z4_1
    have q5_0_0 := cell_regrown (HQ4_0.out.cell 0)
    have q5_0_1 := cell_regrown (HQ4_0.out.cell 1)
    have q5_0_2 := cell_regrown (HQ4_0.out.cell 2)
    have q5_1_0 := cell_regrown (HQ4_1.out.cell 0)
    have q5_1_1 := cell_regrown (HQ4_1.out.cell 1)
    have q5_1_2 := cell_regrown (HQ4_1.out.cell 2)
    simp at q5_0_0 q5_0_1 q5_0_2 q5_1_0 q5_1_1 q5_1_2
    have A5_0 := fun (dd : Nat) (os : Array Obj) => Calls.regrown_of (hC (Go.Sort.grow (redrawn w4 dd) os) ((HW.out.below HB4.out).below (below_regrown w4 dd os)))
    have A5_1 := fun (dd : Nat) (os : Array Obj) => Calls.regrown_of (hRN (Go.Sort.grow (redrawn w4 dd) os))
    have A5_2 := fun (dd : Nat) (os : Array Obj) => Calls.regrown_of (hL (Go.Sort.grow (redrawn w4 dd) os) ((HW.out.below HB4.out).below (below_regrown w4 dd os)))
    have A5_3 := fun (dd : Nat) (os : Array Obj) => Calls.regrown_of (hRL (Go.Sort.grow (redrawn w4 dd) os))
    refine wp_region_quiet_below (by kernel_rfl) (by kernel_rfl) ?_
    repeat (go_big_quiet_step (first | (go_at_call 30; exact A5_0 _ _) | (go_at_call 33; exact A5_1 _ _) | (go_at_call 32; exact A5_2 _ _) | (go_at_call 34; exact A5_3 _ _)))
    refine wpQuiet_nil ?_
    intro w5 hw5
    have hb5 : Below w4.heap.size w4 w5 := by
      obtain ⟨p, rfl⟩ := hw5
      exact below_regrown _ _ _
    clear hw5 q5_0_0 q5_0_1 q5_0_2 q5_1_0 q5_1_1 q5_1_2 A5_0 A5_1 A5_2 A5_3
    have HQ5_0 := Lib.hid (HQ4_0.out.below hb5 HQ4_0.out.lt)
    have HQ5_1 := Lib.hid (HQ4_1.out.below hb5 HQ4_1.out.lt)
    have HB5 := Lib.hid (HB4.out.trans (hb5.mono HB4.out.size))
    clear hb5
    have c5_0_0 := HQ5_0.out.cell 0
    have c5_0_1 := HQ5_0.out.cell 1
    have c5_0_2 := HQ5_0.out.cell 2
    have z5_0 := HQ5_0.out.lt
    have c5_1_0 := HQ5_1.out.cell 0
    have c5_1_1 := HQ5_1.out.cell 1
    have c5_1_2 := HQ5_1.out.cell 2
    have z5_1 := HQ5_1.out.lt
    simp at c5_0_0 c5_0_1 c5_0_2 c5_1_0 c5_1_1 c5_1_2
    go_wp2_with fail
    go_ret
    exact ⟨by simp, HB5.out⟩
end Go.Proofs.YthbifpmjkaonnaaDoor
