/-
  SplitPays: the walk. Conditions: the numbers' kinds; errors.errorType is laid.
-/
import Derived.Test.YtbikfplipkhhcabDoorSplE
import Derived.Lib.QuietBelow
import Derived.BigQuiet
namespace Go.Proofs.YtbikfplipkhhcabDoor
open Go.RowKit Go.BigFrame

theorem eqA (x y z : Int) (W : World) : (Op.equalIn 10000 33 (.agg #[.int .i64 x, .int .i64 y, .int .i64 z]) (.agg #[.int .i64 x, .int .i64 y, .int .i64 z])).run Tryd.prog W = .ok true W := by
  obtain ⟨i0, hi, _, hz1, _⟩ := info_parts infoI64
  show (Op.equalIn (9998 + 1 + 1) 33 _ _).run _ _ = _
  rw [Op.equalIn]
  simp only [Sem.run_bind, run_underlying Tryd.underlying33, Result.andThen_ok]
  simp [sizeOf, typeInfo, go_sem, hi, hz1, Std.Legacy.Range.forIn_eq_forIn_range', Std.Legacy.Range.size, List.range']
theorem goes_any (s : Nat) (f i p a : Int) : ∃ x y z r, Goes s f i p a x y z r := ⟨_, _, _, _, rfl, rfl, rfl, rfl⟩
set_option maxRecDepth 20000 in
set_option maxHeartbeats 8000000 in
theorem SPays_no {f i p a : Int} {s : Nat} (h : ¬ (okO f i p ∧ 0 ≤ a)) (w : World) (hg : Laid w) : Calls Tryd.prog 3 #[ov f i p, .int .u8 (s : Int), .int .i64 a] w (Ret (.bool true) w) := by
  have HG := Lib.hid hg
  have hF := fun W => From_neg (s := s) h W
  have hP := fun W => Pay_neg h W
  rcases (show f < 0 ∨ (0 ≤ f ∧ i < 0) ∨ (0 ≤ f ∧ 0 ≤ i ∧ p < 0) ∨ (0 ≤ f ∧ 0 ≤ i ∧ 0 ≤ p ∧ a < 0) by unfold okO at h; omega) with h0 | ⟨h0, h1⟩ | ⟨h0, h1, h2⟩ | ⟨h0, h1, h2, h3⟩
  · have hR := fun W => ORight_no (f := f) (i := i) (p := p) (by unfold okO; omega) W
    unfold eno ov at *
    have df : decide (f < 0) = true := decide_eq_true (by omega)
    clear h hg
    go_enter Tryd.func3, Tryd.ntmps3
    have HQ0 := Lib.hid (Blk.new w 24 #[.int .i64 f, .int .i64 i, .int .i64 p])
    have HB0 := Lib.hid (b_alloc w (.cells #[.int .i64 f, .int .i64 i, .int .i64 p] 24))
    go_wp2_with fail
    refine (awake11 _).mono ?_
    rintro e w1 ⟨rfl, hb1⟩
    have HQ1_0 := Lib.hid (HQ0.out.below hb1 HQ0.out.lt)
    have HB1 := Lib.hid (HB0.out.trans (hb1.mono HB0.out.size))
    clear hb1
    have c1_0_0 := HQ1_0.out.cell 0
    have c1_0_1 := HQ1_0.out.cell 1
    have c1_0_2 := HQ1_0.out.cell 2
    have z1_0 := HQ1_0.out.lt
    try simp at c1_0_0 c1_0_1 c1_0_2
    go_wp2_with fail
    refine (hF _).mono ?_
    rintro e w2 ⟨rfl, hb2⟩
    have HQ2_0 := Lib.hid (HQ1_0.out.below hb2 HQ1_0.out.lt)
    have HB2 := Lib.hid (HB1.out.trans (hb2.mono HB1.out.size))
    clear hb2 c1_0_0 c1_0_1 c1_0_2 z1_0
    have c2_0_0 := HQ2_0.out.cell 0
    have c2_0_1 := HQ2_0.out.cell 1
    have c2_0_2 := HQ2_0.out.cell 2
    have z2_0 := HQ2_0.out.lt
    try simp at c2_0_0 c2_0_1 c2_0_2
    go_wp2_with fail
    have HQ3_0 := Lib.hid (HQ2_0.out.alloc (.cells #[.int .i64 0, .int .i64 0, .int .i64 0] 24))
    have HQ3_1 := Lib.hid (Blk.new w2 24 #[.int .i64 0, .int .i64 0, .int .i64 0])
    have HB3 := Lib.hid (HB2.out.alloc HB2.out.size (.cells #[.int .i64 0, .int .i64 0, .int .i64 0] 24))
    refine (hP _).mono ?_
    rintro e w4 ⟨rfl, hb4⟩
    have HQ4_0 := Lib.hid (HQ3_0.out.below hb4 HQ3_0.out.lt)
    have HQ4_1 := Lib.hid (HQ3_1.out.below hb4 HQ3_1.out.lt)
    have HB4 := Lib.hid (HB3.out.trans (hb4.mono HB3.out.size))
    clear hb4 c2_0_0 c2_0_1 c2_0_2 z2_0
    have c4_0_0 := HQ4_0.out.cell 0
    have c4_0_1 := HQ4_0.out.cell 1
    have c4_0_2 := HQ4_0.out.cell 2
    have z4_0 := HQ4_0.out.lt
    have c4_1_0 := HQ4_1.out.cell 0
    have c4_1_1 := HQ4_1.out.cell 1
    have c4_1_2 := HQ4_1.out.cell 2
    have z4_1 := HQ4_1.out.lt
    try simp at c4_0_0 c4_0_1 c4_0_2 c4_1_0 c4_1_1 c4_1_2
    go_wp2_with fail
    have HQ5_0 := Lib.hid (HQ4_0.out.alloc (.cells #[.int .i64 0, .int .i64 0, .int .i64 0] 24))
    have HQ5_1 := Lib.hid (HQ4_1.out.alloc (.cells #[.int .i64 0, .int .i64 0, .int .i64 0] 24))
    have HQ5_2 := Lib.hid (Blk.new w4 24 #[.int .i64 0, .int .i64 0, .int .i64 0])
    have HB5 := Lib.hid (HB4.out.alloc HB4.out.size (.cells #[.int .i64 0, .int .i64 0, .int .i64 0] 24))
    clear c4_0_0 c4_0_1 c4_0_2 z4_0 c4_1_0 c4_1_1 c4_1_2 z4_1
    have q6_0_0 := cell_regrown (HQ5_0.out.cell 0)
    have q6_0_1 := cell_regrown (HQ5_0.out.cell 1)
    have q6_0_2 := cell_regrown (HQ5_0.out.cell 2)
    have q6_1_0 := cell_regrown (HQ5_1.out.cell 0)
    have q6_1_1 := cell_regrown (HQ5_1.out.cell 1)
    have q6_1_2 := cell_regrown (HQ5_1.out.cell 2)
    have q6_2_0 := cell_regrown (HQ5_2.out.cell 0)
    have q6_2_1 := cell_regrown (HQ5_2.out.cell 1)
    have q6_2_2 := cell_regrown (HQ5_2.out.cell 2)
    simp at q6_0_0 q6_0_1 q6_0_2 q6_1_0 q6_1_1 q6_1_2 q6_2_0 q6_2_1 q6_2_2
    have A6_0 := fun (dd : Nat) (os : Array Obj) => Calls.regrown_of (hR (Go.Sort.grow (redrawn (w4.alloc (.cells #[.int .i64 0, .int .i64 0, .int .i64 0] 24)) dd) os))
    have A6_1 := fun (dd : Nat) (os : Array Obj) => Calls.regrown_of (Code_errno 1 (Go.Sort.grow (redrawn (w4.alloc (.cells #[.int .i64 0, .int .i64 0, .int .i64 0] 24)) dd) os) ((HG.out.below HB5.out).below (below_regrown (w4.alloc (.cells #[.int .i64 0, .int .i64 0, .int .i64 0] 24)) dd os)))
    refine wp_region_quiet_below (by kernel_rfl) (by kernel_rfl) ?_
    repeat (go_big_quiet_step (first | (go_at_call 10; exact A6_0 _ _) | (go_at_call 11; exact A6_1 _ _)))
    refine wpQuiet_nil ?_
    intro w6 hw6
    have hb6 : Below (w4.alloc (.cells #[.int .i64 0, .int .i64 0, .int .i64 0] 24)).heap.size (w4.alloc (.cells #[.int .i64 0, .int .i64 0, .int .i64 0] 24)) w6 := by
      obtain ⟨p, rfl⟩ := hw6
      exact below_regrown _ _ _
    clear hw6 q6_0_0 q6_0_1 q6_0_2 q6_1_0 q6_1_1 q6_1_2 q6_2_0 q6_2_1 q6_2_2 A6_0 A6_1
    have HQ6_0 := Lib.hid (HQ5_0.out.below hb6 HQ5_0.out.lt)
    have HQ6_1 := Lib.hid (HQ5_1.out.below hb6 HQ5_1.out.lt)
    have HQ6_2 := Lib.hid (HQ5_2.out.below hb6 HQ5_2.out.lt)
    have HB6 := Lib.hid (HB5.out.trans (hb6.mono HB5.out.size))
    clear hb6
    have c6_0_0 := HQ6_0.out.cell 0
    have c6_0_1 := HQ6_0.out.cell 1
    have c6_0_2 := HQ6_0.out.cell 2
    have z6_0 := HQ6_0.out.lt
    have c6_1_0 := HQ6_1.out.cell 0
    have c6_1_1 := HQ6_1.out.cell 1
    have c6_1_2 := HQ6_1.out.cell 2
    have z6_1 := HQ6_1.out.lt
    have c6_2_0 := HQ6_2.out.cell 0
    have c6_2_1 := HQ6_2.out.cell 1
    have c6_2_2 := HQ6_2.out.cell 2
    have z6_2 := HQ6_2.out.lt
    try simp at c6_0_0 c6_0_1 c6_0_2 c6_1_0 c6_1_1 c6_1_2 c6_2_0 c6_2_1 c6_2_2
    go_wp2_with fail
    go_ret
    exact ⟨by first | rfl | simp, HB6.out⟩
  · have hR := fun W => ORight_no (f := f) (i := i) (p := p) (by unfold okO; omega) W
    unfold eno ov at *
    have df : decide (f < 0) = false := decide_eq_false (by omega)
    have di : decide (i < 0) = true := decide_eq_true (by omega)
    clear h hg
    go_enter Tryd.func3, Tryd.ntmps3
    have HQ0 := Lib.hid (Blk.new w 24 #[.int .i64 f, .int .i64 i, .int .i64 p])
    have HB0 := Lib.hid (b_alloc w (.cells #[.int .i64 f, .int .i64 i, .int .i64 p] 24))
    go_wp2_with fail
    refine (awake11 _).mono ?_
    rintro e w1 ⟨rfl, hb1⟩
    have HQ1_0 := Lib.hid (HQ0.out.below hb1 HQ0.out.lt)
    have HB1 := Lib.hid (HB0.out.trans (hb1.mono HB0.out.size))
    clear hb1
    have c1_0_0 := HQ1_0.out.cell 0
    have c1_0_1 := HQ1_0.out.cell 1
    have c1_0_2 := HQ1_0.out.cell 2
    have z1_0 := HQ1_0.out.lt
    try simp at c1_0_0 c1_0_1 c1_0_2
    go_wp2_with fail
    refine (hF _).mono ?_
    rintro e w2 ⟨rfl, hb2⟩
    have HQ2_0 := Lib.hid (HQ1_0.out.below hb2 HQ1_0.out.lt)
    have HB2 := Lib.hid (HB1.out.trans (hb2.mono HB1.out.size))
    clear hb2 c1_0_0 c1_0_1 c1_0_2 z1_0
    have c2_0_0 := HQ2_0.out.cell 0
    have c2_0_1 := HQ2_0.out.cell 1
    have c2_0_2 := HQ2_0.out.cell 2
    have z2_0 := HQ2_0.out.lt
    try simp at c2_0_0 c2_0_1 c2_0_2
    go_wp2_with fail
    have HQ3_0 := Lib.hid (HQ2_0.out.alloc (.cells #[.int .i64 0, .int .i64 0, .int .i64 0] 24))
    have HQ3_1 := Lib.hid (Blk.new w2 24 #[.int .i64 0, .int .i64 0, .int .i64 0])
    have HB3 := Lib.hid (HB2.out.alloc HB2.out.size (.cells #[.int .i64 0, .int .i64 0, .int .i64 0] 24))
    refine (hP _).mono ?_
    rintro e w4 ⟨rfl, hb4⟩
    have HQ4_0 := Lib.hid (HQ3_0.out.below hb4 HQ3_0.out.lt)
    have HQ4_1 := Lib.hid (HQ3_1.out.below hb4 HQ3_1.out.lt)
    have HB4 := Lib.hid (HB3.out.trans (hb4.mono HB3.out.size))
    clear hb4 c2_0_0 c2_0_1 c2_0_2 z2_0
    have c4_0_0 := HQ4_0.out.cell 0
    have c4_0_1 := HQ4_0.out.cell 1
    have c4_0_2 := HQ4_0.out.cell 2
    have z4_0 := HQ4_0.out.lt
    have c4_1_0 := HQ4_1.out.cell 0
    have c4_1_1 := HQ4_1.out.cell 1
    have c4_1_2 := HQ4_1.out.cell 2
    have z4_1 := HQ4_1.out.lt
    try simp at c4_0_0 c4_0_1 c4_0_2 c4_1_0 c4_1_1 c4_1_2
    go_wp2_with fail
    have HQ5_0 := Lib.hid (HQ4_0.out.alloc (.cells #[.int .i64 0, .int .i64 0, .int .i64 0] 24))
    have HQ5_1 := Lib.hid (HQ4_1.out.alloc (.cells #[.int .i64 0, .int .i64 0, .int .i64 0] 24))
    have HQ5_2 := Lib.hid (Blk.new w4 24 #[.int .i64 0, .int .i64 0, .int .i64 0])
    have HB5 := Lib.hid (HB4.out.alloc HB4.out.size (.cells #[.int .i64 0, .int .i64 0, .int .i64 0] 24))
    clear c4_0_0 c4_0_1 c4_0_2 z4_0 c4_1_0 c4_1_1 c4_1_2 z4_1
    have q6_0_0 := cell_regrown (HQ5_0.out.cell 0)
    have q6_0_1 := cell_regrown (HQ5_0.out.cell 1)
    have q6_0_2 := cell_regrown (HQ5_0.out.cell 2)
    have q6_1_0 := cell_regrown (HQ5_1.out.cell 0)
    have q6_1_1 := cell_regrown (HQ5_1.out.cell 1)
    have q6_1_2 := cell_regrown (HQ5_1.out.cell 2)
    have q6_2_0 := cell_regrown (HQ5_2.out.cell 0)
    have q6_2_1 := cell_regrown (HQ5_2.out.cell 1)
    have q6_2_2 := cell_regrown (HQ5_2.out.cell 2)
    simp at q6_0_0 q6_0_1 q6_0_2 q6_1_0 q6_1_1 q6_1_2 q6_2_0 q6_2_1 q6_2_2
    have A6_0 := fun (dd : Nat) (os : Array Obj) => Calls.regrown_of (hR (Go.Sort.grow (redrawn (w4.alloc (.cells #[.int .i64 0, .int .i64 0, .int .i64 0] 24)) dd) os))
    have A6_1 := fun (dd : Nat) (os : Array Obj) => Calls.regrown_of (Code_errno 1 (Go.Sort.grow (redrawn (w4.alloc (.cells #[.int .i64 0, .int .i64 0, .int .i64 0] 24)) dd) os) ((HG.out.below HB5.out).below (below_regrown (w4.alloc (.cells #[.int .i64 0, .int .i64 0, .int .i64 0] 24)) dd os)))
    refine wp_region_quiet_below (by kernel_rfl) (by kernel_rfl) ?_
    repeat (go_big_quiet_step (first | (go_at_call 10; exact A6_0 _ _) | (go_at_call 11; exact A6_1 _ _)))
    refine wpQuiet_nil ?_
    intro w6 hw6
    have hb6 : Below (w4.alloc (.cells #[.int .i64 0, .int .i64 0, .int .i64 0] 24)).heap.size (w4.alloc (.cells #[.int .i64 0, .int .i64 0, .int .i64 0] 24)) w6 := by
      obtain ⟨p, rfl⟩ := hw6
      exact below_regrown _ _ _
    clear hw6 q6_0_0 q6_0_1 q6_0_2 q6_1_0 q6_1_1 q6_1_2 q6_2_0 q6_2_1 q6_2_2 A6_0 A6_1
    have HQ6_0 := Lib.hid (HQ5_0.out.below hb6 HQ5_0.out.lt)
    have HQ6_1 := Lib.hid (HQ5_1.out.below hb6 HQ5_1.out.lt)
    have HQ6_2 := Lib.hid (HQ5_2.out.below hb6 HQ5_2.out.lt)
    have HB6 := Lib.hid (HB5.out.trans (hb6.mono HB5.out.size))
    clear hb6
    have c6_0_0 := HQ6_0.out.cell 0
    have c6_0_1 := HQ6_0.out.cell 1
    have c6_0_2 := HQ6_0.out.cell 2
    have z6_0 := HQ6_0.out.lt
    have c6_1_0 := HQ6_1.out.cell 0
    have c6_1_1 := HQ6_1.out.cell 1
    have c6_1_2 := HQ6_1.out.cell 2
    have z6_1 := HQ6_1.out.lt
    have c6_2_0 := HQ6_2.out.cell 0
    have c6_2_1 := HQ6_2.out.cell 1
    have c6_2_2 := HQ6_2.out.cell 2
    have z6_2 := HQ6_2.out.lt
    try simp at c6_0_0 c6_0_1 c6_0_2 c6_1_0 c6_1_1 c6_1_2 c6_2_0 c6_2_1 c6_2_2
    go_wp2_with fail
    go_ret
    exact ⟨by first | rfl | simp, HB6.out⟩
  · have hR := fun W => ORight_no (f := f) (i := i) (p := p) (by unfold okO; omega) W
    unfold eno ov at *
    have df : decide (f < 0) = false := decide_eq_false (by omega)
    have di : decide (i < 0) = false := decide_eq_false (by omega)
    have dp : decide (p < 0) = true := decide_eq_true (by omega)
    clear h hg
    go_enter Tryd.func3, Tryd.ntmps3
    have HQ0 := Lib.hid (Blk.new w 24 #[.int .i64 f, .int .i64 i, .int .i64 p])
    have HB0 := Lib.hid (b_alloc w (.cells #[.int .i64 f, .int .i64 i, .int .i64 p] 24))
    go_wp2_with fail
    refine (awake11 _).mono ?_
    rintro e w1 ⟨rfl, hb1⟩
    have HQ1_0 := Lib.hid (HQ0.out.below hb1 HQ0.out.lt)
    have HB1 := Lib.hid (HB0.out.trans (hb1.mono HB0.out.size))
    clear hb1
    have c1_0_0 := HQ1_0.out.cell 0
    have c1_0_1 := HQ1_0.out.cell 1
    have c1_0_2 := HQ1_0.out.cell 2
    have z1_0 := HQ1_0.out.lt
    try simp at c1_0_0 c1_0_1 c1_0_2
    go_wp2_with fail
    refine (hF _).mono ?_
    rintro e w2 ⟨rfl, hb2⟩
    have HQ2_0 := Lib.hid (HQ1_0.out.below hb2 HQ1_0.out.lt)
    have HB2 := Lib.hid (HB1.out.trans (hb2.mono HB1.out.size))
    clear hb2 c1_0_0 c1_0_1 c1_0_2 z1_0
    have c2_0_0 := HQ2_0.out.cell 0
    have c2_0_1 := HQ2_0.out.cell 1
    have c2_0_2 := HQ2_0.out.cell 2
    have z2_0 := HQ2_0.out.lt
    try simp at c2_0_0 c2_0_1 c2_0_2
    go_wp2_with fail
    have HQ3_0 := Lib.hid (HQ2_0.out.alloc (.cells #[.int .i64 0, .int .i64 0, .int .i64 0] 24))
    have HQ3_1 := Lib.hid (Blk.new w2 24 #[.int .i64 0, .int .i64 0, .int .i64 0])
    have HB3 := Lib.hid (HB2.out.alloc HB2.out.size (.cells #[.int .i64 0, .int .i64 0, .int .i64 0] 24))
    refine (hP _).mono ?_
    rintro e w4 ⟨rfl, hb4⟩
    have HQ4_0 := Lib.hid (HQ3_0.out.below hb4 HQ3_0.out.lt)
    have HQ4_1 := Lib.hid (HQ3_1.out.below hb4 HQ3_1.out.lt)
    have HB4 := Lib.hid (HB3.out.trans (hb4.mono HB3.out.size))
    clear hb4 c2_0_0 c2_0_1 c2_0_2 z2_0
    have c4_0_0 := HQ4_0.out.cell 0
    have c4_0_1 := HQ4_0.out.cell 1
    have c4_0_2 := HQ4_0.out.cell 2
    have z4_0 := HQ4_0.out.lt
    have c4_1_0 := HQ4_1.out.cell 0
    have c4_1_1 := HQ4_1.out.cell 1
    have c4_1_2 := HQ4_1.out.cell 2
    have z4_1 := HQ4_1.out.lt
    try simp at c4_0_0 c4_0_1 c4_0_2 c4_1_0 c4_1_1 c4_1_2
    go_wp2_with fail
    have HQ5_0 := Lib.hid (HQ4_0.out.alloc (.cells #[.int .i64 0, .int .i64 0, .int .i64 0] 24))
    have HQ5_1 := Lib.hid (HQ4_1.out.alloc (.cells #[.int .i64 0, .int .i64 0, .int .i64 0] 24))
    have HQ5_2 := Lib.hid (Blk.new w4 24 #[.int .i64 0, .int .i64 0, .int .i64 0])
    have HB5 := Lib.hid (HB4.out.alloc HB4.out.size (.cells #[.int .i64 0, .int .i64 0, .int .i64 0] 24))
    clear c4_0_0 c4_0_1 c4_0_2 z4_0 c4_1_0 c4_1_1 c4_1_2 z4_1
    have q6_0_0 := cell_regrown (HQ5_0.out.cell 0)
    have q6_0_1 := cell_regrown (HQ5_0.out.cell 1)
    have q6_0_2 := cell_regrown (HQ5_0.out.cell 2)
    have q6_1_0 := cell_regrown (HQ5_1.out.cell 0)
    have q6_1_1 := cell_regrown (HQ5_1.out.cell 1)
    have q6_1_2 := cell_regrown (HQ5_1.out.cell 2)
    have q6_2_0 := cell_regrown (HQ5_2.out.cell 0)
    have q6_2_1 := cell_regrown (HQ5_2.out.cell 1)
    have q6_2_2 := cell_regrown (HQ5_2.out.cell 2)
    simp at q6_0_0 q6_0_1 q6_0_2 q6_1_0 q6_1_1 q6_1_2 q6_2_0 q6_2_1 q6_2_2
    have A6_0 := fun (dd : Nat) (os : Array Obj) => Calls.regrown_of (hR (Go.Sort.grow (redrawn (w4.alloc (.cells #[.int .i64 0, .int .i64 0, .int .i64 0] 24)) dd) os))
    have A6_1 := fun (dd : Nat) (os : Array Obj) => Calls.regrown_of (Code_errno 1 (Go.Sort.grow (redrawn (w4.alloc (.cells #[.int .i64 0, .int .i64 0, .int .i64 0] 24)) dd) os) ((HG.out.below HB5.out).below (below_regrown (w4.alloc (.cells #[.int .i64 0, .int .i64 0, .int .i64 0] 24)) dd os)))
    refine wp_region_quiet_below (by kernel_rfl) (by kernel_rfl) ?_
    repeat (go_big_quiet_step (first | (go_at_call 10; exact A6_0 _ _) | (go_at_call 11; exact A6_1 _ _)))
    refine wpQuiet_nil ?_
    intro w6 hw6
    have hb6 : Below (w4.alloc (.cells #[.int .i64 0, .int .i64 0, .int .i64 0] 24)).heap.size (w4.alloc (.cells #[.int .i64 0, .int .i64 0, .int .i64 0] 24)) w6 := by
      obtain ⟨p, rfl⟩ := hw6
      exact below_regrown _ _ _
    clear hw6 q6_0_0 q6_0_1 q6_0_2 q6_1_0 q6_1_1 q6_1_2 q6_2_0 q6_2_1 q6_2_2 A6_0 A6_1
    have HQ6_0 := Lib.hid (HQ5_0.out.below hb6 HQ5_0.out.lt)
    have HQ6_1 := Lib.hid (HQ5_1.out.below hb6 HQ5_1.out.lt)
    have HQ6_2 := Lib.hid (HQ5_2.out.below hb6 HQ5_2.out.lt)
    have HB6 := Lib.hid (HB5.out.trans (hb6.mono HB5.out.size))
    clear hb6
    have c6_0_0 := HQ6_0.out.cell 0
    have c6_0_1 := HQ6_0.out.cell 1
    have c6_0_2 := HQ6_0.out.cell 2
    have z6_0 := HQ6_0.out.lt
    have c6_1_0 := HQ6_1.out.cell 0
    have c6_1_1 := HQ6_1.out.cell 1
    have c6_1_2 := HQ6_1.out.cell 2
    have z6_1 := HQ6_1.out.lt
    have c6_2_0 := HQ6_2.out.cell 0
    have c6_2_1 := HQ6_2.out.cell 1
    have c6_2_2 := HQ6_2.out.cell 2
    have z6_2 := HQ6_2.out.lt
    try simp at c6_0_0 c6_0_1 c6_0_2 c6_1_0 c6_1_1 c6_1_2 c6_2_0 c6_2_1 c6_2_2
    go_wp2_with fail
    go_ret
    exact ⟨by first | rfl | simp, HB6.out⟩
  · have hR := fun W => ORight_yes (show okO f i p from ⟨h0, h1, h2⟩) W
    unfold eno ov at *
    have df : decide (f < 0) = false := decide_eq_false (by omega)
    have di : decide (i < 0) = false := decide_eq_false (by omega)
    have dp : decide (p < 0) = false := decide_eq_false (by omega)
    have da : decide (a < 0) = true := decide_eq_true (by omega)
    clear h hg
    go_enter Tryd.func3, Tryd.ntmps3
    have HQ0 := Lib.hid (Blk.new w 24 #[.int .i64 f, .int .i64 i, .int .i64 p])
    have HB0 := Lib.hid (b_alloc w (.cells #[.int .i64 f, .int .i64 i, .int .i64 p] 24))
    go_wp2_with fail
    refine (awake11 _).mono ?_
    rintro e w1 ⟨rfl, hb1⟩
    have HQ1_0 := Lib.hid (HQ0.out.below hb1 HQ0.out.lt)
    have HB1 := Lib.hid (HB0.out.trans (hb1.mono HB0.out.size))
    clear hb1
    have c1_0_0 := HQ1_0.out.cell 0
    have c1_0_1 := HQ1_0.out.cell 1
    have c1_0_2 := HQ1_0.out.cell 2
    have z1_0 := HQ1_0.out.lt
    try simp at c1_0_0 c1_0_1 c1_0_2
    go_wp2_with fail
    refine (hF _).mono ?_
    rintro e w2 ⟨rfl, hb2⟩
    have HQ2_0 := Lib.hid (HQ1_0.out.below hb2 HQ1_0.out.lt)
    have HB2 := Lib.hid (HB1.out.trans (hb2.mono HB1.out.size))
    clear hb2 c1_0_0 c1_0_1 c1_0_2 z1_0
    have c2_0_0 := HQ2_0.out.cell 0
    have c2_0_1 := HQ2_0.out.cell 1
    have c2_0_2 := HQ2_0.out.cell 2
    have z2_0 := HQ2_0.out.lt
    try simp at c2_0_0 c2_0_1 c2_0_2
    go_wp2_with fail
    have HQ3_0 := Lib.hid (HQ2_0.out.alloc (.cells #[.int .i64 0, .int .i64 0, .int .i64 0] 24))
    have HQ3_1 := Lib.hid (Blk.new w2 24 #[.int .i64 0, .int .i64 0, .int .i64 0])
    have HB3 := Lib.hid (HB2.out.alloc HB2.out.size (.cells #[.int .i64 0, .int .i64 0, .int .i64 0] 24))
    refine (hP _).mono ?_
    rintro e w4 ⟨rfl, hb4⟩
    have HQ4_0 := Lib.hid (HQ3_0.out.below hb4 HQ3_0.out.lt)
    have HQ4_1 := Lib.hid (HQ3_1.out.below hb4 HQ3_1.out.lt)
    have HB4 := Lib.hid (HB3.out.trans (hb4.mono HB3.out.size))
    clear hb4 c2_0_0 c2_0_1 c2_0_2 z2_0
    have c4_0_0 := HQ4_0.out.cell 0
    have c4_0_1 := HQ4_0.out.cell 1
    have c4_0_2 := HQ4_0.out.cell 2
    have z4_0 := HQ4_0.out.lt
    have c4_1_0 := HQ4_1.out.cell 0
    have c4_1_1 := HQ4_1.out.cell 1
    have c4_1_2 := HQ4_1.out.cell 2
    have z4_1 := HQ4_1.out.lt
    try simp at c4_0_0 c4_0_1 c4_0_2 c4_1_0 c4_1_1 c4_1_2
    go_wp2_with fail
    have HQ5_0 := Lib.hid (HQ4_0.out.alloc (.cells #[.int .i64 0, .int .i64 0, .int .i64 0] 24))
    have HQ5_1 := Lib.hid (HQ4_1.out.alloc (.cells #[.int .i64 0, .int .i64 0, .int .i64 0] 24))
    have HQ5_2 := Lib.hid (Blk.new w4 24 #[.int .i64 0, .int .i64 0, .int .i64 0])
    have HB5 := Lib.hid (HB4.out.alloc HB4.out.size (.cells #[.int .i64 0, .int .i64 0, .int .i64 0] 24))
    clear c4_0_0 c4_0_1 c4_0_2 z4_0 c4_1_0 c4_1_1 c4_1_2 z4_1
    have q6_0_0 := cell_regrown (HQ5_0.out.cell 0)
    have q6_0_1 := cell_regrown (HQ5_0.out.cell 1)
    have q6_0_2 := cell_regrown (HQ5_0.out.cell 2)
    have q6_1_0 := cell_regrown (HQ5_1.out.cell 0)
    have q6_1_1 := cell_regrown (HQ5_1.out.cell 1)
    have q6_1_2 := cell_regrown (HQ5_1.out.cell 2)
    have q6_2_0 := cell_regrown (HQ5_2.out.cell 0)
    have q6_2_1 := cell_regrown (HQ5_2.out.cell 1)
    have q6_2_2 := cell_regrown (HQ5_2.out.cell 2)
    simp at q6_0_0 q6_0_1 q6_0_2 q6_1_0 q6_1_1 q6_1_2 q6_2_0 q6_2_1 q6_2_2
    have A6_0 := fun (dd : Nat) (os : Array Obj) => Calls.regrown_of (hR (Go.Sort.grow (redrawn (w4.alloc (.cells #[.int .i64 0, .int .i64 0, .int .i64 0] 24)) dd) os))
    have A6_1 := fun (dd : Nat) (os : Array Obj) => Calls.regrown_of (Code_errno 1 (Go.Sort.grow (redrawn (w4.alloc (.cells #[.int .i64 0, .int .i64 0, .int .i64 0] 24)) dd) os) ((HG.out.below HB5.out).below (below_regrown (w4.alloc (.cells #[.int .i64 0, .int .i64 0, .int .i64 0] 24)) dd os)))
    refine wp_region_quiet_below (by kernel_rfl) (by kernel_rfl) ?_
    repeat (go_big_quiet_step (first | (go_at_call 10; exact A6_0 _ _) | (go_at_call 11; exact A6_1 _ _)))
    refine wpQuiet_nil ?_
    intro w6 hw6
    have hb6 : Below (w4.alloc (.cells #[.int .i64 0, .int .i64 0, .int .i64 0] 24)).heap.size (w4.alloc (.cells #[.int .i64 0, .int .i64 0, .int .i64 0] 24)) w6 := by
      obtain ⟨p, rfl⟩ := hw6
      exact below_regrown _ _ _
    clear hw6 q6_0_0 q6_0_1 q6_0_2 q6_1_0 q6_1_1 q6_1_2 q6_2_0 q6_2_1 q6_2_2 A6_0 A6_1
    have HQ6_0 := Lib.hid (HQ5_0.out.below hb6 HQ5_0.out.lt)
    have HQ6_1 := Lib.hid (HQ5_1.out.below hb6 HQ5_1.out.lt)
    have HQ6_2 := Lib.hid (HQ5_2.out.below hb6 HQ5_2.out.lt)
    have HB6 := Lib.hid (HB5.out.trans (hb6.mono HB5.out.size))
    clear hb6
    have c6_0_0 := HQ6_0.out.cell 0
    have c6_0_1 := HQ6_0.out.cell 1
    have c6_0_2 := HQ6_0.out.cell 2
    have z6_0 := HQ6_0.out.lt
    have c6_1_0 := HQ6_1.out.cell 0
    have c6_1_1 := HQ6_1.out.cell 1
    have c6_1_2 := HQ6_1.out.cell 2
    have z6_1 := HQ6_1.out.lt
    have c6_2_0 := HQ6_2.out.cell 0
    have c6_2_1 := HQ6_2.out.cell 1
    have c6_2_2 := HQ6_2.out.cell 2
    have z6_2 := HQ6_2.out.lt
    try simp at c6_0_0 c6_0_1 c6_0_2 c6_1_0 c6_1_1 c6_1_2 c6_2_0 c6_2_1 c6_2_2
    go_wp2_with fail
    go_ret
    exact ⟨by first | rfl | simp, HB6.out⟩
set_option maxRecDepth 20000 in
set_option maxHeartbeats 8000000 in
theorem SPays_0 {f i p a : Int} (hk : okO f i p) (h0 : 0 ≤ a) (ha : a ≤ 9223372036854775807) (w : World) : Calls Tryd.prog 3 #[ov f i p, .int .u8 0, .int .i64 a] w (Ret (.bool true) w) := by
  obtain ⟨x, y, z, r, hg0⟩ := goes_any 0 f i p a
  have hP := fun W => Pay_ok hk h0 ha hg0 W
  have hA0 := fun W => RParts_0 hk h0 ha hg0 W
  have hO := fun W => own11 f i p W
  have hO1 := fun W => own11 x y z W
  have hR := fun W => ORight_yes hk W
  have hE1 := fun W => eqA x y z W
  have hE2 := fun (u v q : Int) W => eqA u v q W
  obtain ⟨u, v, q, l, hg1⟩ := goes_any 0 f i p a
  have hF := fun W => From_0 hk h0 ha hg1 W
  have hA1 := fun W => RParts_0 hk h0 ha hg1 W
  have hO2 := fun W => own11 u v q W
  clear hg1
  obtain ⟨k0, k1, k2⟩ := hk
  have e0 : ¬ f < 0 := by omega
  have e1 : ¬ i < 0 := by omega
  have e2 : ¬ p < 0 := by omega
  have e3 : ¬ a < 0 := by omega
  unfold ov at *
  clear hg0 k0 k1 k2 h0 ha
  go_enter Tryd.func3, Tryd.ntmps3
  have HQ0 := Lib.hid (Blk.new w 24 #[.int .i64 f, .int .i64 i, .int .i64 p])
  have HB0 := Lib.hid (b_alloc w (.cells #[.int .i64 f, .int .i64 i, .int .i64 p] 24))
  go_wp2_with fail
  refine (awake11 _).mono ?_
  rintro e w1 ⟨rfl, hb1⟩
  have HQ1_0 := Lib.hid (HQ0.out.below hb1 HQ0.out.lt)
  have HB1 := Lib.hid (HB0.out.trans (hb1.mono HB0.out.size))
  clear hb1
  have c1_0_0 := HQ1_0.out.cell 0
  have c1_0_1 := HQ1_0.out.cell 1
  have c1_0_2 := HQ1_0.out.cell 2
  have z1_0 := HQ1_0.out.lt
  try simp at c1_0_0 c1_0_1 c1_0_2
  go_wp2_with fail
  refine (hF _).mono ?_
  rintro e w2 ⟨rfl, hb2⟩
  have HQ2_0 := Lib.hid (HQ1_0.out.below hb2 HQ1_0.out.lt)
  have HB2 := Lib.hid (HB1.out.trans (hb2.mono HB1.out.size))
  clear hb2 c1_0_0 c1_0_1 c1_0_2 z1_0
  have c2_0_0 := HQ2_0.out.cell 0
  have c2_0_1 := HQ2_0.out.cell 1
  have c2_0_2 := HQ2_0.out.cell 2
  have z2_0 := HQ2_0.out.lt
  try simp at c2_0_0 c2_0_1 c2_0_2
  go_wp2_with fail
  have HQ3_0 := Lib.hid (HQ2_0.out.alloc (.cells #[.int .i64 u, .int .i64 v, .int .i64 q] 24))
  have HQ3_1 := Lib.hid (Blk.new w2 24 #[.int .i64 u, .int .i64 v, .int .i64 q])
  have HB3 := Lib.hid (HB2.out.alloc HB2.out.size (.cells #[.int .i64 u, .int .i64 v, .int .i64 q] 24))
  refine (hP _).mono ?_
  rintro e w4 ⟨rfl, hb4⟩
  have HQ4_0 := Lib.hid (HQ3_0.out.below hb4 HQ3_0.out.lt)
  have HQ4_1 := Lib.hid (HQ3_1.out.below hb4 HQ3_1.out.lt)
  have HB4 := Lib.hid (HB3.out.trans (hb4.mono HB3.out.size))
  clear hb4 c2_0_0 c2_0_1 c2_0_2 z2_0
  have c4_0_0 := HQ4_0.out.cell 0
  have c4_0_1 := HQ4_0.out.cell 1
  have c4_0_2 := HQ4_0.out.cell 2
  have z4_0 := HQ4_0.out.lt
  have c4_1_0 := HQ4_1.out.cell 0
  have c4_1_1 := HQ4_1.out.cell 1
  have c4_1_2 := HQ4_1.out.cell 2
  have z4_1 := HQ4_1.out.lt
  try simp at c4_0_0 c4_0_1 c4_0_2 c4_1_0 c4_1_1 c4_1_2
  go_wp2_with fail
  have HQ5_0 := Lib.hid (HQ4_0.out.alloc (.cells #[.int .i64 x, .int .i64 y, .int .i64 z] 24))
  have HQ5_1 := Lib.hid (HQ4_1.out.alloc (.cells #[.int .i64 x, .int .i64 y, .int .i64 z] 24))
  have HQ5_2 := Lib.hid (Blk.new w4 24 #[.int .i64 x, .int .i64 y, .int .i64 z])
  have HB5 := Lib.hid (HB4.out.alloc HB4.out.size (.cells #[.int .i64 x, .int .i64 y, .int .i64 z] 24))
  refine (hO _).mono ?_
  rintro e w6 ⟨rfl, hb6⟩
  have HQ6_0 := Lib.hid (HQ5_0.out.below hb6 HQ5_0.out.lt)
  have HQ6_1 := Lib.hid (HQ5_1.out.below hb6 HQ5_1.out.lt)
  have HQ6_2 := Lib.hid (HQ5_2.out.below hb6 HQ5_2.out.lt)
  have HB6 := Lib.hid (HB5.out.trans (hb6.mono HB5.out.size))
  clear hb6 c4_0_0 c4_0_1 c4_0_2 z4_0 c4_1_0 c4_1_1 c4_1_2 z4_1
  have c6_0_0 := HQ6_0.out.cell 0
  have c6_0_1 := HQ6_0.out.cell 1
  have c6_0_2 := HQ6_0.out.cell 2
  have z6_0 := HQ6_0.out.lt
  have c6_1_0 := HQ6_1.out.cell 0
  have c6_1_1 := HQ6_1.out.cell 1
  have c6_1_2 := HQ6_1.out.cell 2
  have z6_1 := HQ6_1.out.lt
  have c6_2_0 := HQ6_2.out.cell 0
  have c6_2_1 := HQ6_2.out.cell 1
  have c6_2_2 := HQ6_2.out.cell 2
  have z6_2 := HQ6_2.out.lt
  try simp at c6_0_0 c6_0_1 c6_0_2 c6_1_0 c6_1_1 c6_1_2 c6_2_0 c6_2_1 c6_2_2
  go_wp2_with fail
  refine (hA0 _).mono ?_
  rintro e w7 ⟨rfl, hb7⟩
  have HQ7_0 := Lib.hid (HQ6_0.out.below hb7 HQ6_0.out.lt)
  have HQ7_1 := Lib.hid (HQ6_1.out.below hb7 HQ6_1.out.lt)
  have HQ7_2 := Lib.hid (HQ6_2.out.below hb7 HQ6_2.out.lt)
  have HB7 := Lib.hid (HB6.out.trans (hb7.mono HB6.out.size))
  clear hb7 c6_0_0 c6_0_1 c6_0_2 z6_0 c6_1_0 c6_1_1 c6_1_2 z6_1 c6_2_0 c6_2_1 c6_2_2 z6_2
  have c7_0_0 := HQ7_0.out.cell 0
  have c7_0_1 := HQ7_0.out.cell 1
  have c7_0_2 := HQ7_0.out.cell 2
  have z7_0 := HQ7_0.out.lt
  have c7_1_0 := HQ7_1.out.cell 0
  have c7_1_1 := HQ7_1.out.cell 1
  have c7_1_2 := HQ7_1.out.cell 2
  have z7_1 := HQ7_1.out.lt
  have c7_2_0 := HQ7_2.out.cell 0
  have c7_2_1 := HQ7_2.out.cell 1
  have c7_2_2 := HQ7_2.out.cell 2
  have z7_2 := HQ7_2.out.lt
  try simp at c7_0_0 c7_0_1 c7_0_2 c7_1_0 c7_1_1 c7_1_2 c7_2_0 c7_2_1 c7_2_2
  go_wp2_with fail
  have HBm : Hid (w.heap.size ≤ w7.heap.size) := Lib.hid (HB7.out.size)
  have HLT0 := Lib.hid HQ7_0.out.lt
  have HLT1 := Lib.hid HQ7_1.out.lt
  have HLT2 := Lib.hid HQ7_2.out.lt
  have HQ8_0 := Lib.hid (HQ7_0.out.alloc (.cells #[.int .i64 x, .int .i64 y, .int .i64 z] 33))
  have HQ8_1 := Lib.hid (HQ7_1.out.alloc (.cells #[.int .i64 x, .int .i64 y, .int .i64 z] 33))
  have HQ8_2 := Lib.hid (HQ7_2.out.alloc (.cells #[.int .i64 x, .int .i64 y, .int .i64 z] 33))
  have HQ8_3 := Lib.hid (Blk.new w7 33 #[.int .i64 x, .int .i64 y, .int .i64 z])
  have HB8 := Lib.hid (HB7.out.alloc HB7.out.size (.cells #[.int .i64 x, .int .i64 y, .int .i64 z] 33))
  clear c7_0_0 c7_0_1 c7_0_2 z7_0 c7_1_0 c7_1_1 c7_1_2 z7_1 c7_2_0 c7_2_1 c7_2_2 z7_2
  have q9_0_0 := cell_regrown (HQ8_0.out.cell 0)
  have q9_0_1 := cell_regrown (HQ8_0.out.cell 1)
  have q9_0_2 := cell_regrown (HQ8_0.out.cell 2)
  have q9_1_0 := cell_regrown (HQ8_1.out.cell 0)
  have q9_1_1 := cell_regrown (HQ8_1.out.cell 1)
  have q9_1_2 := cell_regrown (HQ8_1.out.cell 2)
  have q9_2_0 := cell_regrown (HQ8_2.out.cell 0)
  have q9_2_1 := cell_regrown (HQ8_2.out.cell 1)
  have q9_2_2 := cell_regrown (HQ8_2.out.cell 2)
  have q9_3_0 := cell_regrown (HQ8_3.out.cell 0)
  have q9_3_1 := cell_regrown (HQ8_3.out.cell 1)
  have q9_3_2 := cell_regrown (HQ8_3.out.cell 2)
  simp at q9_0_0 q9_0_1 q9_0_2 q9_1_0 q9_1_1 q9_1_2 q9_2_0 q9_2_1 q9_2_2 q9_3_0 q9_3_1 q9_3_2
  have A9_0 := fun (dd : Nat) (os : Array Obj) => Calls.regrown_of (hO1 (Go.Sort.grow (redrawn (w7.alloc (.cells #[.int .i64 x, .int .i64 y, .int .i64 z] 33)) dd) os))
  refine wp_region_quiet_below (by kernel_rfl) (by kernel_rfl) ?_
  repeat (go_big_quiet_step (first | (go_at_call 13; exact A9_0 _ _)))
  refine wpQuiet_nil ?_
  intro w9 hw9
  have hb9 : Below (w7.alloc (.cells #[.int .i64 x, .int .i64 y, .int .i64 z] 33)).heap.size (w7.alloc (.cells #[.int .i64 x, .int .i64 y, .int .i64 z] 33)) w9 := by
    obtain ⟨p, rfl⟩ := hw9
    exact below_regrown _ _ _
  clear hw9 q9_0_0 q9_0_1 q9_0_2 q9_1_0 q9_1_1 q9_1_2 q9_2_0 q9_2_1 q9_2_2 q9_3_0 q9_3_1 q9_3_2 A9_0
  have HQ9_0 := Lib.hid (HQ8_0.out.below hb9 HQ8_0.out.lt)
  have HQ9_1 := Lib.hid (HQ8_1.out.below hb9 HQ8_1.out.lt)
  have HQ9_2 := Lib.hid (HQ8_2.out.below hb9 HQ8_2.out.lt)
  have HQ9_3 := Lib.hid (HQ8_3.out.below hb9 HQ8_3.out.lt)
  have HB9 := Lib.hid (HB8.out.trans (hb9.mono HB8.out.size))
  clear hb9
  have c9_0_0 := HQ9_0.out.cell 0
  have c9_0_1 := HQ9_0.out.cell 1
  have c9_0_2 := HQ9_0.out.cell 2
  have z9_0 := HQ9_0.out.lt
  have c9_1_0 := HQ9_1.out.cell 0
  have c9_1_1 := HQ9_1.out.cell 1
  have c9_1_2 := HQ9_1.out.cell 2
  have z9_1 := HQ9_1.out.lt
  have c9_2_0 := HQ9_2.out.cell 0
  have c9_2_1 := HQ9_2.out.cell 1
  have c9_2_2 := HQ9_2.out.cell 2
  have z9_2 := HQ9_2.out.lt
  have c9_3_0 := HQ9_3.out.cell 0
  have c9_3_1 := HQ9_3.out.cell 1
  have c9_3_2 := HQ9_3.out.cell 2
  have z9_3 := HQ9_3.out.lt
  try simp at c9_0_0 c9_0_1 c9_0_2 c9_1_0 c9_1_1 c9_1_2 c9_2_0 c9_2_1 c9_2_2 c9_3_0 c9_3_1 c9_3_2
  go_wp2_with fail
  refine (hO _).mono ?_
  rintro e w10 ⟨rfl, hb10⟩
  have HQ10_0 := Lib.hid (HQ9_0.out.below hb10 HQ9_0.out.lt)
  have HQ10_1 := Lib.hid (HQ9_1.out.below hb10 HQ9_1.out.lt)
  have HQ10_2 := Lib.hid (HQ9_2.out.below hb10 HQ9_2.out.lt)
  have HQ10_3 := Lib.hid (HQ9_3.out.below hb10 HQ9_3.out.lt)
  have HB10 := Lib.hid (HB9.out.trans (hb10.mono HB9.out.size))
  clear hb10 c9_0_0 c9_0_1 c9_0_2 z9_0 c9_1_0 c9_1_1 c9_1_2 z9_1 c9_2_0 c9_2_1 c9_2_2 z9_2 c9_3_0 c9_3_1 c9_3_2 z9_3
  have c10_0_0 := HQ10_0.out.cell 0
  have c10_0_1 := HQ10_0.out.cell 1
  have c10_0_2 := HQ10_0.out.cell 2
  have z10_0 := HQ10_0.out.lt
  have c10_1_0 := HQ10_1.out.cell 0
  have c10_1_1 := HQ10_1.out.cell 1
  have c10_1_2 := HQ10_1.out.cell 2
  have z10_1 := HQ10_1.out.lt
  have c10_2_0 := HQ10_2.out.cell 0
  have c10_2_1 := HQ10_2.out.cell 1
  have c10_2_2 := HQ10_2.out.cell 2
  have z10_2 := HQ10_2.out.lt
  have c10_3_0 := HQ10_3.out.cell 0
  have c10_3_1 := HQ10_3.out.cell 1
  have c10_3_2 := HQ10_3.out.cell 2
  have z10_3 := HQ10_3.out.lt
  try simp at c10_0_0 c10_0_1 c10_0_2 c10_1_0 c10_1_1 c10_1_2 c10_2_0 c10_2_1 c10_2_2 c10_3_0 c10_3_1 c10_3_2
  go_wp2_with fail
  refine (hA1 _).mono ?_
  rintro e w11 ⟨rfl, hb11⟩
  have HQ11_0 := Lib.hid (HQ10_0.out.below hb11 HQ10_0.out.lt)
  have HQ11_1 := Lib.hid (HQ10_1.out.below hb11 HQ10_1.out.lt)
  have HQ11_2 := Lib.hid (HQ10_2.out.below hb11 HQ10_2.out.lt)
  have HQ11_3 := Lib.hid (HQ10_3.out.below hb11 HQ10_3.out.lt)
  have HB11 := Lib.hid (HB10.out.trans (hb11.mono HB10.out.size))
  clear hb11 c10_0_0 c10_0_1 c10_0_2 z10_0 c10_1_0 c10_1_1 c10_1_2 z10_1 c10_2_0 c10_2_1 c10_2_2 z10_2 c10_3_0 c10_3_1 c10_3_2 z10_3
  have c11_0_0 := HQ11_0.out.cell 0
  have c11_0_1 := HQ11_0.out.cell 1
  have c11_0_2 := HQ11_0.out.cell 2
  have z11_0 := HQ11_0.out.lt
  have c11_1_0 := HQ11_1.out.cell 0
  have c11_1_1 := HQ11_1.out.cell 1
  have c11_1_2 := HQ11_1.out.cell 2
  have z11_1 := HQ11_1.out.lt
  have c11_2_0 := HQ11_2.out.cell 0
  have c11_2_1 := HQ11_2.out.cell 1
  have c11_2_2 := HQ11_2.out.cell 2
  have z11_2 := HQ11_2.out.lt
  have c11_3_0 := HQ11_3.out.cell 0
  have f11_3_0 := HQ11_3.out.frozen 0
  have c11_3_1 := HQ11_3.out.cell 1
  have f11_3_1 := HQ11_3.out.frozen 1
  have c11_3_2 := HQ11_3.out.cell 2
  have f11_3_2 := HQ11_3.out.frozen 2
  have z11_3 := HQ11_3.out.lt
  try simp at c11_0_0 c11_0_1 c11_0_2 c11_1_0 c11_1_1 c11_1_2 c11_2_0 c11_2_1 c11_2_2 c11_3_0 f11_3_0 c11_3_1 f11_3_1 c11_3_2 f11_3_2
  go_wp2_with fail
  obtain ⟨W9, hW9⟩ : ∃ W, (((w11.setCell ⟨w7.heap.size, 0, none⟩ (.int .i64 u)).setCell ⟨w7.heap.size, 1, none⟩ (.int .i64 v)).setCell ⟨w7.heap.size, 2, none⟩ (.int .i64 q)) = W := ⟨_, rfl⟩
  have HX9 : Hid (Blk W9 w7.heap.size 33 #[.int .i64 u, .int .i64 v, .int .i64 q]) := Lib.hid (by rw [← hW9]; exact set3 HQ11_3.out _ _ _)
  have HY0 : Hid (Blk W9 _ 24 #[.int .i64 f, .int .i64 i, .int .i64 p]) := Lib.hid (by rw [← hW9]; exact ((HQ11_0.out.far (by have := HLT0.out; show _ ≠ w7.heap.size; omega) _).far (by have := HLT0.out; show _ ≠ w7.heap.size; omega) _).far (by have := HLT0.out; show _ ≠ w7.heap.size; omega) _)
  have HY1 : Hid (Blk W9 _ 24 #[.int .i64 u, .int .i64 v, .int .i64 q]) := Lib.hid (by rw [← hW9]; exact ((HQ11_1.out.far (by have := HLT1.out; show _ ≠ w7.heap.size; omega) _).far (by have := HLT1.out; show _ ≠ w7.heap.size; omega) _).far (by have := HLT1.out; show _ ≠ w7.heap.size; omega) _)
  have HB9 : Hid (Below w.heap.size w W9) := Lib.hid (by rw [← hW9]; exact below_set3 HB11.out (HBm.out) _ _ _)
  rw [hW9]
  clear hW9 c11_0_0 c11_0_1 c11_0_2 z11_0 c11_1_0 c11_1_1 c11_1_2 z11_1 c11_2_0 c11_2_1 c11_2_2 z11_2 c11_3_0 f11_3_0 c11_3_1 f11_3_1 c11_3_2 f11_3_2 z11_3
  have q31_0_0 := cell_regrown (HY0.out.cell 0)
  have q31_0_1 := cell_regrown (HY0.out.cell 1)
  have q31_0_2 := cell_regrown (HY0.out.cell 2)
  have q31_1_0 := cell_regrown (HY1.out.cell 0)
  have q31_1_1 := cell_regrown (HY1.out.cell 1)
  have q31_1_2 := cell_regrown (HY1.out.cell 2)
  have q31_2_0 := cell_regrown (HX9.out.cell 0)
  have q31_2_1 := cell_regrown (HX9.out.cell 1)
  have q31_2_2 := cell_regrown (HX9.out.cell 2)
  simp at q31_0_0 q31_0_1 q31_0_2 q31_1_0 q31_1_1 q31_1_2 q31_2_0 q31_2_1 q31_2_2
  have A31_0 := fun (dd : Nat) (os : Array Obj) => Calls.regrown_of (hR (Go.Sort.grow (redrawn W9 dd) os))
  have A31_1 := fun (dd : Nat) (os : Array Obj) => Calls.regrown_of (hO2 (Go.Sort.grow (redrawn W9 dd) os))
  refine wp_region_quiet_below (by kernel_rfl) (by kernel_rfl) ?_
  repeat (go_big_quiet_step (first | (go_at_call 10; exact A31_0 _ _) | (go_at_call 13; exact A31_1 _ _)))
  refine wpQuiet_nil ?_
  intro w31 hw31
  have hb31 : Below W9.heap.size W9 w31 := by
    obtain ⟨p, rfl⟩ := hw31
    exact below_regrown _ _ _
  clear hw31 q31_0_0 q31_0_1 q31_0_2 q31_1_0 q31_1_1 q31_1_2 q31_2_0 q31_2_1 q31_2_2 A31_0 A31_1
  have HQ31_0 := Lib.hid (HY0.out.below hb31 HY0.out.lt)
  have HQ31_1 := Lib.hid (HY1.out.below hb31 HY1.out.lt)
  have HQ31_2 := Lib.hid (HX9.out.below hb31 HX9.out.lt)
  have HB31 := Lib.hid (HB9.out.trans (hb31.mono HB9.out.size))
  clear hb31
  have c31_0_0 := HQ31_0.out.cell 0
  have c31_0_1 := HQ31_0.out.cell 1
  have c31_0_2 := HQ31_0.out.cell 2
  have z31_0 := HQ31_0.out.lt
  have c31_1_0 := HQ31_1.out.cell 0
  have c31_1_1 := HQ31_1.out.cell 1
  have c31_1_2 := HQ31_1.out.cell 2
  have z31_1 := HQ31_1.out.lt
  have c31_2_0 := HQ31_2.out.cell 0
  have c31_2_1 := HQ31_2.out.cell 1
  have c31_2_2 := HQ31_2.out.cell 2
  have z31_2 := HQ31_2.out.lt
  try simp at c31_0_0 c31_0_1 c31_0_2 c31_1_0 c31_1_1 c31_1_2 c31_2_0 c31_2_1 c31_2_2
  go_wp2_with fail
  go_ret
  exact ⟨by first | rfl | simp, HB31.out⟩
set_option maxRecDepth 20000 in
set_option maxHeartbeats 8000000 in
theorem SPays_1 {f i p a : Int} (hk : okO f i p) (h0 : 0 ≤ a) (ha : a ≤ 9223372036854775807) (w : World) : Calls Tryd.prog 3 #[ov f i p, .int .u8 1, .int .i64 a] w (Ret (.bool true) w) := by
  obtain ⟨x, y, z, r, hg0⟩ := goes_any 0 f i p a
  have hP := fun W => Pay_ok hk h0 ha hg0 W
  have hA0 := fun W => RParts_0 hk h0 ha hg0 W
  have hO := fun W => own11 f i p W
  have hO1 := fun W => own11 x y z W
  have hR := fun W => ORight_yes hk W
  have hE1 := fun W => eqA x y z W
  have hE2 := fun (u v q : Int) W => eqA u v q W
  obtain ⟨u, v, q, l, hg1⟩ := goes_any 1 f i p a
  have hF := fun W => From_1 hk h0 ha hg1 W
  have hA1 := fun W => RParts_1 hk h0 ha hg1 W
  have hO2 := fun W => own11 u v q W
  clear hg1
  obtain ⟨k0, k1, k2⟩ := hk
  have e0 : ¬ f < 0 := by omega
  have e1 : ¬ i < 0 := by omega
  have e2 : ¬ p < 0 := by omega
  have e3 : ¬ a < 0 := by omega
  unfold ov at *
  clear hg0 k0 k1 k2 h0 ha
  go_enter Tryd.func3, Tryd.ntmps3
  have HQ0 := Lib.hid (Blk.new w 24 #[.int .i64 f, .int .i64 i, .int .i64 p])
  have HB0 := Lib.hid (b_alloc w (.cells #[.int .i64 f, .int .i64 i, .int .i64 p] 24))
  go_wp2_with fail
  refine (awake11 _).mono ?_
  rintro e w1 ⟨rfl, hb1⟩
  have HQ1_0 := Lib.hid (HQ0.out.below hb1 HQ0.out.lt)
  have HB1 := Lib.hid (HB0.out.trans (hb1.mono HB0.out.size))
  clear hb1
  have c1_0_0 := HQ1_0.out.cell 0
  have c1_0_1 := HQ1_0.out.cell 1
  have c1_0_2 := HQ1_0.out.cell 2
  have z1_0 := HQ1_0.out.lt
  try simp at c1_0_0 c1_0_1 c1_0_2
  go_wp2_with fail
  refine (hF _).mono ?_
  rintro e w2 ⟨rfl, hb2⟩
  have HQ2_0 := Lib.hid (HQ1_0.out.below hb2 HQ1_0.out.lt)
  have HB2 := Lib.hid (HB1.out.trans (hb2.mono HB1.out.size))
  clear hb2 c1_0_0 c1_0_1 c1_0_2 z1_0
  have c2_0_0 := HQ2_0.out.cell 0
  have c2_0_1 := HQ2_0.out.cell 1
  have c2_0_2 := HQ2_0.out.cell 2
  have z2_0 := HQ2_0.out.lt
  try simp at c2_0_0 c2_0_1 c2_0_2
  go_wp2_with fail
  have HQ3_0 := Lib.hid (HQ2_0.out.alloc (.cells #[.int .i64 u, .int .i64 v, .int .i64 q] 24))
  have HQ3_1 := Lib.hid (Blk.new w2 24 #[.int .i64 u, .int .i64 v, .int .i64 q])
  have HB3 := Lib.hid (HB2.out.alloc HB2.out.size (.cells #[.int .i64 u, .int .i64 v, .int .i64 q] 24))
  refine (hP _).mono ?_
  rintro e w4 ⟨rfl, hb4⟩
  have HQ4_0 := Lib.hid (HQ3_0.out.below hb4 HQ3_0.out.lt)
  have HQ4_1 := Lib.hid (HQ3_1.out.below hb4 HQ3_1.out.lt)
  have HB4 := Lib.hid (HB3.out.trans (hb4.mono HB3.out.size))
  clear hb4 c2_0_0 c2_0_1 c2_0_2 z2_0
  have c4_0_0 := HQ4_0.out.cell 0
  have c4_0_1 := HQ4_0.out.cell 1
  have c4_0_2 := HQ4_0.out.cell 2
  have z4_0 := HQ4_0.out.lt
  have c4_1_0 := HQ4_1.out.cell 0
  have c4_1_1 := HQ4_1.out.cell 1
  have c4_1_2 := HQ4_1.out.cell 2
  have z4_1 := HQ4_1.out.lt
  try simp at c4_0_0 c4_0_1 c4_0_2 c4_1_0 c4_1_1 c4_1_2
  go_wp2_with fail
  have HQ5_0 := Lib.hid (HQ4_0.out.alloc (.cells #[.int .i64 x, .int .i64 y, .int .i64 z] 24))
  have HQ5_1 := Lib.hid (HQ4_1.out.alloc (.cells #[.int .i64 x, .int .i64 y, .int .i64 z] 24))
  have HQ5_2 := Lib.hid (Blk.new w4 24 #[.int .i64 x, .int .i64 y, .int .i64 z])
  have HB5 := Lib.hid (HB4.out.alloc HB4.out.size (.cells #[.int .i64 x, .int .i64 y, .int .i64 z] 24))
  refine (hO _).mono ?_
  rintro e w6 ⟨rfl, hb6⟩
  have HQ6_0 := Lib.hid (HQ5_0.out.below hb6 HQ5_0.out.lt)
  have HQ6_1 := Lib.hid (HQ5_1.out.below hb6 HQ5_1.out.lt)
  have HQ6_2 := Lib.hid (HQ5_2.out.below hb6 HQ5_2.out.lt)
  have HB6 := Lib.hid (HB5.out.trans (hb6.mono HB5.out.size))
  clear hb6 c4_0_0 c4_0_1 c4_0_2 z4_0 c4_1_0 c4_1_1 c4_1_2 z4_1
  have c6_0_0 := HQ6_0.out.cell 0
  have c6_0_1 := HQ6_0.out.cell 1
  have c6_0_2 := HQ6_0.out.cell 2
  have z6_0 := HQ6_0.out.lt
  have c6_1_0 := HQ6_1.out.cell 0
  have c6_1_1 := HQ6_1.out.cell 1
  have c6_1_2 := HQ6_1.out.cell 2
  have z6_1 := HQ6_1.out.lt
  have c6_2_0 := HQ6_2.out.cell 0
  have c6_2_1 := HQ6_2.out.cell 1
  have c6_2_2 := HQ6_2.out.cell 2
  have z6_2 := HQ6_2.out.lt
  try simp at c6_0_0 c6_0_1 c6_0_2 c6_1_0 c6_1_1 c6_1_2 c6_2_0 c6_2_1 c6_2_2
  go_wp2_with fail
  refine (hA0 _).mono ?_
  rintro e w7 ⟨rfl, hb7⟩
  have HQ7_0 := Lib.hid (HQ6_0.out.below hb7 HQ6_0.out.lt)
  have HQ7_1 := Lib.hid (HQ6_1.out.below hb7 HQ6_1.out.lt)
  have HQ7_2 := Lib.hid (HQ6_2.out.below hb7 HQ6_2.out.lt)
  have HB7 := Lib.hid (HB6.out.trans (hb7.mono HB6.out.size))
  clear hb7 c6_0_0 c6_0_1 c6_0_2 z6_0 c6_1_0 c6_1_1 c6_1_2 z6_1 c6_2_0 c6_2_1 c6_2_2 z6_2
  have c7_0_0 := HQ7_0.out.cell 0
  have c7_0_1 := HQ7_0.out.cell 1
  have c7_0_2 := HQ7_0.out.cell 2
  have z7_0 := HQ7_0.out.lt
  have c7_1_0 := HQ7_1.out.cell 0
  have c7_1_1 := HQ7_1.out.cell 1
  have c7_1_2 := HQ7_1.out.cell 2
  have z7_1 := HQ7_1.out.lt
  have c7_2_0 := HQ7_2.out.cell 0
  have c7_2_1 := HQ7_2.out.cell 1
  have c7_2_2 := HQ7_2.out.cell 2
  have z7_2 := HQ7_2.out.lt
  try simp at c7_0_0 c7_0_1 c7_0_2 c7_1_0 c7_1_1 c7_1_2 c7_2_0 c7_2_1 c7_2_2
  go_wp2_with fail
  have HBm : Hid (w.heap.size ≤ w7.heap.size) := Lib.hid (HB7.out.size)
  have HLT0 := Lib.hid HQ7_0.out.lt
  have HLT1 := Lib.hid HQ7_1.out.lt
  have HLT2 := Lib.hid HQ7_2.out.lt
  have HQ8_0 := Lib.hid (HQ7_0.out.alloc (.cells #[.int .i64 x, .int .i64 y, .int .i64 z] 33))
  have HQ8_1 := Lib.hid (HQ7_1.out.alloc (.cells #[.int .i64 x, .int .i64 y, .int .i64 z] 33))
  have HQ8_2 := Lib.hid (HQ7_2.out.alloc (.cells #[.int .i64 x, .int .i64 y, .int .i64 z] 33))
  have HQ8_3 := Lib.hid (Blk.new w7 33 #[.int .i64 x, .int .i64 y, .int .i64 z])
  have HB8 := Lib.hid (HB7.out.alloc HB7.out.size (.cells #[.int .i64 x, .int .i64 y, .int .i64 z] 33))
  clear c7_0_0 c7_0_1 c7_0_2 z7_0 c7_1_0 c7_1_1 c7_1_2 z7_1 c7_2_0 c7_2_1 c7_2_2 z7_2
  have q9_0_0 := cell_regrown (HQ8_0.out.cell 0)
  have q9_0_1 := cell_regrown (HQ8_0.out.cell 1)
  have q9_0_2 := cell_regrown (HQ8_0.out.cell 2)
  have q9_1_0 := cell_regrown (HQ8_1.out.cell 0)
  have q9_1_1 := cell_regrown (HQ8_1.out.cell 1)
  have q9_1_2 := cell_regrown (HQ8_1.out.cell 2)
  have q9_2_0 := cell_regrown (HQ8_2.out.cell 0)
  have q9_2_1 := cell_regrown (HQ8_2.out.cell 1)
  have q9_2_2 := cell_regrown (HQ8_2.out.cell 2)
  have q9_3_0 := cell_regrown (HQ8_3.out.cell 0)
  have q9_3_1 := cell_regrown (HQ8_3.out.cell 1)
  have q9_3_2 := cell_regrown (HQ8_3.out.cell 2)
  simp at q9_0_0 q9_0_1 q9_0_2 q9_1_0 q9_1_1 q9_1_2 q9_2_0 q9_2_1 q9_2_2 q9_3_0 q9_3_1 q9_3_2
  have A9_0 := fun (dd : Nat) (os : Array Obj) => Calls.regrown_of (hO1 (Go.Sort.grow (redrawn (w7.alloc (.cells #[.int .i64 x, .int .i64 y, .int .i64 z] 33)) dd) os))
  refine wp_region_quiet_below (by kernel_rfl) (by kernel_rfl) ?_
  repeat (go_big_quiet_step (first | (go_at_call 13; exact A9_0 _ _)))
  refine wpQuiet_nil ?_
  intro w9 hw9
  have hb9 : Below (w7.alloc (.cells #[.int .i64 x, .int .i64 y, .int .i64 z] 33)).heap.size (w7.alloc (.cells #[.int .i64 x, .int .i64 y, .int .i64 z] 33)) w9 := by
    obtain ⟨p, rfl⟩ := hw9
    exact below_regrown _ _ _
  clear hw9 q9_0_0 q9_0_1 q9_0_2 q9_1_0 q9_1_1 q9_1_2 q9_2_0 q9_2_1 q9_2_2 q9_3_0 q9_3_1 q9_3_2 A9_0
  have HQ9_0 := Lib.hid (HQ8_0.out.below hb9 HQ8_0.out.lt)
  have HQ9_1 := Lib.hid (HQ8_1.out.below hb9 HQ8_1.out.lt)
  have HQ9_2 := Lib.hid (HQ8_2.out.below hb9 HQ8_2.out.lt)
  have HQ9_3 := Lib.hid (HQ8_3.out.below hb9 HQ8_3.out.lt)
  have HB9 := Lib.hid (HB8.out.trans (hb9.mono HB8.out.size))
  clear hb9
  have c9_0_0 := HQ9_0.out.cell 0
  have c9_0_1 := HQ9_0.out.cell 1
  have c9_0_2 := HQ9_0.out.cell 2
  have z9_0 := HQ9_0.out.lt
  have c9_1_0 := HQ9_1.out.cell 0
  have c9_1_1 := HQ9_1.out.cell 1
  have c9_1_2 := HQ9_1.out.cell 2
  have z9_1 := HQ9_1.out.lt
  have c9_2_0 := HQ9_2.out.cell 0
  have c9_2_1 := HQ9_2.out.cell 1
  have c9_2_2 := HQ9_2.out.cell 2
  have z9_2 := HQ9_2.out.lt
  have c9_3_0 := HQ9_3.out.cell 0
  have c9_3_1 := HQ9_3.out.cell 1
  have c9_3_2 := HQ9_3.out.cell 2
  have z9_3 := HQ9_3.out.lt
  try simp at c9_0_0 c9_0_1 c9_0_2 c9_1_0 c9_1_1 c9_1_2 c9_2_0 c9_2_1 c9_2_2 c9_3_0 c9_3_1 c9_3_2
  go_wp2_with fail
  refine (hO _).mono ?_
  rintro e w10 ⟨rfl, hb10⟩
  have HQ10_0 := Lib.hid (HQ9_0.out.below hb10 HQ9_0.out.lt)
  have HQ10_1 := Lib.hid (HQ9_1.out.below hb10 HQ9_1.out.lt)
  have HQ10_2 := Lib.hid (HQ9_2.out.below hb10 HQ9_2.out.lt)
  have HQ10_3 := Lib.hid (HQ9_3.out.below hb10 HQ9_3.out.lt)
  have HB10 := Lib.hid (HB9.out.trans (hb10.mono HB9.out.size))
  clear hb10 c9_0_0 c9_0_1 c9_0_2 z9_0 c9_1_0 c9_1_1 c9_1_2 z9_1 c9_2_0 c9_2_1 c9_2_2 z9_2 c9_3_0 c9_3_1 c9_3_2 z9_3
  have c10_0_0 := HQ10_0.out.cell 0
  have c10_0_1 := HQ10_0.out.cell 1
  have c10_0_2 := HQ10_0.out.cell 2
  have z10_0 := HQ10_0.out.lt
  have c10_1_0 := HQ10_1.out.cell 0
  have c10_1_1 := HQ10_1.out.cell 1
  have c10_1_2 := HQ10_1.out.cell 2
  have z10_1 := HQ10_1.out.lt
  have c10_2_0 := HQ10_2.out.cell 0
  have c10_2_1 := HQ10_2.out.cell 1
  have c10_2_2 := HQ10_2.out.cell 2
  have z10_2 := HQ10_2.out.lt
  have c10_3_0 := HQ10_3.out.cell 0
  have c10_3_1 := HQ10_3.out.cell 1
  have c10_3_2 := HQ10_3.out.cell 2
  have z10_3 := HQ10_3.out.lt
  try simp at c10_0_0 c10_0_1 c10_0_2 c10_1_0 c10_1_1 c10_1_2 c10_2_0 c10_2_1 c10_2_2 c10_3_0 c10_3_1 c10_3_2
  go_wp2_with fail
  refine (hA1 _).mono ?_
  rintro e w11 ⟨rfl, hb11⟩
  have HQ11_0 := Lib.hid (HQ10_0.out.below hb11 HQ10_0.out.lt)
  have HQ11_1 := Lib.hid (HQ10_1.out.below hb11 HQ10_1.out.lt)
  have HQ11_2 := Lib.hid (HQ10_2.out.below hb11 HQ10_2.out.lt)
  have HQ11_3 := Lib.hid (HQ10_3.out.below hb11 HQ10_3.out.lt)
  have HB11 := Lib.hid (HB10.out.trans (hb11.mono HB10.out.size))
  clear hb11 c10_0_0 c10_0_1 c10_0_2 z10_0 c10_1_0 c10_1_1 c10_1_2 z10_1 c10_2_0 c10_2_1 c10_2_2 z10_2 c10_3_0 c10_3_1 c10_3_2 z10_3
  have c11_0_0 := HQ11_0.out.cell 0
  have c11_0_1 := HQ11_0.out.cell 1
  have c11_0_2 := HQ11_0.out.cell 2
  have z11_0 := HQ11_0.out.lt
  have c11_1_0 := HQ11_1.out.cell 0
  have c11_1_1 := HQ11_1.out.cell 1
  have c11_1_2 := HQ11_1.out.cell 2
  have z11_1 := HQ11_1.out.lt
  have c11_2_0 := HQ11_2.out.cell 0
  have c11_2_1 := HQ11_2.out.cell 1
  have c11_2_2 := HQ11_2.out.cell 2
  have z11_2 := HQ11_2.out.lt
  have c11_3_0 := HQ11_3.out.cell 0
  have f11_3_0 := HQ11_3.out.frozen 0
  have c11_3_1 := HQ11_3.out.cell 1
  have f11_3_1 := HQ11_3.out.frozen 1
  have c11_3_2 := HQ11_3.out.cell 2
  have f11_3_2 := HQ11_3.out.frozen 2
  have z11_3 := HQ11_3.out.lt
  try simp at c11_0_0 c11_0_1 c11_0_2 c11_1_0 c11_1_1 c11_1_2 c11_2_0 c11_2_1 c11_2_2 c11_3_0 f11_3_0 c11_3_1 f11_3_1 c11_3_2 f11_3_2
  go_wp2_with fail
  obtain ⟨W9, hW9⟩ : ∃ W, (((w11.setCell ⟨w7.heap.size, 0, none⟩ (.int .i64 u)).setCell ⟨w7.heap.size, 1, none⟩ (.int .i64 v)).setCell ⟨w7.heap.size, 2, none⟩ (.int .i64 q)) = W := ⟨_, rfl⟩
  have HX9 : Hid (Blk W9 w7.heap.size 33 #[.int .i64 u, .int .i64 v, .int .i64 q]) := Lib.hid (by rw [← hW9]; exact set3 HQ11_3.out _ _ _)
  have HY0 : Hid (Blk W9 _ 24 #[.int .i64 f, .int .i64 i, .int .i64 p]) := Lib.hid (by rw [← hW9]; exact ((HQ11_0.out.far (by have := HLT0.out; show _ ≠ w7.heap.size; omega) _).far (by have := HLT0.out; show _ ≠ w7.heap.size; omega) _).far (by have := HLT0.out; show _ ≠ w7.heap.size; omega) _)
  have HY1 : Hid (Blk W9 _ 24 #[.int .i64 u, .int .i64 v, .int .i64 q]) := Lib.hid (by rw [← hW9]; exact ((HQ11_1.out.far (by have := HLT1.out; show _ ≠ w7.heap.size; omega) _).far (by have := HLT1.out; show _ ≠ w7.heap.size; omega) _).far (by have := HLT1.out; show _ ≠ w7.heap.size; omega) _)
  have HB9 : Hid (Below w.heap.size w W9) := Lib.hid (by rw [← hW9]; exact below_set3 HB11.out (HBm.out) _ _ _)
  rw [hW9]
  clear hW9 c11_0_0 c11_0_1 c11_0_2 z11_0 c11_1_0 c11_1_1 c11_1_2 z11_1 c11_2_0 c11_2_1 c11_2_2 z11_2 c11_3_0 f11_3_0 c11_3_1 f11_3_1 c11_3_2 f11_3_2 z11_3
  have q31_0_0 := cell_regrown (HY0.out.cell 0)
  have q31_0_1 := cell_regrown (HY0.out.cell 1)
  have q31_0_2 := cell_regrown (HY0.out.cell 2)
  have q31_1_0 := cell_regrown (HY1.out.cell 0)
  have q31_1_1 := cell_regrown (HY1.out.cell 1)
  have q31_1_2 := cell_regrown (HY1.out.cell 2)
  have q31_2_0 := cell_regrown (HX9.out.cell 0)
  have q31_2_1 := cell_regrown (HX9.out.cell 1)
  have q31_2_2 := cell_regrown (HX9.out.cell 2)
  simp at q31_0_0 q31_0_1 q31_0_2 q31_1_0 q31_1_1 q31_1_2 q31_2_0 q31_2_1 q31_2_2
  have A31_0 := fun (dd : Nat) (os : Array Obj) => Calls.regrown_of (hR (Go.Sort.grow (redrawn W9 dd) os))
  have A31_1 := fun (dd : Nat) (os : Array Obj) => Calls.regrown_of (hO2 (Go.Sort.grow (redrawn W9 dd) os))
  refine wp_region_quiet_below (by kernel_rfl) (by kernel_rfl) ?_
  repeat (go_big_quiet_step (first | (go_at_call 10; exact A31_0 _ _) | (go_at_call 13; exact A31_1 _ _)))
  refine wpQuiet_nil ?_
  intro w31 hw31
  have hb31 : Below W9.heap.size W9 w31 := by
    obtain ⟨p, rfl⟩ := hw31
    exact below_regrown _ _ _
  clear hw31 q31_0_0 q31_0_1 q31_0_2 q31_1_0 q31_1_1 q31_1_2 q31_2_0 q31_2_1 q31_2_2 A31_0 A31_1
  have HQ31_0 := Lib.hid (HY0.out.below hb31 HY0.out.lt)
  have HQ31_1 := Lib.hid (HY1.out.below hb31 HY1.out.lt)
  have HQ31_2 := Lib.hid (HX9.out.below hb31 HX9.out.lt)
  have HB31 := Lib.hid (HB9.out.trans (hb31.mono HB9.out.size))
  clear hb31
  have c31_0_0 := HQ31_0.out.cell 0
  have c31_0_1 := HQ31_0.out.cell 1
  have c31_0_2 := HQ31_0.out.cell 2
  have z31_0 := HQ31_0.out.lt
  have c31_1_0 := HQ31_1.out.cell 0
  have c31_1_1 := HQ31_1.out.cell 1
  have c31_1_2 := HQ31_1.out.cell 2
  have z31_1 := HQ31_1.out.lt
  have c31_2_0 := HQ31_2.out.cell 0
  have c31_2_1 := HQ31_2.out.cell 1
  have c31_2_2 := HQ31_2.out.cell 2
  have z31_2 := HQ31_2.out.lt
  try simp at c31_0_0 c31_0_1 c31_0_2 c31_1_0 c31_1_1 c31_1_2 c31_2_0 c31_2_1 c31_2_2
  go_wp2_with fail
  go_ret
  exact ⟨by first | rfl | simp, HB31.out⟩
set_option maxRecDepth 20000 in
set_option maxHeartbeats 8000000 in
theorem SPays_2 {f i p a : Int} (hk : okO f i p) (h0 : 0 ≤ a) (ha : a ≤ 9223372036854775807) (w : World) : Calls Tryd.prog 3 #[ov f i p, .int .u8 2, .int .i64 a] w (Ret (.bool true) w) := by
  obtain ⟨x, y, z, r, hg0⟩ := goes_any 0 f i p a
  have hP := fun W => Pay_ok hk h0 ha hg0 W
  have hA0 := fun W => RParts_0 hk h0 ha hg0 W
  have hO := fun W => own11 f i p W
  have hO1 := fun W => own11 x y z W
  have hR := fun W => ORight_yes hk W
  have hE1 := fun W => eqA x y z W
  have hE2 := fun (u v q : Int) W => eqA u v q W
  obtain ⟨u, v, q, l, hg1⟩ := goes_any 2 f i p a
  have hF := fun W => From_2 hk h0 ha hg1 W
  have hA1 := fun W => RParts_2 hk h0 ha hg1 W
  have hO2 := fun W => own11 u v q W
  clear hg1
  obtain ⟨k0, k1, k2⟩ := hk
  have e0 : ¬ f < 0 := by omega
  have e1 : ¬ i < 0 := by omega
  have e2 : ¬ p < 0 := by omega
  have e3 : ¬ a < 0 := by omega
  unfold ov at *
  clear hg0 k0 k1 k2 h0 ha
  go_enter Tryd.func3, Tryd.ntmps3
  have HQ0 := Lib.hid (Blk.new w 24 #[.int .i64 f, .int .i64 i, .int .i64 p])
  have HB0 := Lib.hid (b_alloc w (.cells #[.int .i64 f, .int .i64 i, .int .i64 p] 24))
  go_wp2_with fail
  refine (awake11 _).mono ?_
  rintro e w1 ⟨rfl, hb1⟩
  have HQ1_0 := Lib.hid (HQ0.out.below hb1 HQ0.out.lt)
  have HB1 := Lib.hid (HB0.out.trans (hb1.mono HB0.out.size))
  clear hb1
  have c1_0_0 := HQ1_0.out.cell 0
  have c1_0_1 := HQ1_0.out.cell 1
  have c1_0_2 := HQ1_0.out.cell 2
  have z1_0 := HQ1_0.out.lt
  try simp at c1_0_0 c1_0_1 c1_0_2
  go_wp2_with fail
  refine (hF _).mono ?_
  rintro e w2 ⟨rfl, hb2⟩
  have HQ2_0 := Lib.hid (HQ1_0.out.below hb2 HQ1_0.out.lt)
  have HB2 := Lib.hid (HB1.out.trans (hb2.mono HB1.out.size))
  clear hb2 c1_0_0 c1_0_1 c1_0_2 z1_0
  have c2_0_0 := HQ2_0.out.cell 0
  have c2_0_1 := HQ2_0.out.cell 1
  have c2_0_2 := HQ2_0.out.cell 2
  have z2_0 := HQ2_0.out.lt
  try simp at c2_0_0 c2_0_1 c2_0_2
  go_wp2_with fail
  have HQ3_0 := Lib.hid (HQ2_0.out.alloc (.cells #[.int .i64 u, .int .i64 v, .int .i64 q] 24))
  have HQ3_1 := Lib.hid (Blk.new w2 24 #[.int .i64 u, .int .i64 v, .int .i64 q])
  have HB3 := Lib.hid (HB2.out.alloc HB2.out.size (.cells #[.int .i64 u, .int .i64 v, .int .i64 q] 24))
  refine (hP _).mono ?_
  rintro e w4 ⟨rfl, hb4⟩
  have HQ4_0 := Lib.hid (HQ3_0.out.below hb4 HQ3_0.out.lt)
  have HQ4_1 := Lib.hid (HQ3_1.out.below hb4 HQ3_1.out.lt)
  have HB4 := Lib.hid (HB3.out.trans (hb4.mono HB3.out.size))
  clear hb4 c2_0_0 c2_0_1 c2_0_2 z2_0
  have c4_0_0 := HQ4_0.out.cell 0
  have c4_0_1 := HQ4_0.out.cell 1
  have c4_0_2 := HQ4_0.out.cell 2
  have z4_0 := HQ4_0.out.lt
  have c4_1_0 := HQ4_1.out.cell 0
  have c4_1_1 := HQ4_1.out.cell 1
  have c4_1_2 := HQ4_1.out.cell 2
  have z4_1 := HQ4_1.out.lt
  try simp at c4_0_0 c4_0_1 c4_0_2 c4_1_0 c4_1_1 c4_1_2
  go_wp2_with fail
  have HQ5_0 := Lib.hid (HQ4_0.out.alloc (.cells #[.int .i64 x, .int .i64 y, .int .i64 z] 24))
  have HQ5_1 := Lib.hid (HQ4_1.out.alloc (.cells #[.int .i64 x, .int .i64 y, .int .i64 z] 24))
  have HQ5_2 := Lib.hid (Blk.new w4 24 #[.int .i64 x, .int .i64 y, .int .i64 z])
  have HB5 := Lib.hid (HB4.out.alloc HB4.out.size (.cells #[.int .i64 x, .int .i64 y, .int .i64 z] 24))
  refine (hO _).mono ?_
  rintro e w6 ⟨rfl, hb6⟩
  have HQ6_0 := Lib.hid (HQ5_0.out.below hb6 HQ5_0.out.lt)
  have HQ6_1 := Lib.hid (HQ5_1.out.below hb6 HQ5_1.out.lt)
  have HQ6_2 := Lib.hid (HQ5_2.out.below hb6 HQ5_2.out.lt)
  have HB6 := Lib.hid (HB5.out.trans (hb6.mono HB5.out.size))
  clear hb6 c4_0_0 c4_0_1 c4_0_2 z4_0 c4_1_0 c4_1_1 c4_1_2 z4_1
  have c6_0_0 := HQ6_0.out.cell 0
  have c6_0_1 := HQ6_0.out.cell 1
  have c6_0_2 := HQ6_0.out.cell 2
  have z6_0 := HQ6_0.out.lt
  have c6_1_0 := HQ6_1.out.cell 0
  have c6_1_1 := HQ6_1.out.cell 1
  have c6_1_2 := HQ6_1.out.cell 2
  have z6_1 := HQ6_1.out.lt
  have c6_2_0 := HQ6_2.out.cell 0
  have c6_2_1 := HQ6_2.out.cell 1
  have c6_2_2 := HQ6_2.out.cell 2
  have z6_2 := HQ6_2.out.lt
  try simp at c6_0_0 c6_0_1 c6_0_2 c6_1_0 c6_1_1 c6_1_2 c6_2_0 c6_2_1 c6_2_2
  go_wp2_with fail
  refine (hA0 _).mono ?_
  rintro e w7 ⟨rfl, hb7⟩
  have HQ7_0 := Lib.hid (HQ6_0.out.below hb7 HQ6_0.out.lt)
  have HQ7_1 := Lib.hid (HQ6_1.out.below hb7 HQ6_1.out.lt)
  have HQ7_2 := Lib.hid (HQ6_2.out.below hb7 HQ6_2.out.lt)
  have HB7 := Lib.hid (HB6.out.trans (hb7.mono HB6.out.size))
  clear hb7 c6_0_0 c6_0_1 c6_0_2 z6_0 c6_1_0 c6_1_1 c6_1_2 z6_1 c6_2_0 c6_2_1 c6_2_2 z6_2
  have c7_0_0 := HQ7_0.out.cell 0
  have c7_0_1 := HQ7_0.out.cell 1
  have c7_0_2 := HQ7_0.out.cell 2
  have z7_0 := HQ7_0.out.lt
  have c7_1_0 := HQ7_1.out.cell 0
  have c7_1_1 := HQ7_1.out.cell 1
  have c7_1_2 := HQ7_1.out.cell 2
  have z7_1 := HQ7_1.out.lt
  have c7_2_0 := HQ7_2.out.cell 0
  have c7_2_1 := HQ7_2.out.cell 1
  have c7_2_2 := HQ7_2.out.cell 2
  have z7_2 := HQ7_2.out.lt
  try simp at c7_0_0 c7_0_1 c7_0_2 c7_1_0 c7_1_1 c7_1_2 c7_2_0 c7_2_1 c7_2_2
  go_wp2_with fail
  have HBm : Hid (w.heap.size ≤ w7.heap.size) := Lib.hid (HB7.out.size)
  have HLT0 := Lib.hid HQ7_0.out.lt
  have HLT1 := Lib.hid HQ7_1.out.lt
  have HLT2 := Lib.hid HQ7_2.out.lt
  have HQ8_0 := Lib.hid (HQ7_0.out.alloc (.cells #[.int .i64 x, .int .i64 y, .int .i64 z] 33))
  have HQ8_1 := Lib.hid (HQ7_1.out.alloc (.cells #[.int .i64 x, .int .i64 y, .int .i64 z] 33))
  have HQ8_2 := Lib.hid (HQ7_2.out.alloc (.cells #[.int .i64 x, .int .i64 y, .int .i64 z] 33))
  have HQ8_3 := Lib.hid (Blk.new w7 33 #[.int .i64 x, .int .i64 y, .int .i64 z])
  have HB8 := Lib.hid (HB7.out.alloc HB7.out.size (.cells #[.int .i64 x, .int .i64 y, .int .i64 z] 33))
  clear c7_0_0 c7_0_1 c7_0_2 z7_0 c7_1_0 c7_1_1 c7_1_2 z7_1 c7_2_0 c7_2_1 c7_2_2 z7_2
  have q9_0_0 := cell_regrown (HQ8_0.out.cell 0)
  have q9_0_1 := cell_regrown (HQ8_0.out.cell 1)
  have q9_0_2 := cell_regrown (HQ8_0.out.cell 2)
  have q9_1_0 := cell_regrown (HQ8_1.out.cell 0)
  have q9_1_1 := cell_regrown (HQ8_1.out.cell 1)
  have q9_1_2 := cell_regrown (HQ8_1.out.cell 2)
  have q9_2_0 := cell_regrown (HQ8_2.out.cell 0)
  have q9_2_1 := cell_regrown (HQ8_2.out.cell 1)
  have q9_2_2 := cell_regrown (HQ8_2.out.cell 2)
  have q9_3_0 := cell_regrown (HQ8_3.out.cell 0)
  have q9_3_1 := cell_regrown (HQ8_3.out.cell 1)
  have q9_3_2 := cell_regrown (HQ8_3.out.cell 2)
  simp at q9_0_0 q9_0_1 q9_0_2 q9_1_0 q9_1_1 q9_1_2 q9_2_0 q9_2_1 q9_2_2 q9_3_0 q9_3_1 q9_3_2
  have A9_0 := fun (dd : Nat) (os : Array Obj) => Calls.regrown_of (hO1 (Go.Sort.grow (redrawn (w7.alloc (.cells #[.int .i64 x, .int .i64 y, .int .i64 z] 33)) dd) os))
  refine wp_region_quiet_below (by kernel_rfl) (by kernel_rfl) ?_
  repeat (go_big_quiet_step (first | (go_at_call 13; exact A9_0 _ _)))
  refine wpQuiet_nil ?_
  intro w9 hw9
  have hb9 : Below (w7.alloc (.cells #[.int .i64 x, .int .i64 y, .int .i64 z] 33)).heap.size (w7.alloc (.cells #[.int .i64 x, .int .i64 y, .int .i64 z] 33)) w9 := by
    obtain ⟨p, rfl⟩ := hw9
    exact below_regrown _ _ _
  clear hw9 q9_0_0 q9_0_1 q9_0_2 q9_1_0 q9_1_1 q9_1_2 q9_2_0 q9_2_1 q9_2_2 q9_3_0 q9_3_1 q9_3_2 A9_0
  have HQ9_0 := Lib.hid (HQ8_0.out.below hb9 HQ8_0.out.lt)
  have HQ9_1 := Lib.hid (HQ8_1.out.below hb9 HQ8_1.out.lt)
  have HQ9_2 := Lib.hid (HQ8_2.out.below hb9 HQ8_2.out.lt)
  have HQ9_3 := Lib.hid (HQ8_3.out.below hb9 HQ8_3.out.lt)
  have HB9 := Lib.hid (HB8.out.trans (hb9.mono HB8.out.size))
  clear hb9
  have c9_0_0 := HQ9_0.out.cell 0
  have c9_0_1 := HQ9_0.out.cell 1
  have c9_0_2 := HQ9_0.out.cell 2
  have z9_0 := HQ9_0.out.lt
  have c9_1_0 := HQ9_1.out.cell 0
  have c9_1_1 := HQ9_1.out.cell 1
  have c9_1_2 := HQ9_1.out.cell 2
  have z9_1 := HQ9_1.out.lt
  have c9_2_0 := HQ9_2.out.cell 0
  have c9_2_1 := HQ9_2.out.cell 1
  have c9_2_2 := HQ9_2.out.cell 2
  have z9_2 := HQ9_2.out.lt
  have c9_3_0 := HQ9_3.out.cell 0
  have c9_3_1 := HQ9_3.out.cell 1
  have c9_3_2 := HQ9_3.out.cell 2
  have z9_3 := HQ9_3.out.lt
  try simp at c9_0_0 c9_0_1 c9_0_2 c9_1_0 c9_1_1 c9_1_2 c9_2_0 c9_2_1 c9_2_2 c9_3_0 c9_3_1 c9_3_2
  go_wp2_with fail
  refine (hO _).mono ?_
  rintro e w10 ⟨rfl, hb10⟩
  have HQ10_0 := Lib.hid (HQ9_0.out.below hb10 HQ9_0.out.lt)
  have HQ10_1 := Lib.hid (HQ9_1.out.below hb10 HQ9_1.out.lt)
  have HQ10_2 := Lib.hid (HQ9_2.out.below hb10 HQ9_2.out.lt)
  have HQ10_3 := Lib.hid (HQ9_3.out.below hb10 HQ9_3.out.lt)
  have HB10 := Lib.hid (HB9.out.trans (hb10.mono HB9.out.size))
  clear hb10 c9_0_0 c9_0_1 c9_0_2 z9_0 c9_1_0 c9_1_1 c9_1_2 z9_1 c9_2_0 c9_2_1 c9_2_2 z9_2 c9_3_0 c9_3_1 c9_3_2 z9_3
  have c10_0_0 := HQ10_0.out.cell 0
  have c10_0_1 := HQ10_0.out.cell 1
  have c10_0_2 := HQ10_0.out.cell 2
  have z10_0 := HQ10_0.out.lt
  have c10_1_0 := HQ10_1.out.cell 0
  have c10_1_1 := HQ10_1.out.cell 1
  have c10_1_2 := HQ10_1.out.cell 2
  have z10_1 := HQ10_1.out.lt
  have c10_2_0 := HQ10_2.out.cell 0
  have c10_2_1 := HQ10_2.out.cell 1
  have c10_2_2 := HQ10_2.out.cell 2
  have z10_2 := HQ10_2.out.lt
  have c10_3_0 := HQ10_3.out.cell 0
  have c10_3_1 := HQ10_3.out.cell 1
  have c10_3_2 := HQ10_3.out.cell 2
  have z10_3 := HQ10_3.out.lt
  try simp at c10_0_0 c10_0_1 c10_0_2 c10_1_0 c10_1_1 c10_1_2 c10_2_0 c10_2_1 c10_2_2 c10_3_0 c10_3_1 c10_3_2
  go_wp2_with fail
  refine (hA1 _).mono ?_
  rintro e w11 ⟨rfl, hb11⟩
  have HQ11_0 := Lib.hid (HQ10_0.out.below hb11 HQ10_0.out.lt)
  have HQ11_1 := Lib.hid (HQ10_1.out.below hb11 HQ10_1.out.lt)
  have HQ11_2 := Lib.hid (HQ10_2.out.below hb11 HQ10_2.out.lt)
  have HQ11_3 := Lib.hid (HQ10_3.out.below hb11 HQ10_3.out.lt)
  have HB11 := Lib.hid (HB10.out.trans (hb11.mono HB10.out.size))
  clear hb11 c10_0_0 c10_0_1 c10_0_2 z10_0 c10_1_0 c10_1_1 c10_1_2 z10_1 c10_2_0 c10_2_1 c10_2_2 z10_2 c10_3_0 c10_3_1 c10_3_2 z10_3
  have c11_0_0 := HQ11_0.out.cell 0
  have c11_0_1 := HQ11_0.out.cell 1
  have c11_0_2 := HQ11_0.out.cell 2
  have z11_0 := HQ11_0.out.lt
  have c11_1_0 := HQ11_1.out.cell 0
  have c11_1_1 := HQ11_1.out.cell 1
  have c11_1_2 := HQ11_1.out.cell 2
  have z11_1 := HQ11_1.out.lt
  have c11_2_0 := HQ11_2.out.cell 0
  have c11_2_1 := HQ11_2.out.cell 1
  have c11_2_2 := HQ11_2.out.cell 2
  have z11_2 := HQ11_2.out.lt
  have c11_3_0 := HQ11_3.out.cell 0
  have f11_3_0 := HQ11_3.out.frozen 0
  have c11_3_1 := HQ11_3.out.cell 1
  have f11_3_1 := HQ11_3.out.frozen 1
  have c11_3_2 := HQ11_3.out.cell 2
  have f11_3_2 := HQ11_3.out.frozen 2
  have z11_3 := HQ11_3.out.lt
  try simp at c11_0_0 c11_0_1 c11_0_2 c11_1_0 c11_1_1 c11_1_2 c11_2_0 c11_2_1 c11_2_2 c11_3_0 f11_3_0 c11_3_1 f11_3_1 c11_3_2 f11_3_2
  go_wp2_with fail
  obtain ⟨W9, hW9⟩ : ∃ W, (((w11.setCell ⟨w7.heap.size, 0, none⟩ (.int .i64 u)).setCell ⟨w7.heap.size, 1, none⟩ (.int .i64 v)).setCell ⟨w7.heap.size, 2, none⟩ (.int .i64 q)) = W := ⟨_, rfl⟩
  have HX9 : Hid (Blk W9 w7.heap.size 33 #[.int .i64 u, .int .i64 v, .int .i64 q]) := Lib.hid (by rw [← hW9]; exact set3 HQ11_3.out _ _ _)
  have HY0 : Hid (Blk W9 _ 24 #[.int .i64 f, .int .i64 i, .int .i64 p]) := Lib.hid (by rw [← hW9]; exact ((HQ11_0.out.far (by have := HLT0.out; show _ ≠ w7.heap.size; omega) _).far (by have := HLT0.out; show _ ≠ w7.heap.size; omega) _).far (by have := HLT0.out; show _ ≠ w7.heap.size; omega) _)
  have HY1 : Hid (Blk W9 _ 24 #[.int .i64 u, .int .i64 v, .int .i64 q]) := Lib.hid (by rw [← hW9]; exact ((HQ11_1.out.far (by have := HLT1.out; show _ ≠ w7.heap.size; omega) _).far (by have := HLT1.out; show _ ≠ w7.heap.size; omega) _).far (by have := HLT1.out; show _ ≠ w7.heap.size; omega) _)
  have HB9 : Hid (Below w.heap.size w W9) := Lib.hid (by rw [← hW9]; exact below_set3 HB11.out (HBm.out) _ _ _)
  rw [hW9]
  clear hW9 c11_0_0 c11_0_1 c11_0_2 z11_0 c11_1_0 c11_1_1 c11_1_2 z11_1 c11_2_0 c11_2_1 c11_2_2 z11_2 c11_3_0 f11_3_0 c11_3_1 f11_3_1 c11_3_2 f11_3_2 z11_3
  have q31_0_0 := cell_regrown (HY0.out.cell 0)
  have q31_0_1 := cell_regrown (HY0.out.cell 1)
  have q31_0_2 := cell_regrown (HY0.out.cell 2)
  have q31_1_0 := cell_regrown (HY1.out.cell 0)
  have q31_1_1 := cell_regrown (HY1.out.cell 1)
  have q31_1_2 := cell_regrown (HY1.out.cell 2)
  have q31_2_0 := cell_regrown (HX9.out.cell 0)
  have q31_2_1 := cell_regrown (HX9.out.cell 1)
  have q31_2_2 := cell_regrown (HX9.out.cell 2)
  simp at q31_0_0 q31_0_1 q31_0_2 q31_1_0 q31_1_1 q31_1_2 q31_2_0 q31_2_1 q31_2_2
  have A31_0 := fun (dd : Nat) (os : Array Obj) => Calls.regrown_of (hR (Go.Sort.grow (redrawn W9 dd) os))
  have A31_1 := fun (dd : Nat) (os : Array Obj) => Calls.regrown_of (hO2 (Go.Sort.grow (redrawn W9 dd) os))
  refine wp_region_quiet_below (by kernel_rfl) (by kernel_rfl) ?_
  repeat (go_big_quiet_step (first | (go_at_call 10; exact A31_0 _ _) | (go_at_call 13; exact A31_1 _ _)))
  refine wpQuiet_nil ?_
  intro w31 hw31
  have hb31 : Below W9.heap.size W9 w31 := by
    obtain ⟨p, rfl⟩ := hw31
    exact below_regrown _ _ _
  clear hw31 q31_0_0 q31_0_1 q31_0_2 q31_1_0 q31_1_1 q31_1_2 q31_2_0 q31_2_1 q31_2_2 A31_0 A31_1
  have HQ31_0 := Lib.hid (HY0.out.below hb31 HY0.out.lt)
  have HQ31_1 := Lib.hid (HY1.out.below hb31 HY1.out.lt)
  have HQ31_2 := Lib.hid (HX9.out.below hb31 HX9.out.lt)
  have HB31 := Lib.hid (HB9.out.trans (hb31.mono HB9.out.size))
  clear hb31
  have c31_0_0 := HQ31_0.out.cell 0
  have c31_0_1 := HQ31_0.out.cell 1
  have c31_0_2 := HQ31_0.out.cell 2
  have z31_0 := HQ31_0.out.lt
  have c31_1_0 := HQ31_1.out.cell 0
  have c31_1_1 := HQ31_1.out.cell 1
  have c31_1_2 := HQ31_1.out.cell 2
  have z31_1 := HQ31_1.out.lt
  have c31_2_0 := HQ31_2.out.cell 0
  have c31_2_1 := HQ31_2.out.cell 1
  have c31_2_2 := HQ31_2.out.cell 2
  have z31_2 := HQ31_2.out.lt
  try simp at c31_0_0 c31_0_1 c31_0_2 c31_1_0 c31_1_1 c31_1_2 c31_2_0 c31_2_1 c31_2_2
  go_wp2_with fail
  go_ret
  exact ⟨by first | rfl | simp, HB31.out⟩
set_option maxRecDepth 20000 in
set_option maxHeartbeats 8000000 in
theorem SPays_bad {f i p a : Int} {s : Nat} (hs : 2 < s) (hs2 : s < 256) (hk : okO f i p) (h0 : 0 ≤ a) (ha : a ≤ 9223372036854775807) (w : World) (hg : Laid w) : Calls Tryd.prog 3 #[ov f i p, .int .u8 (s : Int), .int .i64 a] w (Ret (.bool true) w) := by
  obtain ⟨x, y, z, r, hg0⟩ := goes_any 0 f i p a
  have hP := fun W => Pay_ok hk h0 ha hg0 W
  have hA0 := fun W => RParts_0 hk h0 ha hg0 W
  have hO := fun W => own11 f i p W
  have hO1 := fun W => own11 x y z W
  have hR := fun W => ORight_yes hk W
  have hE1 := fun W => eqA x y z W
  have HG := Lib.hid hg
  have hF := fun W => From_bad (f := f) (i := i) (p := p) (a := a) hs hs2 W
  have i1 : (2 : Int) < (s : Int) := by omega
  clear hg hs hs2
  obtain ⟨k0, k1, k2⟩ := hk
  have e0 : ¬ f < 0 := by omega
  have e1 : ¬ i < 0 := by omega
  have e2 : ¬ p < 0 := by omega
  have e3 : ¬ a < 0 := by omega
  unfold eno ov at *
  clear hg0 k0 k1 k2 h0 ha
  go_enter Tryd.func3, Tryd.ntmps3
  have HQ0 := Lib.hid (Blk.new w 24 #[.int .i64 f, .int .i64 i, .int .i64 p])
  have HB0 := Lib.hid (b_alloc w (.cells #[.int .i64 f, .int .i64 i, .int .i64 p] 24))
  go_wp2_with fail
  refine (awake11 _).mono ?_
  rintro e w1 ⟨rfl, hb1⟩
  have HQ1_0 := Lib.hid (HQ0.out.below hb1 HQ0.out.lt)
  have HB1 := Lib.hid (HB0.out.trans (hb1.mono HB0.out.size))
  clear hb1
  have c1_0_0 := HQ1_0.out.cell 0
  have c1_0_1 := HQ1_0.out.cell 1
  have c1_0_2 := HQ1_0.out.cell 2
  have z1_0 := HQ1_0.out.lt
  try simp at c1_0_0 c1_0_1 c1_0_2
  go_wp2_with fail
  refine (hF _).mono ?_
  rintro e w2 ⟨rfl, hb2⟩
  have HQ2_0 := Lib.hid (HQ1_0.out.below hb2 HQ1_0.out.lt)
  have HB2 := Lib.hid (HB1.out.trans (hb2.mono HB1.out.size))
  clear hb2 c1_0_0 c1_0_1 c1_0_2 z1_0
  have c2_0_0 := HQ2_0.out.cell 0
  have c2_0_1 := HQ2_0.out.cell 1
  have c2_0_2 := HQ2_0.out.cell 2
  have z2_0 := HQ2_0.out.lt
  try simp at c2_0_0 c2_0_1 c2_0_2
  go_wp2_with fail
  have HQ3_0 := Lib.hid (HQ2_0.out.alloc (.cells #[.int .i64 0, .int .i64 0, .int .i64 0] 24))
  have HQ3_1 := Lib.hid (Blk.new w2 24 #[.int .i64 0, .int .i64 0, .int .i64 0])
  have HB3 := Lib.hid (HB2.out.alloc HB2.out.size (.cells #[.int .i64 0, .int .i64 0, .int .i64 0] 24))
  refine (hP _).mono ?_
  rintro e w4 ⟨rfl, hb4⟩
  have HQ4_0 := Lib.hid (HQ3_0.out.below hb4 HQ3_0.out.lt)
  have HQ4_1 := Lib.hid (HQ3_1.out.below hb4 HQ3_1.out.lt)
  have HB4 := Lib.hid (HB3.out.trans (hb4.mono HB3.out.size))
  clear hb4 c2_0_0 c2_0_1 c2_0_2 z2_0
  have c4_0_0 := HQ4_0.out.cell 0
  have c4_0_1 := HQ4_0.out.cell 1
  have c4_0_2 := HQ4_0.out.cell 2
  have z4_0 := HQ4_0.out.lt
  have c4_1_0 := HQ4_1.out.cell 0
  have c4_1_1 := HQ4_1.out.cell 1
  have c4_1_2 := HQ4_1.out.cell 2
  have z4_1 := HQ4_1.out.lt
  try simp at c4_0_0 c4_0_1 c4_0_2 c4_1_0 c4_1_1 c4_1_2
  go_wp2_with fail
  have HQ5_0 := Lib.hid (HQ4_0.out.alloc (.cells #[.int .i64 x, .int .i64 y, .int .i64 z] 24))
  have HQ5_1 := Lib.hid (HQ4_1.out.alloc (.cells #[.int .i64 x, .int .i64 y, .int .i64 z] 24))
  have HQ5_2 := Lib.hid (Blk.new w4 24 #[.int .i64 x, .int .i64 y, .int .i64 z])
  have HB5 := Lib.hid (HB4.out.alloc HB4.out.size (.cells #[.int .i64 x, .int .i64 y, .int .i64 z] 24))
  refine (hO _).mono ?_
  rintro e w6 ⟨rfl, hb6⟩
  have HQ6_0 := Lib.hid (HQ5_0.out.below hb6 HQ5_0.out.lt)
  have HQ6_1 := Lib.hid (HQ5_1.out.below hb6 HQ5_1.out.lt)
  have HQ6_2 := Lib.hid (HQ5_2.out.below hb6 HQ5_2.out.lt)
  have HB6 := Lib.hid (HB5.out.trans (hb6.mono HB5.out.size))
  clear hb6 c4_0_0 c4_0_1 c4_0_2 z4_0 c4_1_0 c4_1_1 c4_1_2 z4_1
  have c6_0_0 := HQ6_0.out.cell 0
  have c6_0_1 := HQ6_0.out.cell 1
  have c6_0_2 := HQ6_0.out.cell 2
  have z6_0 := HQ6_0.out.lt
  have c6_1_0 := HQ6_1.out.cell 0
  have c6_1_1 := HQ6_1.out.cell 1
  have c6_1_2 := HQ6_1.out.cell 2
  have z6_1 := HQ6_1.out.lt
  have c6_2_0 := HQ6_2.out.cell 0
  have c6_2_1 := HQ6_2.out.cell 1
  have c6_2_2 := HQ6_2.out.cell 2
  have z6_2 := HQ6_2.out.lt
  try simp at c6_0_0 c6_0_1 c6_0_2 c6_1_0 c6_1_1 c6_1_2 c6_2_0 c6_2_1 c6_2_2
  go_wp2_with fail
  refine (hA0 _).mono ?_
  rintro e w7 ⟨rfl, hb7⟩
  have HQ7_0 := Lib.hid (HQ6_0.out.below hb7 HQ6_0.out.lt)
  have HQ7_1 := Lib.hid (HQ6_1.out.below hb7 HQ6_1.out.lt)
  have HQ7_2 := Lib.hid (HQ6_2.out.below hb7 HQ6_2.out.lt)
  have HB7 := Lib.hid (HB6.out.trans (hb7.mono HB6.out.size))
  clear hb7 c6_0_0 c6_0_1 c6_0_2 z6_0 c6_1_0 c6_1_1 c6_1_2 z6_1 c6_2_0 c6_2_1 c6_2_2 z6_2
  have c7_0_0 := HQ7_0.out.cell 0
  have c7_0_1 := HQ7_0.out.cell 1
  have c7_0_2 := HQ7_0.out.cell 2
  have z7_0 := HQ7_0.out.lt
  have c7_1_0 := HQ7_1.out.cell 0
  have c7_1_1 := HQ7_1.out.cell 1
  have c7_1_2 := HQ7_1.out.cell 2
  have z7_1 := HQ7_1.out.lt
  have c7_2_0 := HQ7_2.out.cell 0
  have c7_2_1 := HQ7_2.out.cell 1
  have c7_2_2 := HQ7_2.out.cell 2
  have z7_2 := HQ7_2.out.lt
  try simp at c7_0_0 c7_0_1 c7_0_2 c7_1_0 c7_1_1 c7_1_2 c7_2_0 c7_2_1 c7_2_2
  go_wp2_with fail
  have HLT0 := Lib.hid HQ7_0.out.lt
  have HLT1 := Lib.hid HQ7_1.out.lt
  have HLT2 := Lib.hid HQ7_2.out.lt
  have HQ8_0 := Lib.hid (HQ7_0.out.alloc (.cells #[.int .i64 x, .int .i64 y, .int .i64 z] 33))
  have HQ8_1 := Lib.hid (HQ7_1.out.alloc (.cells #[.int .i64 x, .int .i64 y, .int .i64 z] 33))
  have HQ8_2 := Lib.hid (HQ7_2.out.alloc (.cells #[.int .i64 x, .int .i64 y, .int .i64 z] 33))
  have HQ8_3 := Lib.hid (Blk.new w7 33 #[.int .i64 x, .int .i64 y, .int .i64 z])
  have HB8 := Lib.hid (HB7.out.alloc HB7.out.size (.cells #[.int .i64 x, .int .i64 y, .int .i64 z] 33))
  clear c7_0_0 c7_0_1 c7_0_2 z7_0 c7_1_0 c7_1_1 c7_1_2 z7_1 c7_2_0 c7_2_1 c7_2_2 z7_2
  have q9_0_0 := cell_regrown (HQ8_0.out.cell 0)
  have q9_0_1 := cell_regrown (HQ8_0.out.cell 1)
  have q9_0_2 := cell_regrown (HQ8_0.out.cell 2)
  have q9_1_0 := cell_regrown (HQ8_1.out.cell 0)
  have q9_1_1 := cell_regrown (HQ8_1.out.cell 1)
  have q9_1_2 := cell_regrown (HQ8_1.out.cell 2)
  have q9_2_0 := cell_regrown (HQ8_2.out.cell 0)
  have q9_2_1 := cell_regrown (HQ8_2.out.cell 1)
  have q9_2_2 := cell_regrown (HQ8_2.out.cell 2)
  have q9_3_0 := cell_regrown (HQ8_3.out.cell 0)
  have q9_3_1 := cell_regrown (HQ8_3.out.cell 1)
  have q9_3_2 := cell_regrown (HQ8_3.out.cell 2)
  simp at q9_0_0 q9_0_1 q9_0_2 q9_1_0 q9_1_1 q9_1_2 q9_2_0 q9_2_1 q9_2_2 q9_3_0 q9_3_1 q9_3_2
  have A9_0 := fun (dd : Nat) (os : Array Obj) => Calls.regrown_of (hO1 (Go.Sort.grow (redrawn (w7.alloc (.cells #[.int .i64 x, .int .i64 y, .int .i64 z] 33)) dd) os))
  refine wp_region_quiet_below (by kernel_rfl) (by kernel_rfl) ?_
  repeat (go_big_quiet_step (first | (go_at_call 13; exact A9_0 _ _)))
  refine wpQuiet_nil ?_
  intro w9 hw9
  have hb9 : Below (w7.alloc (.cells #[.int .i64 x, .int .i64 y, .int .i64 z] 33)).heap.size (w7.alloc (.cells #[.int .i64 x, .int .i64 y, .int .i64 z] 33)) w9 := by
    obtain ⟨p, rfl⟩ := hw9
    exact below_regrown _ _ _
  clear hw9 q9_0_0 q9_0_1 q9_0_2 q9_1_0 q9_1_1 q9_1_2 q9_2_0 q9_2_1 q9_2_2 q9_3_0 q9_3_1 q9_3_2 A9_0
  have HQ9_0 := Lib.hid (HQ8_0.out.below hb9 HQ8_0.out.lt)
  have HQ9_1 := Lib.hid (HQ8_1.out.below hb9 HQ8_1.out.lt)
  have HQ9_2 := Lib.hid (HQ8_2.out.below hb9 HQ8_2.out.lt)
  have HQ9_3 := Lib.hid (HQ8_3.out.below hb9 HQ8_3.out.lt)
  have HB9 := Lib.hid (HB8.out.trans (hb9.mono HB8.out.size))
  clear hb9
  have c9_0_0 := HQ9_0.out.cell 0
  have c9_0_1 := HQ9_0.out.cell 1
  have c9_0_2 := HQ9_0.out.cell 2
  have z9_0 := HQ9_0.out.lt
  have c9_1_0 := HQ9_1.out.cell 0
  have c9_1_1 := HQ9_1.out.cell 1
  have c9_1_2 := HQ9_1.out.cell 2
  have z9_1 := HQ9_1.out.lt
  have c9_2_0 := HQ9_2.out.cell 0
  have c9_2_1 := HQ9_2.out.cell 1
  have c9_2_2 := HQ9_2.out.cell 2
  have z9_2 := HQ9_2.out.lt
  have c9_3_0 := HQ9_3.out.cell 0
  have c9_3_1 := HQ9_3.out.cell 1
  have c9_3_2 := HQ9_3.out.cell 2
  have z9_3 := HQ9_3.out.lt
  try simp at c9_0_0 c9_0_1 c9_0_2 c9_1_0 c9_1_1 c9_1_2 c9_2_0 c9_2_1 c9_2_2 c9_3_0 c9_3_1 c9_3_2
  go_wp2_with fail
  refine (Code_errno 1 _ (HG.out.below HB9.out)).mono ?_
  rintro e w10 ⟨rfl, hb10⟩
  have HQ10_0 := Lib.hid (HQ9_0.out.below hb10 HQ9_0.out.lt)
  have HQ10_1 := Lib.hid (HQ9_1.out.below hb10 HQ9_1.out.lt)
  have HQ10_2 := Lib.hid (HQ9_2.out.below hb10 HQ9_2.out.lt)
  have HQ10_3 := Lib.hid (HQ9_3.out.below hb10 HQ9_3.out.lt)
  have HB10 := Lib.hid (HB9.out.trans (hb10.mono HB9.out.size))
  clear hb10 c9_0_0 c9_0_1 c9_0_2 z9_0 c9_1_0 c9_1_1 c9_1_2 z9_1 c9_2_0 c9_2_1 c9_2_2 z9_2 c9_3_0 c9_3_1 c9_3_2 z9_3
  have c10_0_0 := HQ10_0.out.cell 0
  have c10_0_1 := HQ10_0.out.cell 1
  have c10_0_2 := HQ10_0.out.cell 2
  have z10_0 := HQ10_0.out.lt
  have c10_1_0 := HQ10_1.out.cell 0
  have c10_1_1 := HQ10_1.out.cell 1
  have c10_1_2 := HQ10_1.out.cell 2
  have z10_1 := HQ10_1.out.lt
  have c10_2_0 := HQ10_2.out.cell 0
  have c10_2_1 := HQ10_2.out.cell 1
  have c10_2_2 := HQ10_2.out.cell 2
  have z10_2 := HQ10_2.out.lt
  have c10_3_0 := HQ10_3.out.cell 0
  have c10_3_1 := HQ10_3.out.cell 1
  have c10_3_2 := HQ10_3.out.cell 2
  have z10_3 := HQ10_3.out.lt
  try simp at c10_0_0 c10_0_1 c10_0_2 c10_1_0 c10_1_1 c10_1_2 c10_2_0 c10_2_1 c10_2_2 c10_3_0 c10_3_1 c10_3_2
  go_wp2_with fail
  go_ret
  exact ⟨by first | rfl | simp, HB10.out⟩
theorem SPays_any {f i p a : Int} {s : Nat} (hs : s < 256) (ha : a ≤ 9223372036854775807) (w : World) (hg : Laid w) : Calls Tryd.prog 3 #[ov f i p, .int .u8 (s : Int), .int .i64 a] w (Ret (.bool true) w) := by
  by_cases h : okO f i p ∧ 0 ≤ a
  · obtain ⟨hk, h0⟩ := h
    rcases (show s = 0 ∨ s = 1 ∨ s = 2 ∨ 2 < s by omega) with rfl | rfl | rfl | h2
    · exact SPays_0 hk h0 ha w
    · exact SPays_1 hk h0 ha w
    · exact SPays_2 hk h0 ha w
    · exact SPays_bad h2 hs hk h0 ha w hg
  · exact SPays_no h w hg
end Go.Proofs.YtbikfplipkhhcabDoor
