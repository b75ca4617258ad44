/-
  SplitOrders, SplitTwice: the walks. Conditions: the numbers' kinds.
-/
import Derived.Test.YtbikfplipkhhcabSplB
namespace Go.Proofs.Ytbikfplipkhhcab
open Go.RowKit Go.BigFrame

theorem goes_ex (f i p a : Int) : ∃ x y z r, Goes 0 f i p a x y z r := ⟨_, _, _, _, rfl, rfl, rfl, rfl⟩
theorem Goes.open0 {f i p a x y z r : Int} (h : Goes 0 f i p a x y z r) : x = min f a ∧ y = min i (a - x) ∧ z = min p (a - x - y) ∧ r = a - x - y - z := by
  obtain ⟨h0, h1, h2, h3⟩ := h
  simp only [Nat.reduceLeDiff, if_true] at h0 h1 h2
  exact ⟨h0, h1, h2, h3⟩
theorem Goes.shut0 {f i p a x y z r : Int} (h : x = min f a ∧ y = min i (a - x) ∧ z = min p (a - x - y) ∧ r = a - x - y - z) : Goes 0 f i p a x y z r := by
  obtain ⟨h0, h1, h2, h3⟩ := h
  unfold Goes
  simp only [Nat.reduceLeDiff, if_true]
  exact ⟨h0, h1, h2, h3⟩
set_option maxRecDepth 20000 in
set_option maxHeartbeats 4000000 in
theorem SOrd_no {f i p a : Int} (h : ¬ (okO f i p ∧ 0 ≤ a)) (w : World) : Calls Try.prog 3 #[ov f i p, .int .i64 a] w (Ret (.bool true) w) := by
  have hP := fun W => Pay_neg h W
  unfold eno ov at *
  clear h
  go_enter Try.func3, Try.ntmps3
  have HQ0 := Lib.hid (Blk.new w 24 #[.int .i64 f, .int .i64 i, .int .i64 p])
  have HB0 := Lib.hid (b_alloc w (.cells #[.int .i64 f, .int .i64 i, .int .i64 p] 24))
  go_wp2_with fail
  refine (awake11 _).mono ?_
  rintro e w1 ⟨rfl, hb1⟩
  have HQ1_0 := Lib.hid (HQ0.out.below hb1 HQ0.out.lt)
  have HB1 := Lib.hid (HB0.out.trans (hb1.mono HB0.out.size))
  clear hb1
  have c1_0_0 := HQ1_0.out.cell 0
  have c1_0_1 := HQ1_0.out.cell 1
  have c1_0_2 := HQ1_0.out.cell 2
  have z1_0 := HQ1_0.out.lt
  try simp at c1_0_0 c1_0_1 c1_0_2
  go_wp2_with fail
  refine (hP _).mono ?_
  rintro e w2 ⟨rfl, hb2⟩
  have HQ2_0 := Lib.hid (HQ1_0.out.below hb2 HQ1_0.out.lt)
  have HB2 := Lib.hid (HB1.out.trans (hb2.mono HB1.out.size))
  clear hb2 c1_0_0 c1_0_1 c1_0_2 z1_0
  have c2_0_0 := HQ2_0.out.cell 0
  have c2_0_1 := HQ2_0.out.cell 1
  have c2_0_2 := HQ2_0.out.cell 2
  have z2_0 := HQ2_0.out.lt
  try simp at c2_0_0 c2_0_1 c2_0_2
  go_wp2_with fail
  have HQ3_0 := Lib.hid (HQ2_0.out.alloc (.cells #[.int .i64 0, .int .i64 0, .int .i64 0] 24))
  have HQ3_1 := Lib.hid (Blk.new w2 24 #[.int .i64 0, .int .i64 0, .int .i64 0])
  have HB3 := Lib.hid (HB2.out.alloc HB2.out.size (.cells #[.int .i64 0, .int .i64 0, .int .i64 0] 24))
  go_ret
  exact ⟨by first | rfl | simp, HB3.out⟩
set_option maxRecDepth 20000 in
set_option maxHeartbeats 4000000 in
theorem SOrd_yes {f i p a : Int} (hk : okO f i p) (h0 : 0 ≤ a) (ha : a ≤ 9223372036854775807) (w : World) : Calls Try.prog 3 #[ov f i p, .int .i64 a] w (Ret (.bool true) w) := by
  obtain ⟨x, y, z, r, hg⟩ := goes_ex f i p a
  have hP := fun W => Pay_ok hk h0 ha hg W
  obtain ⟨g0, g1, g2, g3⟩ := hg.open0
  obtain ⟨k0, k1, k2⟩ := hk
  have hR := fun W => ORight_yes (show okO x y z by unfold okO; omega) W
  have hx : x = f ∨ y = 0 ∧ z = 0 ∨ y = 0 ∧ x = f := by omega
  rcases (show (y = 0 ∧ z = 0) ∨ (y = 0 ∧ ¬ z = 0 ∧ x = f ∧ i = 0) ∨ (¬ y = 0 ∧ z = 0 ∧ x = f) ∨ (¬ y = 0 ∧ ¬ z = 0 ∧ x = f ∧ y = i) by omega) with ⟨rfl, rfl⟩ | ⟨rfl, hz, rfl, rfl⟩ | ⟨hy, rfl, rfl⟩ | ⟨hy, hz, rfl, rfl⟩
  · unfold ov at *
    clear h0 ha hg g0 g1 g2 g3 k0 k1 k2 hx
    go_enter Try.func3, Try.ntmps3
    have HQ0 := Lib.hid (Blk.new w 24 #[.int .i64 f, .int .i64 i, .int .i64 p])
    have HB0 := Lib.hid (b_alloc w (.cells #[.int .i64 f, .int .i64 i, .int .i64 p] 24))
    go_wp2_with fail
    refine (awake11 _).mono ?_
    rintro e w1 ⟨rfl, hb1⟩
    have HQ1_0 := Lib.hid (HQ0.out.below hb1 HQ0.out.lt)
    have HB1 := Lib.hid (HB0.out.trans (hb1.mono HB0.out.size))
    clear hb1
    have c1_0_0 := HQ1_0.out.cell 0
    have c1_0_1 := HQ1_0.out.cell 1
    have c1_0_2 := HQ1_0.out.cell 2
    have z1_0 := HQ1_0.out.lt
    try simp at c1_0_0 c1_0_1 c1_0_2
    go_wp2_with fail
    refine (hP _).mono ?_
    rintro e w2 ⟨rfl, hb2⟩
    have HQ2_0 := Lib.hid (HQ1_0.out.below hb2 HQ1_0.out.lt)
    have HB2 := Lib.hid (HB1.out.trans (hb2.mono HB1.out.size))
    clear hb2 c1_0_0 c1_0_1 c1_0_2 z1_0
    have c2_0_0 := HQ2_0.out.cell 0
    have c2_0_1 := HQ2_0.out.cell 1
    have c2_0_2 := HQ2_0.out.cell 2
    have z2_0 := HQ2_0.out.lt
    try simp at c2_0_0 c2_0_1 c2_0_2
    go_wp2_with fail
    have HQ3_0 := Lib.hid (HQ2_0.out.alloc (.cells #[.int .i64 x, .int .i64 0, .int .i64 0] 24))
    have HQ3_1 := Lib.hid (Blk.new w2 24 #[.int .i64 x, .int .i64 0, .int .i64 0])
    have HB3 := Lib.hid (HB2.out.alloc HB2.out.size (.cells #[.int .i64 x, .int .i64 0, .int .i64 0] 24))
    refine (hR _).mono ?_
    rintro e w4 ⟨rfl, hb4⟩
    have HQ4_0 := Lib.hid (HQ3_0.out.below hb4 HQ3_0.out.lt)
    have HQ4_1 := Lib.hid (HQ3_1.out.below hb4 HQ3_1.out.lt)
    have HB4 := Lib.hid (HB3.out.trans (hb4.mono HB3.out.size))
    clear hb4 c2_0_0 c2_0_1 c2_0_2 z2_0
    have c4_0_0 := HQ4_0.out.cell 0
    have c4_0_1 := HQ4_0.out.cell 1
    have c4_0_2 := HQ4_0.out.cell 2
    have z4_0 := HQ4_0.out.lt
    have c4_1_0 := HQ4_1.out.cell 0
    have c4_1_1 := HQ4_1.out.cell 1
    have c4_1_2 := HQ4_1.out.cell 2
    have z4_1 := HQ4_1.out.lt
    try simp at c4_0_0 c4_0_1 c4_0_2 c4_1_0 c4_1_1 c4_1_2
    go_wp2_with fail
    go_ret
    exact ⟨by first | rfl | simp, HB4.out⟩
  · have jz : (z == 0) = false := by rw [beq_eq_false_iff_ne]; omega
    unfold ov at *
    clear h0 ha hg g0 g1 g2 g3 k0 k1 k2 hx
    go_enter Try.func3, Try.ntmps3
    have HQ0 := Lib.hid (Blk.new w 24 #[.int .i64 x, .int .i64 0, .int .i64 p])
    have HB0 := Lib.hid (b_alloc w (.cells #[.int .i64 x, .int .i64 0, .int .i64 p] 24))
    go_wp2_with fail
    refine (awake11 _).mono ?_
    rintro e w1 ⟨rfl, hb1⟩
    have HQ1_0 := Lib.hid (HQ0.out.below hb1 HQ0.out.lt)
    have HB1 := Lib.hid (HB0.out.trans (hb1.mono HB0.out.size))
    clear hb1
    have c1_0_0 := HQ1_0.out.cell 0
    have c1_0_1 := HQ1_0.out.cell 1
    have c1_0_2 := HQ1_0.out.cell 2
    have z1_0 := HQ1_0.out.lt
    try simp at c1_0_0 c1_0_1 c1_0_2
    go_wp2_with fail
    refine (hP _).mono ?_
    rintro e w2 ⟨rfl, hb2⟩
    have HQ2_0 := Lib.hid (HQ1_0.out.below hb2 HQ1_0.out.lt)
    have HB2 := Lib.hid (HB1.out.trans (hb2.mono HB1.out.size))
    clear hb2 c1_0_0 c1_0_1 c1_0_2 z1_0
    have c2_0_0 := HQ2_0.out.cell 0
    have c2_0_1 := HQ2_0.out.cell 1
    have c2_0_2 := HQ2_0.out.cell 2
    have z2_0 := HQ2_0.out.lt
    try simp at c2_0_0 c2_0_1 c2_0_2
    go_wp2_with fail
    have HQ3_0 := Lib.hid (HQ2_0.out.alloc (.cells #[.int .i64 x, .int .i64 0, .int .i64 z] 24))
    have HQ3_1 := Lib.hid (Blk.new w2 24 #[.int .i64 x, .int .i64 0, .int .i64 z])
    have HB3 := Lib.hid (HB2.out.alloc HB2.out.size (.cells #[.int .i64 x, .int .i64 0, .int .i64 z] 24))
    refine (hR _).mono ?_
    rintro e w4 ⟨rfl, hb4⟩
    have HQ4_0 := Lib.hid (HQ3_0.out.below hb4 HQ3_0.out.lt)
    have HQ4_1 := Lib.hid (HQ3_1.out.below hb4 HQ3_1.out.lt)
    have HB4 := Lib.hid (HB3.out.trans (hb4.mono HB3.out.size))
    clear hb4 c2_0_0 c2_0_1 c2_0_2 z2_0
    have c4_0_0 := HQ4_0.out.cell 0
    have c4_0_1 := HQ4_0.out.cell 1
    have c4_0_2 := HQ4_0.out.cell 2
    have z4_0 := HQ4_0.out.lt
    have c4_1_0 := HQ4_1.out.cell 0
    have c4_1_1 := HQ4_1.out.cell 1
    have c4_1_2 := HQ4_1.out.cell 2
    have z4_1 := HQ4_1.out.lt
    try simp at c4_0_0 c4_0_1 c4_0_2 c4_1_0 c4_1_1 c4_1_2
    go_wp2_with fail
    go_ret
    exact ⟨by first | rfl | simp, HB4.out⟩
  · have jy : (y == 0) = false := by rw [beq_eq_false_iff_ne]; omega
    unfold ov at *
    clear h0 ha hg g0 g1 g2 g3 k0 k1 k2 hx
    go_enter Try.func3, Try.ntmps3
    have HQ0 := Lib.hid (Blk.new w 24 #[.int .i64 x, .int .i64 i, .int .i64 p])
    have HB0 := Lib.hid (b_alloc w (.cells #[.int .i64 x, .int .i64 i, .int .i64 p] 24))
    go_wp2_with fail
    refine (awake11 _).mono ?_
    rintro e w1 ⟨rfl, hb1⟩
    have HQ1_0 := Lib.hid (HQ0.out.below hb1 HQ0.out.lt)
    have HB1 := Lib.hid (HB0.out.trans (hb1.mono HB0.out.size))
    clear hb1
    have c1_0_0 := HQ1_0.out.cell 0
    have c1_0_1 := HQ1_0.out.cell 1
    have c1_0_2 := HQ1_0.out.cell 2
    have z1_0 := HQ1_0.out.lt
    try simp at c1_0_0 c1_0_1 c1_0_2
    go_wp2_with fail
    refine (hP _).mono ?_
    rintro e w2 ⟨rfl, hb2⟩
    have HQ2_0 := Lib.hid (HQ1_0.out.below hb2 HQ1_0.out.lt)
    have HB2 := Lib.hid (HB1.out.trans (hb2.mono HB1.out.size))
    clear hb2 c1_0_0 c1_0_1 c1_0_2 z1_0
    have c2_0_0 := HQ2_0.out.cell 0
    have c2_0_1 := HQ2_0.out.cell 1
    have c2_0_2 := HQ2_0.out.cell 2
    have z2_0 := HQ2_0.out.lt
    try simp at c2_0_0 c2_0_1 c2_0_2
    go_wp2_with fail
    have HQ3_0 := Lib.hid (HQ2_0.out.alloc (.cells #[.int .i64 x, .int .i64 y, .int .i64 0] 24))
    have HQ3_1 := Lib.hid (Blk.new w2 24 #[.int .i64 x, .int .i64 y, .int .i64 0])
    have HB3 := Lib.hid (HB2.out.alloc HB2.out.size (.cells #[.int .i64 x, .int .i64 y, .int .i64 0] 24))
    refine (hR _).mono ?_
    rintro e w4 ⟨rfl, hb4⟩
    have HQ4_0 := Lib.hid (HQ3_0.out.below hb4 HQ3_0.out.lt)
    have HQ4_1 := Lib.hid (HQ3_1.out.below hb4 HQ3_1.out.lt)
    have HB4 := Lib.hid (HB3.out.trans (hb4.mono HB3.out.size))
    clear hb4 c2_0_0 c2_0_1 c2_0_2 z2_0
    have c4_0_0 := HQ4_0.out.cell 0
    have c4_0_1 := HQ4_0.out.cell 1
    have c4_0_2 := HQ4_0.out.cell 2
    have z4_0 := HQ4_0.out.lt
    have c4_1_0 := HQ4_1.out.cell 0
    have c4_1_1 := HQ4_1.out.cell 1
    have c4_1_2 := HQ4_1.out.cell 2
    have z4_1 := HQ4_1.out.lt
    try simp at c4_0_0 c4_0_1 c4_0_2 c4_1_0 c4_1_1 c4_1_2
    go_wp2_with fail
    go_ret
    exact ⟨by first | rfl | simp, HB4.out⟩
  · have jy : (y == 0) = false := by rw [beq_eq_false_iff_ne]; omega
    have jz : (z == 0) = false := by rw [beq_eq_false_iff_ne]; omega
    unfold ov at *
    clear h0 ha hg g0 g1 g2 g3 k0 k1 k2 hx
    go_enter Try.func3, Try.ntmps3
    have HQ0 := Lib.hid (Blk.new w 24 #[.int .i64 x, .int .i64 y, .int .i64 p])
    have HB0 := Lib.hid (b_alloc w (.cells #[.int .i64 x, .int .i64 y, .int .i64 p] 24))
    go_wp2_with fail
    refine (awake11 _).mono ?_
    rintro e w1 ⟨rfl, hb1⟩
    have HQ1_0 := Lib.hid (HQ0.out.below hb1 HQ0.out.lt)
    have HB1 := Lib.hid (HB0.out.trans (hb1.mono HB0.out.size))
    clear hb1
    have c1_0_0 := HQ1_0.out.cell 0
    have c1_0_1 := HQ1_0.out.cell 1
    have c1_0_2 := HQ1_0.out.cell 2
    have z1_0 := HQ1_0.out.lt
    try simp at c1_0_0 c1_0_1 c1_0_2
    go_wp2_with fail
    refine (hP _).mono ?_
    rintro e w2 ⟨rfl, hb2⟩
    have HQ2_0 := Lib.hid (HQ1_0.out.below hb2 HQ1_0.out.lt)
    have HB2 := Lib.hid (HB1.out.trans (hb2.mono HB1.out.size))
    clear hb2 c1_0_0 c1_0_1 c1_0_2 z1_0
    have c2_0_0 := HQ2_0.out.cell 0
    have c2_0_1 := HQ2_0.out.cell 1
    have c2_0_2 := HQ2_0.out.cell 2
    have z2_0 := HQ2_0.out.lt
    try simp at c2_0_0 c2_0_1 c2_0_2
    go_wp2_with fail
    have HQ3_0 := Lib.hid (HQ2_0.out.alloc (.cells #[.int .i64 x, .int .i64 y, .int .i64 z] 24))
    have HQ3_1 := Lib.hid (Blk.new w2 24 #[.int .i64 x, .int .i64 y, .int .i64 z])
    have HB3 := Lib.hid (HB2.out.alloc HB2.out.size (.cells #[.int .i64 x, .int .i64 y, .int .i64 z] 24))
    refine (hR _).mono ?_
    rintro e w4 ⟨rfl, hb4⟩
    have HQ4_0 := Lib.hid (HQ3_0.out.below hb4 HQ3_0.out.lt)
    have HQ4_1 := Lib.hid (HQ3_1.out.below hb4 HQ3_1.out.lt)
    have HB4 := Lib.hid (HB3.out.trans (hb4.mono HB3.out.size))
    clear hb4 c2_0_0 c2_0_1 c2_0_2 z2_0
    have c4_0_0 := HQ4_0.out.cell 0
    have c4_0_1 := HQ4_0.out.cell 1
    have c4_0_2 := HQ4_0.out.cell 2
    have z4_0 := HQ4_0.out.lt
    have c4_1_0 := HQ4_1.out.cell 0
    have c4_1_1 := HQ4_1.out.cell 1
    have c4_1_2 := HQ4_1.out.cell 2
    have z4_1 := HQ4_1.out.lt
    try simp at c4_0_0 c4_0_1 c4_0_2 c4_1_0 c4_1_1 c4_1_2
    go_wp2_with fail
    go_ret
    exact ⟨by first | rfl | simp, HB4.out⟩
theorem SOrd_any {f i p a : Int} (ha : a ≤ 9223372036854775807) (w : World) : Calls Try.prog 3 #[ov f i p, .int .i64 a] w (Ret (.bool true) w) := by
  by_cases h : okO f i p ∧ 0 ≤ a
  · exact SOrd_yes h.1 h.2 ha w
  · exact SOrd_no h w
set_option maxRecDepth 20000 in
set_option maxHeartbeats 4000000 in
theorem STwice_no {f i p : Int} {a b : Nat} (h : ¬ okO f i p) (w : World) : Calls Try.prog 4 #[ov f i p, .int .u32 (a : Int), .int .u32 (b : Int)] w (Ret (.bool true) w) := by
  have hR := fun W => ORight_no h W
  unfold ov at *
  clear h
  go_enter Try.func4, Try.ntmps4
  have HQ0 := Lib.hid (Blk.new w 24 #[.int .i64 f, .int .i64 i, .int .i64 p])
  have HB0 := Lib.hid (b_alloc w (.cells #[.int .i64 f, .int .i64 i, .int .i64 p] 24))
  go_wp2_with fail
  refine (awake11 _).mono ?_
  rintro e w1 ⟨rfl, hb1⟩
  have HQ1_0 := Lib.hid (HQ0.out.below hb1 HQ0.out.lt)
  have HB1 := Lib.hid (HB0.out.trans (hb1.mono HB0.out.size))
  clear hb1
  have c1_0_0 := HQ1_0.out.cell 0
  have c1_0_1 := HQ1_0.out.cell 1
  have c1_0_2 := HQ1_0.out.cell 2
  have z1_0 := HQ1_0.out.lt
  try simp at c1_0_0 c1_0_1 c1_0_2
  go_wp2_with fail
  refine (hR _).mono ?_
  rintro e w2 ⟨rfl, hb2⟩
  have HQ2_0 := Lib.hid (HQ1_0.out.below hb2 HQ1_0.out.lt)
  have HB2 := Lib.hid (HB1.out.trans (hb2.mono HB1.out.size))
  clear hb2 c1_0_0 c1_0_1 c1_0_2 z1_0
  have c2_0_0 := HQ2_0.out.cell 0
  have c2_0_1 := HQ2_0.out.cell 1
  have c2_0_2 := HQ2_0.out.cell 2
  have z2_0 := HQ2_0.out.lt
  try simp at c2_0_0 c2_0_1 c2_0_2
  go_wp2_with fail
  go_ret
  exact ⟨by first | rfl | simp, HB2.out⟩
set_option maxRecDepth 20000 in
set_option maxHeartbeats 4000000 in
theorem STwice_yes {f i p : Int} {a b : Nat} (hk : okO f i p) (hf : f ≤ 9223372036854775807) (hi : i ≤ 9223372036854775807) (hp : p ≤ 9223372036854775807) (ha : a < 4294967296) (hb : b < 4294967296) (w : World) : Calls Try.prog 4 #[ov f i p, .int .u32 (a : Int), .int .u32 (b : Int)] w (Ret (.bool true) w) := by
  have hR := fun W => ORight_yes hk W
  obtain ⟨x, y, z, r, hg⟩ := goes_ex f i p (a : Int)
  have hP1 := fun W => Pay_ok hk (by omega) (by omega) hg W
  obtain ⟨g0, g1, g2, g3⟩ := hg.open0
  obtain ⟨k0, k1, k2⟩ := hk
  obtain ⟨f2, hf2⟩ : ∃ f2, f - x = f2 := ⟨_, rfl⟩
  obtain ⟨i2, hi2⟩ : ∃ i2, i - y = i2 := ⟨_, rfl⟩
  obtain ⟨p2, hp2⟩ : ∃ p2, p - z = p2 := ⟨_, rfl⟩
  have hk2 : okO f2 i2 p2 := by unfold okO; omega
  have hL := fun W => Less_ok ⟨k0, k1, k2⟩ (show okO x y z by unfold okO; omega) hf2 hi2 hp2 hk2 hf hi hp W
  obtain ⟨x2, y2, z2, r2, hg2⟩ := goes_ex f2 i2 p2 (b : Int)
  have hP2 := fun W => Pay_ok hk2 (by omega) (by omega) hg2 W
  obtain ⟨h0, h1, h2, h3⟩ := hg2.open0
  obtain ⟨c, hc⟩ : ∃ c : Nat, a + b = c := ⟨_, rfl⟩
  have hc2 : (a : Int) + (b : Int) = (c : Int) := by omega
  obtain ⟨X, hX⟩ : ∃ X, x + x2 = X := ⟨_, rfl⟩
  obtain ⟨Y, hY⟩ : ∃ Y, y + y2 = Y := ⟨_, rfl⟩
  obtain ⟨Z, hZ⟩ : ∃ Z, z + z2 = Z := ⟨_, rfl⟩
  obtain ⟨R, hRr⟩ : ∃ R, r + r2 = R := ⟨_, rfl⟩
  obtain ⟨k3, k4, k5⟩ := hk2
  have hg3 : Goes 0 f i p (c : Int) X Y Z R := Goes.shut0 (by
    rw [← hc2, ← hX, ← hY, ← hZ, ← hRr]
    omega)
  have hP3 := fun W => Pay_ok ⟨k0, k1, k2⟩ (show (0 : Int) ≤ (c : Int) by omega) (by omega) hg3 W
  have w0 : IntKind.i64.wrap (a : Int) = (a : Int) := by rw [IntKind.wrap_i64]; omega
  have w1_ : IntKind.i64.wrap (b : Int) = (b : Int) := by rw [IntKind.wrap_i64]; omega
  have w2_ : IntKind.i64.wrap (c : Int) = (c : Int) := by rw [IntKind.wrap_i64]; omega
  have w3_ : wrap64 X = X := by unfold wrap64; omega
  have w4_ : wrap64 Y = Y := by unfold wrap64; omega
  have w5_ : wrap64 Z = Z := by unfold wrap64; omega
  have w6_ : wrap64 R = R := by unfold wrap64; omega
  have w7_ : c < 8589934592 := by omega
  unfold ov at *
  clear hg hg2 hg3 g0 g1 g2 g3 h0 h1 h2 h3 k0 k1 k2 k3 k4 k5 hf2 hi2 hp2 hf hi hp hc
  go_enter Try.func4, Try.ntmps4
  have HQ0 := Lib.hid (Blk.new w 24 #[.int .i64 f, .int .i64 i, .int .i64 p])
  have HB0 := Lib.hid (b_alloc w (.cells #[.int .i64 f, .int .i64 i, .int .i64 p] 24))
  go_wp2_with fail
  refine (awake11 _).mono ?_
  rintro e w1 ⟨rfl, hb1⟩
  have HQ1_0 := Lib.hid (HQ0.out.below hb1 HQ0.out.lt)
  have HB1 := Lib.hid (HB0.out.trans (hb1.mono HB0.out.size))
  clear hb1
  have c1_0_0 := HQ1_0.out.cell 0
  have c1_0_1 := HQ1_0.out.cell 1
  have c1_0_2 := HQ1_0.out.cell 2
  have z1_0 := HQ1_0.out.lt
  try simp at c1_0_0 c1_0_1 c1_0_2
  go_wp2_with fail
  refine (hR _).mono ?_
  rintro e w2 ⟨rfl, hb2⟩
  have HQ2_0 := Lib.hid (HQ1_0.out.below hb2 HQ1_0.out.lt)
  have HB2 := Lib.hid (HB1.out.trans (hb2.mono HB1.out.size))
  clear hb2 c1_0_0 c1_0_1 c1_0_2 z1_0
  have c2_0_0 := HQ2_0.out.cell 0
  have c2_0_1 := HQ2_0.out.cell 1
  have c2_0_2 := HQ2_0.out.cell 2
  have z2_0 := HQ2_0.out.lt
  try simp at c2_0_0 c2_0_1 c2_0_2
  go_wp2_with fail
  refine (hP1 _).mono ?_
  rintro e w3 ⟨rfl, hb3⟩
  have HQ3_0 := Lib.hid (HQ2_0.out.below hb3 HQ2_0.out.lt)
  have HB3 := Lib.hid (HB2.out.trans (hb3.mono HB2.out.size))
  clear hb3 c2_0_0 c2_0_1 c2_0_2 z2_0
  have c3_0_0 := HQ3_0.out.cell 0
  have c3_0_1 := HQ3_0.out.cell 1
  have c3_0_2 := HQ3_0.out.cell 2
  have z3_0 := HQ3_0.out.lt
  try simp at c3_0_0 c3_0_1 c3_0_2
  go_wp2_with fail
  have HQ4_0 := Lib.hid (HQ3_0.out.alloc (.cells #[.int .i64 x, .int .i64 y, .int .i64 z] 24))
  have HQ4_1 := Lib.hid (Blk.new w3 24 #[.int .i64 x, .int .i64 y, .int .i64 z])
  have HB4 := Lib.hid (HB3.out.alloc HB3.out.size (.cells #[.int .i64 x, .int .i64 y, .int .i64 z] 24))
  refine (hL _).mono ?_
  rintro e w5 ⟨rfl, hb5⟩
  have HQ5_0 := Lib.hid (HQ4_0.out.below hb5 HQ4_0.out.lt)
  have HQ5_1 := Lib.hid (HQ4_1.out.below hb5 HQ4_1.out.lt)
  have HB5 := Lib.hid (HB4.out.trans (hb5.mono HB4.out.size))
  clear hb5 c3_0_0 c3_0_1 c3_0_2 z3_0
  have c5_0_0 := HQ5_0.out.cell 0
  have c5_0_1 := HQ5_0.out.cell 1
  have c5_0_2 := HQ5_0.out.cell 2
  have z5_0 := HQ5_0.out.lt
  have c5_1_0 := HQ5_1.out.cell 0
  have c5_1_1 := HQ5_1.out.cell 1
  have c5_1_2 := HQ5_1.out.cell 2
  have z5_1 := HQ5_1.out.lt
  try simp at c5_0_0 c5_0_1 c5_0_2 c5_1_0 c5_1_1 c5_1_2
  go_wp2_with fail
  have HQ6_0 := Lib.hid (HQ5_0.out.alloc (.cells #[.int .i64 f2, .int .i64 i2, .int .i64 p2] 24))
  have HQ6_1 := Lib.hid (HQ5_1.out.alloc (.cells #[.int .i64 f2, .int .i64 i2, .int .i64 p2] 24))
  have HQ6_2 := Lib.hid (Blk.new w5 24 #[.int .i64 f2, .int .i64 i2, .int .i64 p2])
  have HB6 := Lib.hid (HB5.out.alloc HB5.out.size (.cells #[.int .i64 f2, .int .i64 i2, .int .i64 p2] 24))
  refine (hP2 _).mono ?_
  rintro e w7 ⟨rfl, hb7⟩
  have HQ7_0 := Lib.hid (HQ6_0.out.below hb7 HQ6_0.out.lt)
  have HQ7_1 := Lib.hid (HQ6_1.out.below hb7 HQ6_1.out.lt)
  have HQ7_2 := Lib.hid (HQ6_2.out.below hb7 HQ6_2.out.lt)
  have HB7 := Lib.hid (HB6.out.trans (hb7.mono HB6.out.size))
  clear hb7 c5_0_0 c5_0_1 c5_0_2 z5_0 c5_1_0 c5_1_1 c5_1_2 z5_1
  have c7_0_0 := HQ7_0.out.cell 0
  have c7_0_1 := HQ7_0.out.cell 1
  have c7_0_2 := HQ7_0.out.cell 2
  have z7_0 := HQ7_0.out.lt
  have c7_1_0 := HQ7_1.out.cell 0
  have c7_1_1 := HQ7_1.out.cell 1
  have c7_1_2 := HQ7_1.out.cell 2
  have z7_1 := HQ7_1.out.lt
  have c7_2_0 := HQ7_2.out.cell 0
  have c7_2_1 := HQ7_2.out.cell 1
  have c7_2_2 := HQ7_2.out.cell 2
  have z7_2 := HQ7_2.out.lt
  try simp at c7_0_0 c7_0_1 c7_0_2 c7_1_0 c7_1_1 c7_1_2 c7_2_0 c7_2_1 c7_2_2
  go_wp2_with fail
  have HQ8_0 := Lib.hid (HQ7_0.out.alloc (.cells #[.int .i64 x2, .int .i64 y2, .int .i64 z2] 24))
  have HQ8_1 := Lib.hid (HQ7_1.out.alloc (.cells #[.int .i64 x2, .int .i64 y2, .int .i64 z2] 24))
  have HQ8_2 := Lib.hid (HQ7_2.out.alloc (.cells #[.int .i64 x2, .int .i64 y2, .int .i64 z2] 24))
  have HQ8_3 := Lib.hid (Blk.new w7 24 #[.int .i64 x2, .int .i64 y2, .int .i64 z2])
  have HB8 := Lib.hid (HB7.out.alloc HB7.out.size (.cells #[.int .i64 x2, .int .i64 y2, .int .i64 z2] 24))
  refine (hP3 _).mono ?_
  rintro e w9 ⟨rfl, hb9⟩
  have HQ9_0 := Lib.hid (HQ8_0.out.below hb9 HQ8_0.out.lt)
  have HQ9_1 := Lib.hid (HQ8_1.out.below hb9 HQ8_1.out.lt)
  have HQ9_2 := Lib.hid (HQ8_2.out.below hb9 HQ8_2.out.lt)
  have HQ9_3 := Lib.hid (HQ8_3.out.below hb9 HQ8_3.out.lt)
  have HB9 := Lib.hid (HB8.out.trans (hb9.mono HB8.out.size))
  clear hb9 c7_0_0 c7_0_1 c7_0_2 z7_0 c7_1_0 c7_1_1 c7_1_2 z7_1 c7_2_0 c7_2_1 c7_2_2 z7_2
  have c9_0_0 := HQ9_0.out.cell 0
  have c9_0_1 := HQ9_0.out.cell 1
  have c9_0_2 := HQ9_0.out.cell 2
  have z9_0 := HQ9_0.out.lt
  have c9_1_0 := HQ9_1.out.cell 0
  have c9_1_1 := HQ9_1.out.cell 1
  have c9_1_2 := HQ9_1.out.cell 2
  have z9_1 := HQ9_1.out.lt
  have c9_2_0 := HQ9_2.out.cell 0
  have c9_2_1 := HQ9_2.out.cell 1
  have c9_2_2 := HQ9_2.out.cell 2
  have z9_2 := HQ9_2.out.lt
  have c9_3_0 := HQ9_3.out.cell 0
  have c9_3_1 := HQ9_3.out.cell 1
  have c9_3_2 := HQ9_3.out.cell 2
  have z9_3 := HQ9_3.out.lt
  try simp at c9_0_0 c9_0_1 c9_0_2 c9_1_0 c9_1_1 c9_1_2 c9_2_0 c9_2_1 c9_2_2 c9_3_0 c9_3_1 c9_3_2
  go_wp2_with fail
  have HQ10_0 := Lib.hid (HQ9_0.out.alloc (.cells #[.int .i64 X, .int .i64 Y, .int .i64 Z] 24))
  have HQ10_1 := Lib.hid (HQ9_1.out.alloc (.cells #[.int .i64 X, .int .i64 Y, .int .i64 Z] 24))
  have HQ10_2 := Lib.hid (HQ9_2.out.alloc (.cells #[.int .i64 X, .int .i64 Y, .int .i64 Z] 24))
  have HQ10_3 := Lib.hid (HQ9_3.out.alloc (.cells #[.int .i64 X, .int .i64 Y, .int .i64 Z] 24))
  have HQ10_4 := Lib.hid (Blk.new w9 24 #[.int .i64 X, .int .i64 Y, .int .i64 Z])
  have HB10 := Lib.hid (HB9.out.alloc HB9.out.size (.cells #[.int .i64 X, .int .i64 Y, .int .i64 Z] 24))
  go_ret
  exact ⟨by first | rfl | simp, HB10.out⟩
theorem STwice_any {f i p : Int} {a b : Nat} (hf : f ≤ 9223372036854775807) (hi : i ≤ 9223372036854775807) (hp : p ≤ 9223372036854775807) (ha : a < 4294967296) (hb : b < 4294967296) (w : World) : Calls Try.prog 4 #[ov f i p, .int .u32 (a : Int), .int .u32 (b : Int)] w (Ret (.bool true) w) := by
  by_cases h : okO f i p
  · exact STwice_yes h hf hi hp ha hb w
  · exact STwice_no h w
end Go.Proofs.Ytbikfplipkhhcab
