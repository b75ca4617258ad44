/-
  SplitAdds: the walk. Conditions: the numbers' kinds; errors.errorType is laid.
-/
import Derived.Test.YtbikfplipkhhcabDoorSplB
import Derived.Test.YtbikfplipkhhcabDoorCodeC
namespace Go.Proofs.YtbikfplipkhhcabDoor
open Go.RowKit Go.BigFrame

theorem goes_ex (f i p a : Int) : ∃ x y z r, Goes 0 f i p a x y z r := ⟨_, _, _, _, rfl, rfl, rfl, rfl⟩
theorem Goes.open0 {f i p a x y z r : Int} (h : Goes 0 f i p a x y z r) : x = min f a ∧ y = min i (a - x) ∧ z = min p (a - x - y) ∧ r = a - x - y - z := by
  obtain ⟨h0, h1, h2, h3⟩ := h
  simp only [Nat.reduceLeDiff, if_true] at h0 h1 h2
  exact ⟨h0, h1, h2, h3⟩
set_option maxRecDepth 20000 in
set_option maxHeartbeats 4000000 in
theorem SAdds_no {f i p a : Int} (h : ¬ (okO f i p ∧ 0 ≤ a)) (w : World) (hg : Laid w) : Calls Tryd.prog 4 #[ov f i p, .int .i64 a] w (Ret (.bool true) w) := by
  have HG := Lib.hid hg
  have hP := fun W => Pay_neg h W
  unfold eno ov at *
  clear h hg
  go_enter Tryd.func4, Tryd.ntmps4
  have HQ0 := Lib.hid (Blk.new w 24 #[.int .i64 f, .int .i64 i, .int .i64 p])
  have HB0 := Lib.hid (b_alloc w (.cells #[.int .i64 f, .int .i64 i, .int .i64 p] 24))
  go_wp2_with fail
  refine (awake11 _).mono ?_
  rintro e w1 ⟨rfl, hb1⟩
  have HQ1_0 := Lib.hid (HQ0.out.below hb1 HQ0.out.lt)
  have HB1 := Lib.hid (HB0.out.trans (hb1.mono HB0.out.size))
  clear hb1
  have c1_0_0 := HQ1_0.out.cell 0
  have c1_0_1 := HQ1_0.out.cell 1
  have c1_0_2 := HQ1_0.out.cell 2
  have z1_0 := HQ1_0.out.lt
  try simp at c1_0_0 c1_0_1 c1_0_2
  go_wp2_with fail
  refine (hP _).mono ?_
  rintro e w2 ⟨rfl, hb2⟩
  have HQ2_0 := Lib.hid (HQ1_0.out.below hb2 HQ1_0.out.lt)
  have HB2 := Lib.hid (HB1.out.trans (hb2.mono HB1.out.size))
  clear hb2 c1_0_0 c1_0_1 c1_0_2 z1_0
  have c2_0_0 := HQ2_0.out.cell 0
  have c2_0_1 := HQ2_0.out.cell 1
  have c2_0_2 := HQ2_0.out.cell 2
  have z2_0 := HQ2_0.out.lt
  try simp at c2_0_0 c2_0_1 c2_0_2
  go_wp2_with fail
  have HQ3_0 := Lib.hid (HQ2_0.out.alloc (.cells #[.int .i64 0, .int .i64 0, .int .i64 0] 24))
  have HQ3_1 := Lib.hid (Blk.new w2 24 #[.int .i64 0, .int .i64 0, .int .i64 0])
  have HB3 := Lib.hid (HB2.out.alloc HB2.out.size (.cells #[.int .i64 0, .int .i64 0, .int .i64 0] 24))
  refine (Code_errno 1 _ (HG.out.below HB3.out)).mono ?_
  rintro e w4 ⟨rfl, hb4⟩
  have HQ4_0 := Lib.hid (HQ3_0.out.below hb4 HQ3_0.out.lt)
  have HQ4_1 := Lib.hid (HQ3_1.out.below hb4 HQ3_1.out.lt)
  have HB4 := Lib.hid (HB3.out.trans (hb4.mono HB3.out.size))
  clear hb4 c2_0_0 c2_0_1 c2_0_2 z2_0
  have c4_0_0 := HQ4_0.out.cell 0
  have c4_0_1 := HQ4_0.out.cell 1
  have c4_0_2 := HQ4_0.out.cell 2
  have z4_0 := HQ4_0.out.lt
  have c4_1_0 := HQ4_1.out.cell 0
  have c4_1_1 := HQ4_1.out.cell 1
  have c4_1_2 := HQ4_1.out.cell 2
  have z4_1 := HQ4_1.out.lt
  try simp at c4_0_0 c4_0_1 c4_0_2 c4_1_0 c4_1_1 c4_1_2
  go_wp2_with fail
  go_ret
  exact ⟨by first | rfl | simp, HB4.out⟩
set_option maxRecDepth 20000 in
set_option maxHeartbeats 4000000 in
theorem SAdds_yes {f i p a : Int} (hk : okO f i p) (h0 : 0 ≤ a) (ha : a ≤ 9223372036854775807) (hf : f ≤ 9223372036854775807) (hi : i ≤ 9223372036854775807) (hp : p ≤ 9223372036854775807) (w : World) : Calls Tryd.prog 4 #[ov f i p, .int .i64 a] w (Ret (.bool true) w) := by
  obtain ⟨x, y, z, r, hg⟩ := goes_ex f i p a
  have hP := fun W => Pay_ok hk h0 ha hg W
  obtain ⟨g0, g1, g2, g3⟩ := hg.open0
  obtain ⟨k0, k1, k2⟩ := hk
  obtain ⟨f2, hf2⟩ : ∃ f2, f - x = f2 := ⟨_, rfl⟩
  obtain ⟨i2, hi2⟩ : ∃ i2, i - y = i2 := ⟨_, rfl⟩
  obtain ⟨p2, hp2⟩ : ∃ p2, p - z = p2 := ⟨_, rfl⟩
  have hk2 : okO f2 i2 p2 := by unfold okO; omega
  have hL := fun W => Less_ok ⟨k0, k1, k2⟩ (show okO x y z by unfold okO; omega) hf2 hi2 hp2 hk2 hf hi hp W
  obtain ⟨k3, k4, k5⟩ := hk2
  obtain ⟨s1, hs1⟩ : ∃ s1, x + y = s1 := ⟨_, rfl⟩
  obtain ⟨s2, hs2⟩ : ∃ s2, s1 + z = s2 := ⟨_, rfl⟩
  have hs3 : s2 + r = a := by omega
  have q1 : f2 + x = f := by omega
  have q2 : i2 + y = i := by omega
  have q3 : p2 + z = p := by omega
  have w1_ : wrap64 s1 = s1 := by unfold wrap64; omega
  have w2_ : wrap64 s2 = s2 := by unfold wrap64; omega
  have w3_ : wrap64 a = a := by unfold wrap64; omega
  have w4_ : wrap64 f = f := by unfold wrap64; omega
  have w5_ : wrap64 i = i := by unfold wrap64; omega
  have w6_ : wrap64 p = p := by unfold wrap64; omega
  have e1 : ¬ r < 0 := by omega
  by_cases hr : r = 0
  · subst hr
    rw [Int.add_zero] at hs3
    subst hs3
    unfold ov at *
    clear hg g0 g1 g2 g3 k0 k1 k2 k3 k4 k5 hf2 hi2 hp2 hf hi hp h0 ha
    clear e1
    go_enter Tryd.func4, Tryd.ntmps4
    have HQ0 := Lib.hid (Blk.new w 24 #[.int .i64 f, .int .i64 i, .int .i64 p])
    have HB0 := Lib.hid (b_alloc w (.cells #[.int .i64 f, .int .i64 i, .int .i64 p] 24))
    go_wp2_with fail
    refine (awake11 _).mono ?_
    rintro e w1 ⟨rfl, hb1⟩
    have HQ1_0 := Lib.hid (HQ0.out.below hb1 HQ0.out.lt)
    have HB1 := Lib.hid (HB0.out.trans (hb1.mono HB0.out.size))
    clear hb1
    have c1_0_0 := HQ1_0.out.cell 0
    have c1_0_1 := HQ1_0.out.cell 1
    have c1_0_2 := HQ1_0.out.cell 2
    have z1_0 := HQ1_0.out.lt
    try simp at c1_0_0 c1_0_1 c1_0_2
    go_wp2_with fail
    refine (hP _).mono ?_
    rintro e w2 ⟨rfl, hb2⟩
    have HQ2_0 := Lib.hid (HQ1_0.out.below hb2 HQ1_0.out.lt)
    have HB2 := Lib.hid (HB1.out.trans (hb2.mono HB1.out.size))
    clear hb2 c1_0_0 c1_0_1 c1_0_2 z1_0
    have c2_0_0 := HQ2_0.out.cell 0
    have c2_0_1 := HQ2_0.out.cell 1
    have c2_0_2 := HQ2_0.out.cell 2
    have z2_0 := HQ2_0.out.lt
    try simp at c2_0_0 c2_0_1 c2_0_2
    go_wp2_with fail
    have HQ3_0 := Lib.hid (HQ2_0.out.alloc (.cells #[.int .i64 x, .int .i64 y, .int .i64 z] 24))
    have HQ3_1 := Lib.hid (Blk.new w2 24 #[.int .i64 x, .int .i64 y, .int .i64 z])
    have HB3 := Lib.hid (HB2.out.alloc HB2.out.size (.cells #[.int .i64 x, .int .i64 y, .int .i64 z] 24))
    refine (hL _).mono ?_
    rintro e w4 ⟨rfl, hb4⟩
    have HQ4_0 := Lib.hid (HQ3_0.out.below hb4 HQ3_0.out.lt)
    have HQ4_1 := Lib.hid (HQ3_1.out.below hb4 HQ3_1.out.lt)
    have HB4 := Lib.hid (HB3.out.trans (hb4.mono HB3.out.size))
    clear hb4 c2_0_0 c2_0_1 c2_0_2 z2_0
    have c4_0_0 := HQ4_0.out.cell 0
    have c4_0_1 := HQ4_0.out.cell 1
    have c4_0_2 := HQ4_0.out.cell 2
    have z4_0 := HQ4_0.out.lt
    have c4_1_0 := HQ4_1.out.cell 0
    have c4_1_1 := HQ4_1.out.cell 1
    have c4_1_2 := HQ4_1.out.cell 2
    have z4_1 := HQ4_1.out.lt
    try simp at c4_0_0 c4_0_1 c4_0_2 c4_1_0 c4_1_1 c4_1_2
    go_wp2_with fail
    have HQ5_0 := Lib.hid (HQ4_0.out.alloc (.cells #[.int .i64 f2, .int .i64 i2, .int .i64 p2] 24))
    have HQ5_1 := Lib.hid (HQ4_1.out.alloc (.cells #[.int .i64 f2, .int .i64 i2, .int .i64 p2] 24))
    have HQ5_2 := Lib.hid (Blk.new w4 24 #[.int .i64 f2, .int .i64 i2, .int .i64 p2])
    have HB5 := Lib.hid (HB4.out.alloc HB4.out.size (.cells #[.int .i64 f2, .int .i64 i2, .int .i64 p2] 24))
    go_ret
    exact ⟨by first | rfl | simp, HB5.out⟩
  · obtain rfl : f2 = 0 := by omega
    obtain rfl : i2 = 0 := by omega
    obtain rfl : p2 = 0 := by omega
    obtain rfl : f = x := by omega
    obtain rfl : i = y := by omega
    obtain rfl : p = z := by omega
    have jr : (r == 0) = false := by rw [beq_eq_false_iff_ne]; exact hr
    unfold ov at *
    clear hg g0 g1 g2 g3 k0 k1 k2 k3 k4 k5 hf2 hi2 hp2 hf hi hp h0 ha hr q1 q2 q3
    go_enter Tryd.func4, Tryd.ntmps4
    have HQ0 := Lib.hid (Blk.new w 24 #[.int .i64 f, .int .i64 i, .int .i64 p])
    have HB0 := Lib.hid (b_alloc w (.cells #[.int .i64 f, .int .i64 i, .int .i64 p] 24))
    go_wp2_with fail
    refine (awake11 _).mono ?_
    rintro e w1 ⟨rfl, hb1⟩
    have HQ1_0 := Lib.hid (HQ0.out.below hb1 HQ0.out.lt)
    have HB1 := Lib.hid (HB0.out.trans (hb1.mono HB0.out.size))
    clear hb1
    have c1_0_0 := HQ1_0.out.cell 0
    have c1_0_1 := HQ1_0.out.cell 1
    have c1_0_2 := HQ1_0.out.cell 2
    have z1_0 := HQ1_0.out.lt
    try simp at c1_0_0 c1_0_1 c1_0_2
    go_wp2_with fail
    refine (hP _).mono ?_
    rintro e w2 ⟨rfl, hb2⟩
    have HQ2_0 := Lib.hid (HQ1_0.out.below hb2 HQ1_0.out.lt)
    have HB2 := Lib.hid (HB1.out.trans (hb2.mono HB1.out.size))
    clear hb2 c1_0_0 c1_0_1 c1_0_2 z1_0
    have c2_0_0 := HQ2_0.out.cell 0
    have c2_0_1 := HQ2_0.out.cell 1
    have c2_0_2 := HQ2_0.out.cell 2
    have z2_0 := HQ2_0.out.lt
    try simp at c2_0_0 c2_0_1 c2_0_2
    go_wp2_with fail
    have HQ3_0 := Lib.hid (HQ2_0.out.alloc (.cells #[.int .i64 f, .int .i64 i, .int .i64 p] 24))
    have HQ3_1 := Lib.hid (Blk.new w2 24 #[.int .i64 f, .int .i64 i, .int .i64 p])
    have HB3 := Lib.hid (HB2.out.alloc HB2.out.size (.cells #[.int .i64 f, .int .i64 i, .int .i64 p] 24))
    refine (hL _).mono ?_
    rintro e w4 ⟨rfl, hb4⟩
    have HQ4_0 := Lib.hid (HQ3_0.out.below hb4 HQ3_0.out.lt)
    have HQ4_1 := Lib.hid (HQ3_1.out.below hb4 HQ3_1.out.lt)
    have HB4 := Lib.hid (HB3.out.trans (hb4.mono HB3.out.size))
    clear hb4 c2_0_0 c2_0_1 c2_0_2 z2_0
    have c4_0_0 := HQ4_0.out.cell 0
    have c4_0_1 := HQ4_0.out.cell 1
    have c4_0_2 := HQ4_0.out.cell 2
    have z4_0 := HQ4_0.out.lt
    have c4_1_0 := HQ4_1.out.cell 0
    have c4_1_1 := HQ4_1.out.cell 1
    have c4_1_2 := HQ4_1.out.cell 2
    have z4_1 := HQ4_1.out.lt
    try simp at c4_0_0 c4_0_1 c4_0_2 c4_1_0 c4_1_1 c4_1_2
    go_wp2_with fail
    have HQ5_0 := Lib.hid (HQ4_0.out.alloc (.cells #[.int .i64 0, .int .i64 0, .int .i64 0] 24))
    have HQ5_1 := Lib.hid (HQ4_1.out.alloc (.cells #[.int .i64 0, .int .i64 0, .int .i64 0] 24))
    have HQ5_2 := Lib.hid (Blk.new w4 24 #[.int .i64 0, .int .i64 0, .int .i64 0])
    have HB5 := Lib.hid (HB4.out.alloc HB4.out.size (.cells #[.int .i64 0, .int .i64 0, .int .i64 0] 24))
    go_ret
    exact ⟨by first | rfl | simp, HB5.out⟩
theorem SAdds_any {f i p a : Int} (ha : a ≤ 9223372036854775807) (hf : f ≤ 9223372036854775807) (hi : i ≤ 9223372036854775807) (hp : p ≤ 9223372036854775807) (w : World) (hg : Laid w) : Calls Tryd.prog 4 #[ov f i p, .int .i64 a] w (Ret (.bool true) w) := by
  by_cases h : okO f i p ∧ 0 ≤ a
  · exact SAdds_yes h.1 h.2 ha hf hi hp w
  · exact SAdds_no h w hg
end Go.Proofs.YtbikfplipkhhcabDoor
