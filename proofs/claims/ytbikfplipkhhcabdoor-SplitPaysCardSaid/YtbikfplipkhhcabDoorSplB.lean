/-
  split: Pay, Less, the example. Conditions: the numbers' kinds.
-/
import Derived.Test.YtbikfplipkhhcabDoorSplA
namespace Go.Proofs.YtbikfplipkhhcabDoor
open Go.RowKit Go.BigFrame

set_option maxRecDepth 20000 in
theorem fin_pay {w W : World} {T : Array Value} {x y z : Int} {u v : Value} (hB : Below w.heap.size w W) (hQ : Blk W (w.heap.size + 1) 24 #[.int .i64 x, .int .i64 y, .int .i64 z]) (h4 : T[4]? = some (.pointer (some ⟨w.heap.size + 1, 0, none⟩))) (h5 : T[5]? = some u) (h6 : T[6]? = some v) :
    bodyPost Tryd.prog Tryd.f9 (Ret (.tuple #[ov x y z, u, v]) w) Exit.ret { tmps := T, defers := [] } W := by
  have c0 := hQ.cell 0
  have c1 := hQ.cell 1
  have c2 := hQ.cell 2
  simp at c0 c1 c2
  unfold ov
  refine bodyPost_ret (v := .tuple #[.agg #[.int .i64 x, .int .i64 y, .int .i64 z], u, v]) ?_ rfl ⟨rfl, hB⟩
  simp [results, Tryd.results9, go_sem, h4, h5, h6, c0, c1, c2, Result.andThen]
set_option maxRecDepth 20000 in
theorem fin_less {w W : World} {T : Array Value} {x y z : Int} {v : Value} (hB : Below w.heap.size w W) (hQ : Blk W (w.heap.size + 2) 24 #[.int .i64 x, .int .i64 y, .int .i64 z]) (h4 : T[4]? = some (.pointer (some ⟨w.heap.size + 2, 0, none⟩))) (h5 : T[5]? = some v) :
    bodyPost Tryd.prog Tryd.f14 (Ret (.tuple #[ov x y z, v]) w) Exit.ret { tmps := T, defers := [] } W := by
  have c0 := hQ.cell 0
  have c1 := hQ.cell 1
  have c2 := hQ.cell 2
  simp at c0 c1 c2
  unfold ov
  refine bodyPost_ret (v := .tuple #[.agg #[.int .i64 x, .int .i64 y, .int .i64 z], v]) ?_ rfl ⟨rfl, hB⟩
  simp [results, Tryd.results14, go_sem, h4, h5, c0, c1, c2, Result.andThen]
set_option maxRecDepth 20000 in
set_option maxHeartbeats 4000000 in
theorem Pay_neg {f i p a : Int} (h : ¬ (okO f i p ∧ 0 ≤ a)) (w : World) :
    Calls Tryd.prog 9 #[ov f i p, .int .i64 a] w (Ret (.tuple #[ov 0 0 0, .int .i64 0, eno 1]) w) := by
  have hF : ∀ W, Calls Tryd.prog 8 #[ov f i p, .int .u8 0, .int .i64 a] W (Ret (.tuple #[ov 0 0 0, .int .i64 0, eno 1]) W) := fun W => From_neg (s := 0) h W
  unfold eno ov at *
  clear h
  go_enter Tryd.func9, Tryd.ntmps9
  have HQ0 := Lib.hid (Blk.new w 24 #[.int .i64 f, .int .i64 i, .int .i64 p])
  have HB0 := Lib.hid (b_alloc w (.cells #[.int .i64 f, .int .i64 i, .int .i64 p] 24))
  have HQ1_0 := Lib.hid (HQ0.out.alloc (.cells #[.int .i64 0, .int .i64 0, .int .i64 0] 24))
  have HQ1_1 : Hid (Blk ((w.alloc (.cells #[.int .i64 f, .int .i64 i, .int .i64 p] 24)).alloc (.cells #[.int .i64 0, .int .i64 0, .int .i64 0] 24)) (w.heap.size + 1) 24 #[.int .i64 0, .int .i64 0, .int .i64 0]) := Lib.hid (by
    have h := Blk.new (w.alloc (.cells #[.int .i64 f, .int .i64 i, .int .i64 p] 24)) 24 #[.int .i64 0, .int .i64 0, .int .i64 0]
    rw [show (w.alloc (.cells #[.int .i64 f, .int .i64 i, .int .i64 p] 24)).heap.size = w.heap.size + 1 by simp] at h
    exact h)
  have HB1 := Lib.hid (HB0.out.alloc HB0.out.size (.cells #[.int .i64 0, .int .i64 0, .int .i64 0] 24))
  go_wp2_with fail
  refine (hF _).mono ?_
  rintro e w2 ⟨rfl, hb2⟩
  have HQ2_0 := Lib.hid (HQ1_0.out.below hb2 HQ1_0.out.lt)
  have HQ2_1 := Lib.hid (HQ1_1.out.below hb2 HQ1_1.out.lt)
  have HB2 := Lib.hid (HB1.out.trans (hb2.mono HB1.out.size))
  clear hb2
  have c2_0_0 := HQ2_0.out.cell 0
  have c2_0_1 := HQ2_0.out.cell 1
  have c2_0_2 := HQ2_0.out.cell 2
  have z2_0 := HQ2_0.out.lt
  have c2_1_0 := HQ2_1.out.cell 0
  have f2_1_0 := HQ2_1.out.frozen 0
  have c2_1_1 := HQ2_1.out.cell 1
  have f2_1_1 := HQ2_1.out.frozen 1
  have c2_1_2 := HQ2_1.out.cell 2
  have f2_1_2 := HQ2_1.out.frozen 2
  have z2_1 := HQ2_1.out.lt
  try simp at c2_0_0 c2_0_1 c2_0_2 c2_1_0 f2_1_0 c2_1_1 f2_1_1 c2_1_2 f2_1_2
  go_wp2_with fail
  exact fin_pay (below_set3 HB2.out (Nat.le_succ _) _ _ _) (set3 HQ2_1.out _ _ _) rfl rfl rfl
set_option maxRecDepth 20000 in
set_option maxHeartbeats 4000000 in
theorem Pay_ok {f i p a x y z r : Int} (hk : okO f i p) (h0 : 0 ≤ a) (ha : a ≤ 9223372036854775807) (hg : Goes 0 f i p a x y z r) (w : World) :
    Calls Tryd.prog 9 #[ov f i p, .int .i64 a] w (Ret (.tuple #[ov x y z, .int .i64 r, .nilIface]) w) := by
  have hF := fun W => From_0 hk h0 ha hg W
  unfold ov at *
  clear hk h0 ha hg
  go_enter Tryd.func9, Tryd.ntmps9
  have HQ0 := Lib.hid (Blk.new w 24 #[.int .i64 f, .int .i64 i, .int .i64 p])
  have HB0 := Lib.hid (b_alloc w (.cells #[.int .i64 f, .int .i64 i, .int .i64 p] 24))
  have HQ1_0 := Lib.hid (HQ0.out.alloc (.cells #[.int .i64 0, .int .i64 0, .int .i64 0] 24))
  have HQ1_1 : Hid (Blk ((w.alloc (.cells #[.int .i64 f, .int .i64 i, .int .i64 p] 24)).alloc (.cells #[.int .i64 0, .int .i64 0, .int .i64 0] 24)) (w.heap.size + 1) 24 #[.int .i64 0, .int .i64 0, .int .i64 0]) := Lib.hid (by
    have h := Blk.new (w.alloc (.cells #[.int .i64 f, .int .i64 i, .int .i64 p] 24)) 24 #[.int .i64 0, .int .i64 0, .int .i64 0]
    rw [show (w.alloc (.cells #[.int .i64 f, .int .i64 i, .int .i64 p] 24)).heap.size = w.heap.size + 1 by simp] at h
    exact h)
  have HB1 := Lib.hid (HB0.out.alloc HB0.out.size (.cells #[.int .i64 0, .int .i64 0, .int .i64 0] 24))
  go_wp2_with fail
  refine (hF _).mono ?_
  rintro e w2 ⟨rfl, hb2⟩
  have HQ2_0 := Lib.hid (HQ1_0.out.below hb2 HQ1_0.out.lt)
  have HQ2_1 := Lib.hid (HQ1_1.out.below hb2 HQ1_1.out.lt)
  have HB2 := Lib.hid (HB1.out.trans (hb2.mono HB1.out.size))
  clear hb2
  have c2_0_0 := HQ2_0.out.cell 0
  have c2_0_1 := HQ2_0.out.cell 1
  have c2_0_2 := HQ2_0.out.cell 2
  have z2_0 := HQ2_0.out.lt
  have c2_1_0 := HQ2_1.out.cell 0
  have f2_1_0 := HQ2_1.out.frozen 0
  have c2_1_1 := HQ2_1.out.cell 1
  have f2_1_1 := HQ2_1.out.frozen 1
  have c2_1_2 := HQ2_1.out.cell 2
  have f2_1_2 := HQ2_1.out.frozen 2
  have z2_1 := HQ2_1.out.lt
  try simp at c2_0_0 c2_0_1 c2_0_2 c2_1_0 f2_1_0 c2_1_1 f2_1_1 c2_1_2 f2_1_2
  go_wp2_with fail
  exact fin_pay (below_set3 HB2.out (Nat.le_succ _) _ _ _) (set3 HQ2_1.out _ _ _) rfl rfl rfl
set_option maxRecDepth 20000 in
set_option maxHeartbeats 4000000 in
theorem Less_ok {f i p x y z a b c : Int} (hk : okO f i p) (hx : okO x y z) (ha : f - x = a) (hb : i - y = b) (hc : p - z = c) (h : okO a b c) (hf : f ≤ 9223372036854775807) (hi : i ≤ 9223372036854775807) (hp : p ≤ 9223372036854775807) (w : World) :
    Calls Tryd.prog 14 #[ov f i p, ov x y z] w (Ret (.tuple #[ov a b c, .nilIface]) w) := by
  have hR := fun W => ORight_yes hk W
  have hX := fun W => ORight_yes hx W
  have hA := fun W => ORight_yes h W
  obtain ⟨k0, k1, k2⟩ := hk
  obtain ⟨x0, x1, x2⟩ := hx
  obtain ⟨a0, a1, a2⟩ := h
  have i1 : IntKind.i64.wrap a = a := by rw [IntKind.wrap_i64]; omega
  have i2 : IntKind.i64.wrap b = b := by rw [IntKind.wrap_i64]; omega
  have i3 : IntKind.i64.wrap c = c := by rw [IntKind.wrap_i64]; omega
  have j1 : wrap64 a = a := by unfold wrap64; omega
  have j2 : wrap64 b = b := by unfold wrap64; omega
  have j3 : wrap64 c = c := by unfold wrap64; omega
  unfold ov at *
  clear k0 k1 k2 x0 x1 x2 a0 a1 a2 hf hi hp
  go_enter Tryd.func14, Tryd.ntmps14
  have HQ0 := Lib.hid (Blk.new w 24 #[.int .i64 f, .int .i64 i, .int .i64 p])
  have HB0 := Lib.hid (b_alloc w (.cells #[.int .i64 f, .int .i64 i, .int .i64 p] 24))
  have HQ1_0 := Lib.hid (HQ0.out.alloc (.cells #[.int .i64 x, .int .i64 y, .int .i64 z] 24))
  have HQ1_1 : Hid (Blk ((w.alloc (.cells #[.int .i64 f, .int .i64 i, .int .i64 p] 24)).alloc (.cells #[.int .i64 x, .int .i64 y, .int .i64 z] 24)) (w.heap.size + 1) 24 #[.int .i64 x, .int .i64 y, .int .i64 z]) := Lib.hid (by
    have h := Blk.new (w.alloc (.cells #[.int .i64 f, .int .i64 i, .int .i64 p] 24)) 24 #[.int .i64 x, .int .i64 y, .int .i64 z]
    rw [show (w.alloc (.cells #[.int .i64 f, .int .i64 i, .int .i64 p] 24)).heap.size = w.heap.size + 1 by simp] at h
    exact h)
  have HB1 := Lib.hid (HB0.out.alloc HB0.out.size (.cells #[.int .i64 x, .int .i64 y, .int .i64 z] 24))
  have HQ2_0 := Lib.hid (HQ1_0.out.alloc (.cells #[.int .i64 0, .int .i64 0, .int .i64 0] 24))
  have HQ2_1 := Lib.hid (HQ1_1.out.alloc (.cells #[.int .i64 0, .int .i64 0, .int .i64 0] 24))
  have HQ2_2 : Hid (Blk (((w.alloc (.cells #[.int .i64 f, .int .i64 i, .int .i64 p] 24)).alloc (.cells #[.int .i64 x, .int .i64 y, .int .i64 z] 24)).alloc (.cells #[.int .i64 0, .int .i64 0, .int .i64 0] 24)) (w.heap.size + 2) 24 #[.int .i64 0, .int .i64 0, .int .i64 0]) := Lib.hid (by
    have h := Blk.new ((w.alloc (.cells #[.int .i64 f, .int .i64 i, .int .i64 p] 24)).alloc (.cells #[.int .i64 x, .int .i64 y, .int .i64 z] 24)) 24 #[.int .i64 0, .int .i64 0, .int .i64 0]
    rw [show ((w.alloc (.cells #[.int .i64 f, .int .i64 i, .int .i64 p] 24)).alloc (.cells #[.int .i64 x, .int .i64 y, .int .i64 z] 24)).heap.size = w.heap.size + 2 by simp] at h
    exact h)
  have HB2 := Lib.hid (HB1.out.alloc HB1.out.size (.cells #[.int .i64 0, .int .i64 0, .int .i64 0] 24))
  go_wp2_with fail
  refine (hR _).mono ?_
  rintro e w3 ⟨rfl, hb3⟩
  have HQ3_0 := Lib.hid (HQ2_0.out.below hb3 HQ2_0.out.lt)
  have HQ3_1 := Lib.hid (HQ2_1.out.below hb3 HQ2_1.out.lt)
  have HQ3_2 := Lib.hid (HQ2_2.out.below hb3 HQ2_2.out.lt)
  have HB3 := Lib.hid (HB2.out.trans (hb3.mono HB2.out.size))
  clear hb3
  have c3_0_0 := HQ3_0.out.cell 0
  have c3_0_1 := HQ3_0.out.cell 1
  have c3_0_2 := HQ3_0.out.cell 2
  have z3_0 := HQ3_0.out.lt
  have c3_1_0 := HQ3_1.out.cell 0
  have c3_1_1 := HQ3_1.out.cell 1
  have c3_1_2 := HQ3_1.out.cell 2
  have z3_1 := HQ3_1.out.lt
  have c3_2_0 := HQ3_2.out.cell 0
  have f3_2_0 := HQ3_2.out.frozen 0
  have c3_2_1 := HQ3_2.out.cell 1
  have f3_2_1 := HQ3_2.out.frozen 1
  have c3_2_2 := HQ3_2.out.cell 2
  have f3_2_2 := HQ3_2.out.frozen 2
  have z3_2 := HQ3_2.out.lt
  try simp at c3_0_0 c3_0_1 c3_0_2 c3_1_0 c3_1_1 c3_1_2 c3_2_0 f3_2_0 c3_2_1 f3_2_1 c3_2_2 f3_2_2
  go_wp2_with fail
  refine (hX _).mono ?_
  rintro e w4 ⟨rfl, hb4⟩
  have HQ4_0 := Lib.hid (HQ3_0.out.below hb4 HQ3_0.out.lt)
  have HQ4_1 := Lib.hid (HQ3_1.out.below hb4 HQ3_1.out.lt)
  have HQ4_2 := Lib.hid (HQ3_2.out.below hb4 HQ3_2.out.lt)
  have HB4 := Lib.hid (HB3.out.trans (hb4.mono HB3.out.size))
  clear hb4 c3_0_0 c3_0_1 c3_0_2 z3_0 c3_1_0 c3_1_1 c3_1_2 z3_1 c3_2_0 f3_2_0 c3_2_1 f3_2_1 c3_2_2 f3_2_2 z3_2
  have c4_0_0 := HQ4_0.out.cell 0
  have c4_0_1 := HQ4_0.out.cell 1
  have c4_0_2 := HQ4_0.out.cell 2
  have z4_0 := HQ4_0.out.lt
  have c4_1_0 := HQ4_1.out.cell 0
  have c4_1_1 := HQ4_1.out.cell 1
  have c4_1_2 := HQ4_1.out.cell 2
  have z4_1 := HQ4_1.out.lt
  have c4_2_0 := HQ4_2.out.cell 0
  have f4_2_0 := HQ4_2.out.frozen 0
  have c4_2_1 := HQ4_2.out.cell 1
  have f4_2_1 := HQ4_2.out.frozen 1
  have c4_2_2 := HQ4_2.out.cell 2
  have f4_2_2 := HQ4_2.out.frozen 2
  have z4_2 := HQ4_2.out.lt
  try simp at c4_0_0 c4_0_1 c4_0_2 c4_1_0 c4_1_1 c4_1_2 c4_2_0 f4_2_0 c4_2_1 f4_2_1 c4_2_2 f4_2_2
  go_wp2_with fail
  have HC := Lib.hid (Blk.new w4 24 #[.int .i64 a, .int .i64 b, .int .i64 c])
  have HQ5_0 := Lib.hid (HQ4_0.out.alloc (.cells #[.int .i64 a, .int .i64 b, .int .i64 c] 24))
  have HQ5_1 := Lib.hid (HQ4_1.out.alloc (.cells #[.int .i64 a, .int .i64 b, .int .i64 c] 24))
  have HQ5_2 := Lib.hid (HQ4_2.out.alloc (.cells #[.int .i64 a, .int .i64 b, .int .i64 c] 24))
  have HQ5_3 := Lib.hid (Blk.new w4 24 #[.int .i64 a, .int .i64 b, .int .i64 c])
  have HB5 := Lib.hid (HB4.out.alloc HB4.out.size (.cells #[.int .i64 a, .int .i64 b, .int .i64 c] 24))
  clear HC
  clear c4_0_0 c4_0_1 c4_0_2 z4_0 c4_1_0 c4_1_1 c4_1_2 z4_1 c4_2_0 f4_2_0 c4_2_1 f4_2_1 c4_2_2 f4_2_2 z4_2
  refine (hA _).mono ?_
  rintro e w6 ⟨rfl, hb6⟩
  have HQ6_0 := Lib.hid (HQ5_0.out.below hb6 HQ5_0.out.lt)
  have HQ6_1 := Lib.hid (HQ5_1.out.below hb6 HQ5_1.out.lt)
  have HQ6_2 := Lib.hid (HQ5_2.out.below hb6 HQ5_2.out.lt)
  have HQ6_3 := Lib.hid (HQ5_3.out.below hb6 HQ5_3.out.lt)
  have HB6 := Lib.hid (HB5.out.trans (hb6.mono HB5.out.size))
  clear hb6
  have c6_0_0 := HQ6_0.out.cell 0
  have c6_0_1 := HQ6_0.out.cell 1
  have c6_0_2 := HQ6_0.out.cell 2
  have z6_0 := HQ6_0.out.lt
  have c6_1_0 := HQ6_1.out.cell 0
  have c6_1_1 := HQ6_1.out.cell 1
  have c6_1_2 := HQ6_1.out.cell 2
  have z6_1 := HQ6_1.out.lt
  have c6_2_0 := HQ6_2.out.cell 0
  have f6_2_0 := HQ6_2.out.frozen 0
  have c6_2_1 := HQ6_2.out.cell 1
  have f6_2_1 := HQ6_2.out.frozen 1
  have c6_2_2 := HQ6_2.out.cell 2
  have f6_2_2 := HQ6_2.out.frozen 2
  have z6_2 := HQ6_2.out.lt
  have c6_3_0 := HQ6_3.out.cell 0
  have c6_3_1 := HQ6_3.out.cell 1
  have c6_3_2 := HQ6_3.out.cell 2
  have z6_3 := HQ6_3.out.lt
  try simp at c6_0_0 c6_0_1 c6_0_2 c6_1_0 c6_1_1 c6_1_2 c6_2_0 f6_2_0 c6_2_1 f6_2_1 c6_2_2 f6_2_2 c6_3_0 c6_3_1 c6_3_2
  go_wp2_with fail
  exact fin_less (below_set3 HB6.out (Nat.le_add_right _ 2) _ _ _) (set3 HQ6_2.out _ _ _) rfl rfl
set_option maxRecDepth 20000 in
set_option maxHeartbeats 4000000 in
theorem awake11 (w : World) : Calls Tryd.prog 7 #[] w (Ret (.bool true) w) := by
  have hP : ∀ W, Calls Tryd.prog 9 #[.agg #[.int .i64 5, .int .i64 10, .int .i64 100], .int .i64 20] W (Ret (.tuple #[.agg #[.int .i64 5, .int .i64 10, .int .i64 5], .int .i64 0, .nilIface]) W) := fun W => Pay_ok (f := 5) (i := 10) (p := 100) (a := 20) (x := 5) (y := 10) (z := 5) (r := 0) (by unfold okO; omega) (by omega) (by omega) (by unfold Goes; decide) W
  go_enter Tryd.func7, Tryd.ntmps7
  go_wp2_with fail
  refine (hP _).mono ?_
  rintro e w1 ⟨rfl, hb1⟩
  have HB1 := Lib.hid hb1
  clear hb1
  go_wp2_with fail
  go_ret
  exact ⟨by first | rfl | simp, HB1.out.alloc HB1.out.size _⟩
end Go.Proofs.YtbikfplipkhhcabDoor
