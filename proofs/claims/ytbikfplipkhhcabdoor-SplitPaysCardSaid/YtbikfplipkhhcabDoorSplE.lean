/-
  The document's Parts. Conditions: the numbers' kinds.
-/
import Derived.Test.YtbikfplipkhhcabDoorSplD
namespace Go.Proofs.YtbikfplipkhhcabDoor
open Go.RowKit Go.BigFrame

set_option maxRecDepth 20000 in
theorem fin_own {w W : World} {T : Array Value} {x y z : Int} (hB : Below w.heap.size w W) (hQ : Blk W (w.heap.size + 1) 33 #[.int .i64 x, .int .i64 y, .int .i64 z]) (h2 : T[2]? = some (.pointer (some ⟨w.heap.size + 1, 0, none⟩))) :
    bodyPost Tryd.prog Tryd.f13 (Ret (ov x y z) w) Exit.ret { tmps := T, defers := [] } W := by
  have c0 := hQ.cell 0
  have c1 := hQ.cell 1
  have c2 := hQ.cell 2
  simp at c0 c1 c2
  unfold ov
  refine bodyPost_ret (v := .agg #[.int .i64 x, .int .i64 y, .int .i64 z]) ?_ rfl ⟨rfl, hB⟩
  simp [results, Tryd.results13, go_sem, h2, c0, c1, c2, Result.andThen]
set_option maxRecDepth 20000 in
theorem fin_parts {w W : World} {T : Array Value} {x y z : Int} {v : Value} (hB : Below w.heap.size w W) (hQ : Blk W (w.heap.size + 1) 33 #[.int .i64 x, .int .i64 y, .int .i64 z]) (h6 : T[6]? = some (.pointer (some ⟨w.heap.size + 1, 0, none⟩))) (h7 : T[7]? = some v) :
    bodyPost Tryd.prog Tryd.f12 (Ret (.tuple #[ov x y z, v]) w) Exit.ret { tmps := T, defers := [] } W := by
  have c0 := hQ.cell 0
  have c1 := hQ.cell 1
  have c2 := hQ.cell 2
  simp at c0 c1 c2
  unfold ov
  refine bodyPost_ret (v := .tuple #[.agg #[.int .i64 x, .int .i64 y, .int .i64 z], v]) ?_ rfl ⟨rfl, hB⟩
  simp [results, Tryd.results12, go_sem, h6, h7, c0, c1, c2, Result.andThen]
theorem infoI64 : (Tryd.prog.info? 2).map (fun i => (i.zero, i.size, i.bytes)) = some (some (.int .i64 0), 1, 8) := by kernel_rfl
theorem idx0 (x y z : Int) (W : World) : (Instr.index 33 (.agg #[.int .i64 x, .int .i64 y, .int .i64 z]) (.int .i64 0)).run Tryd.prog W = .ok (.int .i64 x) W := by
  obtain ⟨i0, hi, hz0, hz1, hz2⟩ := info_parts infoI64
  simp [Instr.index, run_underlying Tryd.underlying33, sizeOf, typeInfo, go_sem, hi, hz0, hz1]
theorem idx1 (x y z : Int) (W : World) : (Instr.index 33 (.agg #[.int .i64 x, .int .i64 y, .int .i64 z]) (.int .i64 1)).run Tryd.prog W = .ok (.int .i64 y) W := by
  obtain ⟨i0, hi, hz0, hz1, hz2⟩ := info_parts infoI64
  simp [Instr.index, run_underlying Tryd.underlying33, sizeOf, typeInfo, go_sem, hi, hz0, hz1]
theorem idx2 (x y z : Int) (W : World) : (Instr.index 33 (.agg #[.int .i64 x, .int .i64 y, .int .i64 z]) (.int .i64 2)).run Tryd.prog W = .ok (.int .i64 z) W := by
  obtain ⟨i0, hi, hz0, hz1, hz2⟩ := info_parts infoI64
  simp [Instr.index, run_underlying Tryd.underlying33, sizeOf, typeInfo, go_sem, hi, hz0, hz1]
set_option maxRecDepth 20000 in
set_option maxHeartbeats 4000000 in
theorem own11 (f i p : Int) (w : World) : Calls Tryd.prog 13 #[ov f i p] w (Ret (ov f i p) w) := by
  unfold ov
  go_enter Tryd.func13, Tryd.ntmps13
  have HQ0 := Lib.hid (Blk.new w 24 #[.int .i64 f, .int .i64 i, .int .i64 p])
  have HB0 := Lib.hid (b_alloc w (.cells #[.int .i64 f, .int .i64 i, .int .i64 p] 24))
  have HQ1_0 := Lib.hid (HQ0.out.alloc (.cells #[.int .i64 f, .int .i64 i, .int .i64 p] 33))
  have HQ1_1 : Hid (Blk ((w.alloc (.cells #[.int .i64 f, .int .i64 i, .int .i64 p] 24)).alloc (.cells #[.int .i64 f, .int .i64 i, .int .i64 p] 33)) (w.heap.size + 1) 33 #[.int .i64 f, .int .i64 i, .int .i64 p]) := Lib.hid (by
    have h := Blk.new (w.alloc (.cells #[.int .i64 f, .int .i64 i, .int .i64 p] 24)) 33 #[.int .i64 f, .int .i64 i, .int .i64 p]
    rw [show (w.alloc (.cells #[.int .i64 f, .int .i64 i, .int .i64 p] 24)).heap.size = w.heap.size + 1 by simp] at h
    exact h)
  have HB1 := Lib.hid (HB0.out.alloc HB0.out.size (.cells #[.int .i64 f, .int .i64 i, .int .i64 p] 33))
  go_wp2_with fail
  exact fin_own HB1.out HQ1_1.out rfl
set_option maxRecDepth 20000 in
set_option maxHeartbeats 4000000 in
theorem RParts_0 {f i p a x y z r : Int} (hk : okO f i p) (h0 : 0 ≤ a) (ha : a ≤ 9223372036854775807) (hg : Goes 0 f i p a x y z r) (w : World) :
    Calls Tryd.prog 12 #[ov f i p, .int .i64 0, .int .i64 a] w (Ret (.tuple #[ov x y z, .int .i64 r]) w) := by
  obtain ⟨k0, k1, k2⟩ := hk
  obtain ⟨hx, hy, hz, hr⟩ := hg
  simp only [Nat.reduceLeDiff, if_true] at hx hy hz
  by_cases c0 : a < f
  · by_cases c1 : 0 < i
    · by_cases c2 : 0 < p
      · rw [show x = a by omega, show y = 0 by omega, show z = 0 by omega, show r = 0 by omega]
        clear hx hy hz hr
        have x0 := fun W => idx0 f i p W
        have x1 := fun W => idx1 f i p W
        have x2 := fun W => idx2 f i p W
        unfold ov
        go_enter Tryd.func12, Tryd.ntmps12
        go_wp2_with fail
        go_rounds 4
        go_wp2_with fail
        have HQ0 := Lib.hid (Blk.new w 33 #[.int .i64 f, .int .i64 i, .int .i64 p])
        have HB0 := Lib.hid (b_alloc w (.cells #[.int .i64 f, .int .i64 i, .int .i64 p] 33))
        have HQ1_0 := Lib.hid (HQ0.out.alloc (.cells #[.int .i64 a, .int .i64 0, .int .i64 0] 33))
        have HQ1_1 : Hid (Blk ((w.alloc (.cells #[.int .i64 f, .int .i64 i, .int .i64 p] 33)).alloc (.cells #[.int .i64 a, .int .i64 0, .int .i64 0] 33)) (w.heap.size + 1) 33 #[.int .i64 a, .int .i64 0, .int .i64 0]) := Lib.hid (by
          have h := Blk.new (w.alloc (.cells #[.int .i64 f, .int .i64 i, .int .i64 p] 33)) 33 #[.int .i64 a, .int .i64 0, .int .i64 0]
          rw [show (w.alloc (.cells #[.int .i64 f, .int .i64 i, .int .i64 p] 33)).heap.size = w.heap.size + 1 by simp] at h
          exact h)
        have HB1 := Lib.hid (HB0.out.alloc HB0.out.size (.cells #[.int .i64 a, .int .i64 0, .int .i64 0] 33))
        have HQ2_0 := Lib.hid (HQ1_0.out.alloc (.cells #[.int .i64 a, .int .i64 0, .int .i64 0] 33))
        have HQ2_1 := Lib.hid (HQ1_1.out.alloc (.cells #[.int .i64 a, .int .i64 0, .int .i64 0] 33))
        have HQ2_2 : Hid (Blk (((w.alloc (.cells #[.int .i64 f, .int .i64 i, .int .i64 p] 33)).alloc (.cells #[.int .i64 a, .int .i64 0, .int .i64 0] 33)).alloc (.cells #[.int .i64 a, .int .i64 0, .int .i64 0] 33)) (w.heap.size + 2) 33 #[.int .i64 a, .int .i64 0, .int .i64 0]) := Lib.hid (by
          have h := Blk.new ((w.alloc (.cells #[.int .i64 f, .int .i64 i, .int .i64 p] 33)).alloc (.cells #[.int .i64 a, .int .i64 0, .int .i64 0] 33)) 33 #[.int .i64 a, .int .i64 0, .int .i64 0]
          rw [show ((w.alloc (.cells #[.int .i64 f, .int .i64 i, .int .i64 p] 33)).alloc (.cells #[.int .i64 a, .int .i64 0, .int .i64 0] 33)).heap.size = w.heap.size + 2 by simp] at h
          exact h)
        have HB2 := Lib.hid (HB1.out.alloc HB1.out.size (.cells #[.int .i64 a, .int .i64 0, .int .i64 0] 33))
        exact fin_parts HB2.out HQ2_1.out rfl rfl
      · obtain rfl : p = 0 := by omega
        rw [show x = a by omega, show y = 0 by omega, show z = 0 by omega, show r = 0 by omega]
        clear hx hy hz hr
        have x0 := fun W => idx0 f i 0 W
        have x1 := fun W => idx1 f i 0 W
        have x2 := fun W => idx2 f i 0 W
        unfold ov
        go_enter Tryd.func12, Tryd.ntmps12
        go_wp2_with fail
        go_rounds 4
        go_wp2_with fail
        have HQ0 := Lib.hid (Blk.new w 33 #[.int .i64 f, .int .i64 i, .int .i64 0])
        have HB0 := Lib.hid (b_alloc w (.cells #[.int .i64 f, .int .i64 i, .int .i64 0] 33))
        have HQ1_0 := Lib.hid (HQ0.out.alloc (.cells #[.int .i64 a, .int .i64 0, .int .i64 0] 33))
        have HQ1_1 : Hid (Blk ((w.alloc (.cells #[.int .i64 f, .int .i64 i, .int .i64 0] 33)).alloc (.cells #[.int .i64 a, .int .i64 0, .int .i64 0] 33)) (w.heap.size + 1) 33 #[.int .i64 a, .int .i64 0, .int .i64 0]) := Lib.hid (by
          have h := Blk.new (w.alloc (.cells #[.int .i64 f, .int .i64 i, .int .i64 0] 33)) 33 #[.int .i64 a, .int .i64 0, .int .i64 0]
          rw [show (w.alloc (.cells #[.int .i64 f, .int .i64 i, .int .i64 0] 33)).heap.size = w.heap.size + 1 by simp] at h
          exact h)
        have HB1 := Lib.hid (HB0.out.alloc HB0.out.size (.cells #[.int .i64 a, .int .i64 0, .int .i64 0] 33))
        have HQ2_0 := Lib.hid (HQ1_0.out.alloc (.cells #[.int .i64 a, .int .i64 0, .int .i64 0] 33))
        have HQ2_1 := Lib.hid (HQ1_1.out.alloc (.cells #[.int .i64 a, .int .i64 0, .int .i64 0] 33))
        have HQ2_2 : Hid (Blk (((w.alloc (.cells #[.int .i64 f, .int .i64 i, .int .i64 0] 33)).alloc (.cells #[.int .i64 a, .int .i64 0, .int .i64 0] 33)).alloc (.cells #[.int .i64 a, .int .i64 0, .int .i64 0] 33)) (w.heap.size + 2) 33 #[.int .i64 a, .int .i64 0, .int .i64 0]) := Lib.hid (by
          have h := Blk.new ((w.alloc (.cells #[.int .i64 f, .int .i64 i, .int .i64 0] 33)).alloc (.cells #[.int .i64 a, .int .i64 0, .int .i64 0] 33)) 33 #[.int .i64 a, .int .i64 0, .int .i64 0]
          rw [show ((w.alloc (.cells #[.int .i64 f, .int .i64 i, .int .i64 0] 33)).alloc (.cells #[.int .i64 a, .int .i64 0, .int .i64 0] 33)).heap.size = w.heap.size + 2 by simp] at h
          exact h)
        have HB2 := Lib.hid (HB1.out.alloc HB1.out.size (.cells #[.int .i64 a, .int .i64 0, .int .i64 0] 33))
        exact fin_parts HB2.out HQ2_1.out rfl rfl
    · obtain rfl : i = 0 := by omega
      by_cases c2 : 0 < p
      · rw [show x = a by omega, show y = 0 by omega, show z = 0 by omega, show r = 0 by omega]
        clear hx hy hz hr
        have x0 := fun W => idx0 f 0 p W
        have x1 := fun W => idx1 f 0 p W
        have x2 := fun W => idx2 f 0 p W
        unfold ov
        go_enter Tryd.func12, Tryd.ntmps12
        go_wp2_with fail
        go_rounds 4
        go_wp2_with fail
        have HQ0 := Lib.hid (Blk.new w 33 #[.int .i64 f, .int .i64 0, .int .i64 p])
        have HB0 := Lib.hid (b_alloc w (.cells #[.int .i64 f, .int .i64 0, .int .i64 p] 33))
        have HQ1_0 := Lib.hid (HQ0.out.alloc (.cells #[.int .i64 a, .int .i64 0, .int .i64 0] 33))
        have HQ1_1 : Hid (Blk ((w.alloc (.cells #[.int .i64 f, .int .i64 0, .int .i64 p] 33)).alloc (.cells #[.int .i64 a, .int .i64 0, .int .i64 0] 33)) (w.heap.size + 1) 33 #[.int .i64 a, .int .i64 0, .int .i64 0]) := Lib.hid (by
          have h := Blk.new (w.alloc (.cells #[.int .i64 f, .int .i64 0, .int .i64 p] 33)) 33 #[.int .i64 a, .int .i64 0, .int .i64 0]
          rw [show (w.alloc (.cells #[.int .i64 f, .int .i64 0, .int .i64 p] 33)).heap.size = w.heap.size + 1 by simp] at h
          exact h)
        have HB1 := Lib.hid (HB0.out.alloc HB0.out.size (.cells #[.int .i64 a, .int .i64 0, .int .i64 0] 33))
        have HQ2_0 := Lib.hid (HQ1_0.out.alloc (.cells #[.int .i64 a, .int .i64 0, .int .i64 0] 33))
        have HQ2_1 := Lib.hid (HQ1_1.out.alloc (.cells #[.int .i64 a, .int .i64 0, .int .i64 0] 33))
        have HQ2_2 : Hid (Blk (((w.alloc (.cells #[.int .i64 f, .int .i64 0, .int .i64 p] 33)).alloc (.cells #[.int .i64 a, .int .i64 0, .int .i64 0] 33)).alloc (.cells #[.int .i64 a, .int .i64 0, .int .i64 0] 33)) (w.heap.size + 2) 33 #[.int .i64 a, .int .i64 0, .int .i64 0]) := Lib.hid (by
          have h := Blk.new ((w.alloc (.cells #[.int .i64 f, .int .i64 0, .int .i64 p] 33)).alloc (.cells #[.int .i64 a, .int .i64 0, .int .i64 0] 33)) 33 #[.int .i64 a, .int .i64 0, .int .i64 0]
          rw [show ((w.alloc (.cells #[.int .i64 f, .int .i64 0, .int .i64 p] 33)).alloc (.cells #[.int .i64 a, .int .i64 0, .int .i64 0] 33)).heap.size = w.heap.size + 2 by simp] at h
          exact h)
        have HB2 := Lib.hid (HB1.out.alloc HB1.out.size (.cells #[.int .i64 a, .int .i64 0, .int .i64 0] 33))
        exact fin_parts HB2.out HQ2_1.out rfl rfl
      · obtain rfl : p = 0 := by omega
        rw [show x = a by omega, show y = 0 by omega, show z = 0 by omega, show r = 0 by omega]
        clear hx hy hz hr
        have x0 := fun W => idx0 f 0 0 W
        have x1 := fun W => idx1 f 0 0 W
        have x2 := fun W => idx2 f 0 0 W
        unfold ov
        go_enter Tryd.func12, Tryd.ntmps12
        go_wp2_with fail
        go_rounds 4
        go_wp2_with fail
        have HQ0 := Lib.hid (Blk.new w 33 #[.int .i64 f, .int .i64 0, .int .i64 0])
        have HB0 := Lib.hid (b_alloc w (.cells #[.int .i64 f, .int .i64 0, .int .i64 0] 33))
        have HQ1_0 := Lib.hid (HQ0.out.alloc (.cells #[.int .i64 a, .int .i64 0, .int .i64 0] 33))
        have HQ1_1 : Hid (Blk ((w.alloc (.cells #[.int .i64 f, .int .i64 0, .int .i64 0] 33)).alloc (.cells #[.int .i64 a, .int .i64 0, .int .i64 0] 33)) (w.heap.size + 1) 33 #[.int .i64 a, .int .i64 0, .int .i64 0]) := Lib.hid (by
          have h := Blk.new (w.alloc (.cells #[.int .i64 f, .int .i64 0, .int .i64 0] 33)) 33 #[.int .i64 a, .int .i64 0, .int .i64 0]
          rw [show (w.alloc (.cells #[.int .i64 f, .int .i64 0, .int .i64 0] 33)).heap.size = w.heap.size + 1 by simp] at h
          exact h)
        have HB1 := Lib.hid (HB0.out.alloc HB0.out.size (.cells #[.int .i64 a, .int .i64 0, .int .i64 0] 33))
        have HQ2_0 := Lib.hid (HQ1_0.out.alloc (.cells #[.int .i64 a, .int .i64 0, .int .i64 0] 33))
        have HQ2_1 := Lib.hid (HQ1_1.out.alloc (.cells #[.int .i64 a, .int .i64 0, .int .i64 0] 33))
        have HQ2_2 : Hid (Blk (((w.alloc (.cells #[.int .i64 f, .int .i64 0, .int .i64 0] 33)).alloc (.cells #[.int .i64 a, .int .i64 0, .int .i64 0] 33)).alloc (.cells #[.int .i64 a, .int .i64 0, .int .i64 0] 33)) (w.heap.size + 2) 33 #[.int .i64 a, .int .i64 0, .int .i64 0]) := Lib.hid (by
          have h := Blk.new ((w.alloc (.cells #[.int .i64 f, .int .i64 0, .int .i64 0] 33)).alloc (.cells #[.int .i64 a, .int .i64 0, .int .i64 0] 33)) 33 #[.int .i64 a, .int .i64 0, .int .i64 0]
          rw [show ((w.alloc (.cells #[.int .i64 f, .int .i64 0, .int .i64 0] 33)).alloc (.cells #[.int .i64 a, .int .i64 0, .int .i64 0] 33)).heap.size = w.heap.size + 2 by simp] at h
          exact h)
        have HB2 := Lib.hid (HB1.out.alloc HB1.out.size (.cells #[.int .i64 a, .int .i64 0, .int .i64 0] 33))
        exact fin_parts HB2.out HQ2_1.out rfl rfl
  · obtain ⟨a1, e0⟩ : ∃ v, a - f = v := ⟨_, rfl⟩
    have g0 : 0 ≤ a1 := by omega
    have l0 : a1 ≤ 9223372036854775807 := by omega
    by_cases c1 : a1 < i
    · by_cases c2 : 0 < p
      · rw [show x = f by omega, show y = a1 by omega, show z = 0 by omega, show r = 0 by omega]
        clear hx hy hz hr
        have x0 := fun W => idx0 f i p W
        have x1 := fun W => idx1 f i p W
        have x2 := fun W => idx2 f i p W
        unfold ov
        go_enter Tryd.func12, Tryd.ntmps12
        go_wp2_with fail
        go_rounds 4
        go_wp2_with fail
        have HQ0 := Lib.hid (Blk.new w 33 #[.int .i64 f, .int .i64 i, .int .i64 p])
        have HB0 := Lib.hid (b_alloc w (.cells #[.int .i64 f, .int .i64 i, .int .i64 p] 33))
        have HQ1_0 := Lib.hid (HQ0.out.alloc (.cells #[.int .i64 f, .int .i64 a1, .int .i64 0] 33))
        have HQ1_1 : Hid (Blk ((w.alloc (.cells #[.int .i64 f, .int .i64 i, .int .i64 p] 33)).alloc (.cells #[.int .i64 f, .int .i64 a1, .int .i64 0] 33)) (w.heap.size + 1) 33 #[.int .i64 f, .int .i64 a1, .int .i64 0]) := Lib.hid (by
          have h := Blk.new (w.alloc (.cells #[.int .i64 f, .int .i64 i, .int .i64 p] 33)) 33 #[.int .i64 f, .int .i64 a1, .int .i64 0]
          rw [show (w.alloc (.cells #[.int .i64 f, .int .i64 i, .int .i64 p] 33)).heap.size = w.heap.size + 1 by simp] at h
          exact h)
        have HB1 := Lib.hid (HB0.out.alloc HB0.out.size (.cells #[.int .i64 f, .int .i64 a1, .int .i64 0] 33))
        have HQ2_0 := Lib.hid (HQ1_0.out.alloc (.cells #[.int .i64 f, .int .i64 a1, .int .i64 0] 33))
        have HQ2_1 := Lib.hid (HQ1_1.out.alloc (.cells #[.int .i64 f, .int .i64 a1, .int .i64 0] 33))
        have HQ2_2 : Hid (Blk (((w.alloc (.cells #[.int .i64 f, .int .i64 i, .int .i64 p] 33)).alloc (.cells #[.int .i64 f, .int .i64 a1, .int .i64 0] 33)).alloc (.cells #[.int .i64 f, .int .i64 a1, .int .i64 0] 33)) (w.heap.size + 2) 33 #[.int .i64 f, .int .i64 a1, .int .i64 0]) := Lib.hid (by
          have h := Blk.new ((w.alloc (.cells #[.int .i64 f, .int .i64 i, .int .i64 p] 33)).alloc (.cells #[.int .i64 f, .int .i64 a1, .int .i64 0] 33)) 33 #[.int .i64 f, .int .i64 a1, .int .i64 0]
          rw [show ((w.alloc (.cells #[.int .i64 f, .int .i64 i, .int .i64 p] 33)).alloc (.cells #[.int .i64 f, .int .i64 a1, .int .i64 0] 33)).heap.size = w.heap.size + 2 by simp] at h
          exact h)
        have HB2 := Lib.hid (HB1.out.alloc HB1.out.size (.cells #[.int .i64 f, .int .i64 a1, .int .i64 0] 33))
        exact fin_parts HB2.out HQ2_1.out rfl rfl
      · obtain rfl : p = 0 := by omega
        rw [show x = f by omega, show y = a1 by omega, show z = 0 by omega, show r = 0 by omega]
        clear hx hy hz hr
        have x0 := fun W => idx0 f i 0 W
        have x1 := fun W => idx1 f i 0 W
        have x2 := fun W => idx2 f i 0 W
        unfold ov
        go_enter Tryd.func12, Tryd.ntmps12
        go_wp2_with fail
        go_rounds 4
        go_wp2_with fail
        have HQ0 := Lib.hid (Blk.new w 33 #[.int .i64 f, .int .i64 i, .int .i64 0])
        have HB0 := Lib.hid (b_alloc w (.cells #[.int .i64 f, .int .i64 i, .int .i64 0] 33))
        have HQ1_0 := Lib.hid (HQ0.out.alloc (.cells #[.int .i64 f, .int .i64 a1, .int .i64 0] 33))
        have HQ1_1 : Hid (Blk ((w.alloc (.cells #[.int .i64 f, .int .i64 i, .int .i64 0] 33)).alloc (.cells #[.int .i64 f, .int .i64 a1, .int .i64 0] 33)) (w.heap.size + 1) 33 #[.int .i64 f, .int .i64 a1, .int .i64 0]) := Lib.hid (by
          have h := Blk.new (w.alloc (.cells #[.int .i64 f, .int .i64 i, .int .i64 0] 33)) 33 #[.int .i64 f, .int .i64 a1, .int .i64 0]
          rw [show (w.alloc (.cells #[.int .i64 f, .int .i64 i, .int .i64 0] 33)).heap.size = w.heap.size + 1 by simp] at h
          exact h)
        have HB1 := Lib.hid (HB0.out.alloc HB0.out.size (.cells #[.int .i64 f, .int .i64 a1, .int .i64 0] 33))
        have HQ2_0 := Lib.hid (HQ1_0.out.alloc (.cells #[.int .i64 f, .int .i64 a1, .int .i64 0] 33))
        have HQ2_1 := Lib.hid (HQ1_1.out.alloc (.cells #[.int .i64 f, .int .i64 a1, .int .i64 0] 33))
        have HQ2_2 : Hid (Blk (((w.alloc (.cells #[.int .i64 f, .int .i64 i, .int .i64 0] 33)).alloc (.cells #[.int .i64 f, .int .i64 a1, .int .i64 0] 33)).alloc (.cells #[.int .i64 f, .int .i64 a1, .int .i64 0] 33)) (w.heap.size + 2) 33 #[.int .i64 f, .int .i64 a1, .int .i64 0]) := Lib.hid (by
          have h := Blk.new ((w.alloc (.cells #[.int .i64 f, .int .i64 i, .int .i64 0] 33)).alloc (.cells #[.int .i64 f, .int .i64 a1, .int .i64 0] 33)) 33 #[.int .i64 f, .int .i64 a1, .int .i64 0]
          rw [show ((w.alloc (.cells #[.int .i64 f, .int .i64 i, .int .i64 0] 33)).alloc (.cells #[.int .i64 f, .int .i64 a1, .int .i64 0] 33)).heap.size = w.heap.size + 2 by simp] at h
          exact h)
        have HB2 := Lib.hid (HB1.out.alloc HB1.out.size (.cells #[.int .i64 f, .int .i64 a1, .int .i64 0] 33))
        exact fin_parts HB2.out HQ2_1.out rfl rfl
    · obtain ⟨a2, e1⟩ : ∃ v, a1 - i = v := ⟨_, rfl⟩
      have g1 : 0 ≤ a2 := by omega
      have l1 : a2 ≤ 9223372036854775807 := by omega
      by_cases c2 : a2 < p
      · rw [show x = f by omega, show y = i by omega, show z = a2 by omega, show r = 0 by omega]
        clear hx hy hz hr
        have x0 := fun W => idx0 f i p W
        have x1 := fun W => idx1 f i p W
        have x2 := fun W => idx2 f i p W
        unfold ov
        go_enter Tryd.func12, Tryd.ntmps12
        go_wp2_with fail
        go_rounds 4
        go_wp2_with fail
        have HQ0 := Lib.hid (Blk.new w 33 #[.int .i64 f, .int .i64 i, .int .i64 p])
        have HB0 := Lib.hid (b_alloc w (.cells #[.int .i64 f, .int .i64 i, .int .i64 p] 33))
        have HQ1_0 := Lib.hid (HQ0.out.alloc (.cells #[.int .i64 f, .int .i64 i, .int .i64 a2] 33))
        have HQ1_1 : Hid (Blk ((w.alloc (.cells #[.int .i64 f, .int .i64 i, .int .i64 p] 33)).alloc (.cells #[.int .i64 f, .int .i64 i, .int .i64 a2] 33)) (w.heap.size + 1) 33 #[.int .i64 f, .int .i64 i, .int .i64 a2]) := Lib.hid (by
          have h := Blk.new (w.alloc (.cells #[.int .i64 f, .int .i64 i, .int .i64 p] 33)) 33 #[.int .i64 f, .int .i64 i, .int .i64 a2]
          rw [show (w.alloc (.cells #[.int .i64 f, .int .i64 i, .int .i64 p] 33)).heap.size = w.heap.size + 1 by simp] at h
          exact h)
        have HB1 := Lib.hid (HB0.out.alloc HB0.out.size (.cells #[.int .i64 f, .int .i64 i, .int .i64 a2] 33))
        have HQ2_0 := Lib.hid (HQ1_0.out.alloc (.cells #[.int .i64 f, .int .i64 i, .int .i64 a2] 33))
        have HQ2_1 := Lib.hid (HQ1_1.out.alloc (.cells #[.int .i64 f, .int .i64 i, .int .i64 a2] 33))
        have HQ2_2 : Hid (Blk (((w.alloc (.cells #[.int .i64 f, .int .i64 i, .int .i64 p] 33)).alloc (.cells #[.int .i64 f, .int .i64 i, .int .i64 a2] 33)).alloc (.cells #[.int .i64 f, .int .i64 i, .int .i64 a2] 33)) (w.heap.size + 2) 33 #[.int .i64 f, .int .i64 i, .int .i64 a2]) := Lib.hid (by
          have h := Blk.new ((w.alloc (.cells #[.int .i64 f, .int .i64 i, .int .i64 p] 33)).alloc (.cells #[.int .i64 f, .int .i64 i, .int .i64 a2] 33)) 33 #[.int .i64 f, .int .i64 i, .int .i64 a2]
          rw [show ((w.alloc (.cells #[.int .i64 f, .int .i64 i, .int .i64 p] 33)).alloc (.cells #[.int .i64 f, .int .i64 i, .int .i64 a2] 33)).heap.size = w.heap.size + 2 by simp] at h
          exact h)
        have HB2 := Lib.hid (HB1.out.alloc HB1.out.size (.cells #[.int .i64 f, .int .i64 i, .int .i64 a2] 33))
        exact fin_parts HB2.out HQ2_1.out rfl rfl
      · obtain ⟨a3, e2⟩ : ∃ v, a2 - p = v := ⟨_, rfl⟩
        have g2 : 0 ≤ a3 := by omega
        have l2 : a3 ≤ 9223372036854775807 := by omega
        rw [show x = f by omega, show y = i by omega, show z = p by omega, show r = a3 by omega]
        clear hx hy hz hr
        have x0 := fun W => idx0 f i p W
        have x1 := fun W => idx1 f i p W
        have x2 := fun W => idx2 f i p W
        unfold ov
        go_enter Tryd.func12, Tryd.ntmps12
        go_wp2_with fail
        go_rounds 4
        go_wp2_with fail
        have HQ0 := Lib.hid (Blk.new w 33 #[.int .i64 f, .int .i64 i, .int .i64 p])
        have HB0 := Lib.hid (b_alloc w (.cells #[.int .i64 f, .int .i64 i, .int .i64 p] 33))
        have HQ1_0 := Lib.hid (HQ0.out.alloc (.cells #[.int .i64 f, .int .i64 i, .int .i64 p] 33))
        have HQ1_1 : Hid (Blk ((w.alloc (.cells #[.int .i64 f, .int .i64 i, .int .i64 p] 33)).alloc (.cells #[.int .i64 f, .int .i64 i, .int .i64 p] 33)) (w.heap.size + 1) 33 #[.int .i64 f, .int .i64 i, .int .i64 p]) := Lib.hid (by
          have h := Blk.new (w.alloc (.cells #[.int .i64 f, .int .i64 i, .int .i64 p] 33)) 33 #[.int .i64 f, .int .i64 i, .int .i64 p]
          rw [show (w.alloc (.cells #[.int .i64 f, .int .i64 i, .int .i64 p] 33)).heap.size = w.heap.size + 1 by simp] at h
          exact h)
        have HB1 := Lib.hid (HB0.out.alloc HB0.out.size (.cells #[.int .i64 f, .int .i64 i, .int .i64 p] 33))
        have HQ2_0 := Lib.hid (HQ1_0.out.alloc (.cells #[.int .i64 f, .int .i64 i, .int .i64 p] 33))
        have HQ2_1 := Lib.hid (HQ1_1.out.alloc (.cells #[.int .i64 f, .int .i64 i, .int .i64 p] 33))
        have HQ2_2 : Hid (Blk (((w.alloc (.cells #[.int .i64 f, .int .i64 i, .int .i64 p] 33)).alloc (.cells #[.int .i64 f, .int .i64 i, .int .i64 p] 33)).alloc (.cells #[.int .i64 f, .int .i64 i, .int .i64 p] 33)) (w.heap.size + 2) 33 #[.int .i64 f, .int .i64 i, .int .i64 p]) := Lib.hid (by
          have h := Blk.new ((w.alloc (.cells #[.int .i64 f, .int .i64 i, .int .i64 p] 33)).alloc (.cells #[.int .i64 f, .int .i64 i, .int .i64 p] 33)) 33 #[.int .i64 f, .int .i64 i, .int .i64 p]
          rw [show ((w.alloc (.cells #[.int .i64 f, .int .i64 i, .int .i64 p] 33)).alloc (.cells #[.int .i64 f, .int .i64 i, .int .i64 p] 33)).heap.size = w.heap.size + 2 by simp] at h
          exact h)
        have HB2 := Lib.hid (HB1.out.alloc HB1.out.size (.cells #[.int .i64 f, .int .i64 i, .int .i64 p] 33))
        exact fin_parts HB2.out HQ2_1.out rfl rfl
set_option maxRecDepth 20000 in
set_option maxHeartbeats 4000000 in
theorem RParts_1 {f i p a x y z r : Int} (hk : okO f i p) (h0 : 0 ≤ a) (ha : a ≤ 9223372036854775807) (hg : Goes 1 f i p a x y z r) (w : World) :
    Calls Tryd.prog 12 #[ov f i p, .int .i64 1, .int .i64 a] w (Ret (.tuple #[ov x y z, .int .i64 r]) w) := by
  obtain ⟨k0, k1, k2⟩ := hk
  obtain ⟨hx, hy, hz, hr⟩ := hg
  simp only [Nat.reduceLeDiff, Nat.reduceEqDiff, if_true, if_false] at hx hy hz
  by_cases c1 : a < i
  · by_cases c2 : 0 < p
    · rw [show x = 0 by omega, show y = a by omega, show z = 0 by omega, show r = 0 by omega]
      clear hx hy hz hr
      have x0 := fun W => idx0 f i p W
      have x1 := fun W => idx1 f i p W
      have x2 := fun W => idx2 f i p W
      unfold ov
      go_enter Tryd.func12, Tryd.ntmps12
      go_wp2_with fail
      go_rounds 4
      go_wp2_with fail
      have HQ0 := Lib.hid (Blk.new w 33 #[.int .i64 f, .int .i64 i, .int .i64 p])
      have HB0 := Lib.hid (b_alloc w (.cells #[.int .i64 f, .int .i64 i, .int .i64 p] 33))
      have HQ1_0 := Lib.hid (HQ0.out.alloc (.cells #[.int .i64 0, .int .i64 a, .int .i64 0] 33))
      have HQ1_1 : Hid (Blk ((w.alloc (.cells #[.int .i64 f, .int .i64 i, .int .i64 p] 33)).alloc (.cells #[.int .i64 0, .int .i64 a, .int .i64 0] 33)) (w.heap.size + 1) 33 #[.int .i64 0, .int .i64 a, .int .i64 0]) := Lib.hid (by
        have h := Blk.new (w.alloc (.cells #[.int .i64 f, .int .i64 i, .int .i64 p] 33)) 33 #[.int .i64 0, .int .i64 a, .int .i64 0]
        rw [show (w.alloc (.cells #[.int .i64 f, .int .i64 i, .int .i64 p] 33)).heap.size = w.heap.size + 1 by simp] at h
        exact h)
      have HB1 := Lib.hid (HB0.out.alloc HB0.out.size (.cells #[.int .i64 0, .int .i64 a, .int .i64 0] 33))
      have HQ2_0 := Lib.hid (HQ1_0.out.alloc (.cells #[.int .i64 0, .int .i64 a, .int .i64 0] 33))
      have HQ2_1 := Lib.hid (HQ1_1.out.alloc (.cells #[.int .i64 0, .int .i64 a, .int .i64 0] 33))
      have HQ2_2 : Hid (Blk (((w.alloc (.cells #[.int .i64 f, .int .i64 i, .int .i64 p] 33)).alloc (.cells #[.int .i64 0, .int .i64 a, .int .i64 0] 33)).alloc (.cells #[.int .i64 0, .int .i64 a, .int .i64 0] 33)) (w.heap.size + 2) 33 #[.int .i64 0, .int .i64 a, .int .i64 0]) := Lib.hid (by
        have h := Blk.new ((w.alloc (.cells #[.int .i64 f, .int .i64 i, .int .i64 p] 33)).alloc (.cells #[.int .i64 0, .int .i64 a, .int .i64 0] 33)) 33 #[.int .i64 0, .int .i64 a, .int .i64 0]
        rw [show ((w.alloc (.cells #[.int .i64 f, .int .i64 i, .int .i64 p] 33)).alloc (.cells #[.int .i64 0, .int .i64 a, .int .i64 0] 33)).heap.size = w.heap.size + 2 by simp] at h
        exact h)
      have HB2 := Lib.hid (HB1.out.alloc HB1.out.size (.cells #[.int .i64 0, .int .i64 a, .int .i64 0] 33))
      exact fin_parts HB2.out HQ2_1.out rfl rfl
    · obtain rfl : p = 0 := by omega
      rw [show x = 0 by omega, show y = a by omega, show z = 0 by omega, show r = 0 by omega]
      clear hx hy hz hr
      have x0 := fun W => idx0 f i 0 W
      have x1 := fun W => idx1 f i 0 W
      have x2 := fun W => idx2 f i 0 W
      unfold ov
      go_enter Tryd.func12, Tryd.ntmps12
      go_wp2_with fail
      go_rounds 4
      go_wp2_with fail
      have HQ0 := Lib.hid (Blk.new w 33 #[.int .i64 f, .int .i64 i, .int .i64 0])
      have HB0 := Lib.hid (b_alloc w (.cells #[.int .i64 f, .int .i64 i, .int .i64 0] 33))
      have HQ1_0 := Lib.hid (HQ0.out.alloc (.cells #[.int .i64 0, .int .i64 a, .int .i64 0] 33))
      have HQ1_1 : Hid (Blk ((w.alloc (.cells #[.int .i64 f, .int .i64 i, .int .i64 0] 33)).alloc (.cells #[.int .i64 0, .int .i64 a, .int .i64 0] 33)) (w.heap.size + 1) 33 #[.int .i64 0, .int .i64 a, .int .i64 0]) := Lib.hid (by
        have h := Blk.new (w.alloc (.cells #[.int .i64 f, .int .i64 i, .int .i64 0] 33)) 33 #[.int .i64 0, .int .i64 a, .int .i64 0]
        rw [show (w.alloc (.cells #[.int .i64 f, .int .i64 i, .int .i64 0] 33)).heap.size = w.heap.size + 1 by simp] at h
        exact h)
      have HB1 := Lib.hid (HB0.out.alloc HB0.out.size (.cells #[.int .i64 0, .int .i64 a, .int .i64 0] 33))
      have HQ2_0 := Lib.hid (HQ1_0.out.alloc (.cells #[.int .i64 0, .int .i64 a, .int .i64 0] 33))
      have HQ2_1 := Lib.hid (HQ1_1.out.alloc (.cells #[.int .i64 0, .int .i64 a, .int .i64 0] 33))
      have HQ2_2 : Hid (Blk (((w.alloc (.cells #[.int .i64 f, .int .i64 i, .int .i64 0] 33)).alloc (.cells #[.int .i64 0, .int .i64 a, .int .i64 0] 33)).alloc (.cells #[.int .i64 0, .int .i64 a, .int .i64 0] 33)) (w.heap.size + 2) 33 #[.int .i64 0, .int .i64 a, .int .i64 0]) := Lib.hid (by
        have h := Blk.new ((w.alloc (.cells #[.int .i64 f, .int .i64 i, .int .i64 0] 33)).alloc (.cells #[.int .i64 0, .int .i64 a, .int .i64 0] 33)) 33 #[.int .i64 0, .int .i64 a, .int .i64 0]
        rw [show ((w.alloc (.cells #[.int .i64 f, .int .i64 i, .int .i64 0] 33)).alloc (.cells #[.int .i64 0, .int .i64 a, .int .i64 0] 33)).heap.size = w.heap.size + 2 by simp] at h
        exact h)
      have HB2 := Lib.hid (HB1.out.alloc HB1.out.size (.cells #[.int .i64 0, .int .i64 a, .int .i64 0] 33))
      exact fin_parts HB2.out HQ2_1.out rfl rfl
  · obtain ⟨a2, e1⟩ : ∃ v, a - i = v := ⟨_, rfl⟩
    have g1 : 0 ≤ a2 := by omega
    have l1 : a2 ≤ 9223372036854775807 := by omega
    by_cases c2 : a2 < p
    · rw [show x = 0 by omega, show y = i by omega, show z = a2 by omega, show r = 0 by omega]
      clear hx hy hz hr
      have x0 := fun W => idx0 f i p W
      have x1 := fun W => idx1 f i p W
      have x2 := fun W => idx2 f i p W
      unfold ov
      go_enter Tryd.func12, Tryd.ntmps12
      go_wp2_with fail
      go_rounds 4
      go_wp2_with fail
      have HQ0 := Lib.hid (Blk.new w 33 #[.int .i64 f, .int .i64 i, .int .i64 p])
      have HB0 := Lib.hid (b_alloc w (.cells #[.int .i64 f, .int .i64 i, .int .i64 p] 33))
      have HQ1_0 := Lib.hid (HQ0.out.alloc (.cells #[.int .i64 0, .int .i64 i, .int .i64 a2] 33))
      have HQ1_1 : Hid (Blk ((w.alloc (.cells #[.int .i64 f, .int .i64 i, .int .i64 p] 33)).alloc (.cells #[.int .i64 0, .int .i64 i, .int .i64 a2] 33)) (w.heap.size + 1) 33 #[.int .i64 0, .int .i64 i, .int .i64 a2]) := Lib.hid (by
        have h := Blk.new (w.alloc (.cells #[.int .i64 f, .int .i64 i, .int .i64 p] 33)) 33 #[.int .i64 0, .int .i64 i, .int .i64 a2]
        rw [show (w.alloc (.cells #[.int .i64 f, .int .i64 i, .int .i64 p] 33)).heap.size = w.heap.size + 1 by simp] at h
        exact h)
      have HB1 := Lib.hid (HB0.out.alloc HB0.out.size (.cells #[.int .i64 0, .int .i64 i, .int .i64 a2] 33))
      have HQ2_0 := Lib.hid (HQ1_0.out.alloc (.cells #[.int .i64 0, .int .i64 i, .int .i64 a2] 33))
      have HQ2_1 := Lib.hid (HQ1_1.out.alloc (.cells #[.int .i64 0, .int .i64 i, .int .i64 a2] 33))
      have HQ2_2 : Hid (Blk (((w.alloc (.cells #[.int .i64 f, .int .i64 i, .int .i64 p] 33)).alloc (.cells #[.int .i64 0, .int .i64 i, .int .i64 a2] 33)).alloc (.cells #[.int .i64 0, .int .i64 i, .int .i64 a2] 33)) (w.heap.size + 2) 33 #[.int .i64 0, .int .i64 i, .int .i64 a2]) := Lib.hid (by
        have h := Blk.new ((w.alloc (.cells #[.int .i64 f, .int .i64 i, .int .i64 p] 33)).alloc (.cells #[.int .i64 0, .int .i64 i, .int .i64 a2] 33)) 33 #[.int .i64 0, .int .i64 i, .int .i64 a2]
        rw [show ((w.alloc (.cells #[.int .i64 f, .int .i64 i, .int .i64 p] 33)).alloc (.cells #[.int .i64 0, .int .i64 i, .int .i64 a2] 33)).heap.size = w.heap.size + 2 by simp] at h
        exact h)
      have HB2 := Lib.hid (HB1.out.alloc HB1.out.size (.cells #[.int .i64 0, .int .i64 i, .int .i64 a2] 33))
      exact fin_parts HB2.out HQ2_1.out rfl rfl
    · obtain ⟨a3, e2⟩ : ∃ v, a2 - p = v := ⟨_, rfl⟩
      have g2 : 0 ≤ a3 := by omega
      have l2 : a3 ≤ 9223372036854775807 := by omega
      rw [show x = 0 by omega, show y = i by omega, show z = p by omega, show r = a3 by omega]
      clear hx hy hz hr
      have x0 := fun W => idx0 f i p W
      have x1 := fun W => idx1 f i p W
      have x2 := fun W => idx2 f i p W
      unfold ov
      go_enter Tryd.func12, Tryd.ntmps12
      go_wp2_with fail
      go_rounds 4
      go_wp2_with fail
      have HQ0 := Lib.hid (Blk.new w 33 #[.int .i64 f, .int .i64 i, .int .i64 p])
      have HB0 := Lib.hid (b_alloc w (.cells #[.int .i64 f, .int .i64 i, .int .i64 p] 33))
      have HQ1_0 := Lib.hid (HQ0.out.alloc (.cells #[.int .i64 0, .int .i64 i, .int .i64 p] 33))
      have HQ1_1 : Hid (Blk ((w.alloc (.cells #[.int .i64 f, .int .i64 i, .int .i64 p] 33)).alloc (.cells #[.int .i64 0, .int .i64 i, .int .i64 p] 33)) (w.heap.size + 1) 33 #[.int .i64 0, .int .i64 i, .int .i64 p]) := Lib.hid (by
        have h := Blk.new (w.alloc (.cells #[.int .i64 f, .int .i64 i, .int .i64 p] 33)) 33 #[.int .i64 0, .int .i64 i, .int .i64 p]
        rw [show (w.alloc (.cells #[.int .i64 f, .int .i64 i, .int .i64 p] 33)).heap.size = w.heap.size + 1 by simp] at h
        exact h)
      have HB1 := Lib.hid (HB0.out.alloc HB0.out.size (.cells #[.int .i64 0, .int .i64 i, .int .i64 p] 33))
      have HQ2_0 := Lib.hid (HQ1_0.out.alloc (.cells #[.int .i64 0, .int .i64 i, .int .i64 p] 33))
      have HQ2_1 := Lib.hid (HQ1_1.out.alloc (.cells #[.int .i64 0, .int .i64 i, .int .i64 p] 33))
      have HQ2_2 : Hid (Blk (((w.alloc (.cells #[.int .i64 f, .int .i64 i, .int .i64 p] 33)).alloc (.cells #[.int .i64 0, .int .i64 i, .int .i64 p] 33)).alloc (.cells #[.int .i64 0, .int .i64 i, .int .i64 p] 33)) (w.heap.size + 2) 33 #[.int .i64 0, .int .i64 i, .int .i64 p]) := Lib.hid (by
        have h := Blk.new ((w.alloc (.cells #[.int .i64 f, .int .i64 i, .int .i64 p] 33)).alloc (.cells #[.int .i64 0, .int .i64 i, .int .i64 p] 33)) 33 #[.int .i64 0, .int .i64 i, .int .i64 p]
        rw [show ((w.alloc (.cells #[.int .i64 f, .int .i64 i, .int .i64 p] 33)).alloc (.cells #[.int .i64 0, .int .i64 i, .int .i64 p] 33)).heap.size = w.heap.size + 2 by simp] at h
        exact h)
      have HB2 := Lib.hid (HB1.out.alloc HB1.out.size (.cells #[.int .i64 0, .int .i64 i, .int .i64 p] 33))
      exact fin_parts HB2.out HQ2_1.out rfl rfl
set_option maxRecDepth 20000 in
set_option maxHeartbeats 4000000 in
theorem RParts_2 {f i p a x y z r : Int} (hk : okO f i p) (h0 : 0 ≤ a) (ha : a ≤ 9223372036854775807) (hg : Goes 2 f i p a x y z r) (w : World) :
    Calls Tryd.prog 12 #[ov f i p, .int .i64 2, .int .i64 a] w (Ret (.tuple #[ov x y z, .int .i64 r]) w) := by
  obtain ⟨k0, k1, k2⟩ := hk
  obtain ⟨hx, hy, hz, hr⟩ := hg
  simp only [Nat.reduceLeDiff, Nat.reduceEqDiff, if_true, if_false] at hx hy hz
  by_cases c2 : a < p
  · rw [show x = 0 by omega, show y = 0 by omega, show z = a by omega, show r = 0 by omega]
    clear hx hy hz hr
    have x0 := fun W => idx0 f i p W
    have x1 := fun W => idx1 f i p W
    have x2 := fun W => idx2 f i p W
    unfold ov
    go_enter Tryd.func12, Tryd.ntmps12
    go_wp2_with fail
    go_rounds 4
    go_wp2_with fail
    have HQ0 := Lib.hid (Blk.new w 33 #[.int .i64 f, .int .i64 i, .int .i64 p])
    have HB0 := Lib.hid (b_alloc w (.cells #[.int .i64 f, .int .i64 i, .int .i64 p] 33))
    have HQ1_0 := Lib.hid (HQ0.out.alloc (.cells #[.int .i64 0, .int .i64 0, .int .i64 a] 33))
    have HQ1_1 : Hid (Blk ((w.alloc (.cells #[.int .i64 f, .int .i64 i, .int .i64 p] 33)).alloc (.cells #[.int .i64 0, .int .i64 0, .int .i64 a] 33)) (w.heap.size + 1) 33 #[.int .i64 0, .int .i64 0, .int .i64 a]) := Lib.hid (by
      have h := Blk.new (w.alloc (.cells #[.int .i64 f, .int .i64 i, .int .i64 p] 33)) 33 #[.int .i64 0, .int .i64 0, .int .i64 a]
      rw [show (w.alloc (.cells #[.int .i64 f, .int .i64 i, .int .i64 p] 33)).heap.size = w.heap.size + 1 by simp] at h
      exact h)
    have HB1 := Lib.hid (HB0.out.alloc HB0.out.size (.cells #[.int .i64 0, .int .i64 0, .int .i64 a] 33))
    have HQ2_0 := Lib.hid (HQ1_0.out.alloc (.cells #[.int .i64 0, .int .i64 0, .int .i64 a] 33))
    have HQ2_1 := Lib.hid (HQ1_1.out.alloc (.cells #[.int .i64 0, .int .i64 0, .int .i64 a] 33))
    have HQ2_2 : Hid (Blk (((w.alloc (.cells #[.int .i64 f, .int .i64 i, .int .i64 p] 33)).alloc (.cells #[.int .i64 0, .int .i64 0, .int .i64 a] 33)).alloc (.cells #[.int .i64 0, .int .i64 0, .int .i64 a] 33)) (w.heap.size + 2) 33 #[.int .i64 0, .int .i64 0, .int .i64 a]) := Lib.hid (by
      have h := Blk.new ((w.alloc (.cells #[.int .i64 f, .int .i64 i, .int .i64 p] 33)).alloc (.cells #[.int .i64 0, .int .i64 0, .int .i64 a] 33)) 33 #[.int .i64 0, .int .i64 0, .int .i64 a]
      rw [show ((w.alloc (.cells #[.int .i64 f, .int .i64 i, .int .i64 p] 33)).alloc (.cells #[.int .i64 0, .int .i64 0, .int .i64 a] 33)).heap.size = w.heap.size + 2 by simp] at h
      exact h)
    have HB2 := Lib.hid (HB1.out.alloc HB1.out.size (.cells #[.int .i64 0, .int .i64 0, .int .i64 a] 33))
    exact fin_parts HB2.out HQ2_1.out rfl rfl
  · obtain ⟨a3, e2⟩ : ∃ v, a - p = v := ⟨_, rfl⟩
    have g2 : 0 ≤ a3 := by omega
    have l2 : a3 ≤ 9223372036854775807 := by omega
    rw [show x = 0 by omega, show y = 0 by omega, show z = p by omega, show r = a3 by omega]
    clear hx hy hz hr
    have x0 := fun W => idx0 f i p W
    have x1 := fun W => idx1 f i p W
    have x2 := fun W => idx2 f i p W
    unfold ov
    go_enter Tryd.func12, Tryd.ntmps12
    go_wp2_with fail
    go_rounds 4
    go_wp2_with fail
    have HQ0 := Lib.hid (Blk.new w 33 #[.int .i64 f, .int .i64 i, .int .i64 p])
    have HB0 := Lib.hid (b_alloc w (.cells #[.int .i64 f, .int .i64 i, .int .i64 p] 33))
    have HQ1_0 := Lib.hid (HQ0.out.alloc (.cells #[.int .i64 0, .int .i64 0, .int .i64 p] 33))
    have HQ1_1 : Hid (Blk ((w.alloc (.cells #[.int .i64 f, .int .i64 i, .int .i64 p] 33)).alloc (.cells #[.int .i64 0, .int .i64 0, .int .i64 p] 33)) (w.heap.size + 1) 33 #[.int .i64 0, .int .i64 0, .int .i64 p]) := Lib.hid (by
      have h := Blk.new (w.alloc (.cells #[.int .i64 f, .int .i64 i, .int .i64 p] 33)) 33 #[.int .i64 0, .int .i64 0, .int .i64 p]
      rw [show (w.alloc (.cells #[.int .i64 f, .int .i64 i, .int .i64 p] 33)).heap.size = w.heap.size + 1 by simp] at h
      exact h)
    have HB1 := Lib.hid (HB0.out.alloc HB0.out.size (.cells #[.int .i64 0, .int .i64 0, .int .i64 p] 33))
    have HQ2_0 := Lib.hid (HQ1_0.out.alloc (.cells #[.int .i64 0, .int .i64 0, .int .i64 p] 33))
    have HQ2_1 := Lib.hid (HQ1_1.out.alloc (.cells #[.int .i64 0, .int .i64 0, .int .i64 p] 33))
    have HQ2_2 : Hid (Blk (((w.alloc (.cells #[.int .i64 f, .int .i64 i, .int .i64 p] 33)).alloc (.cells #[.int .i64 0, .int .i64 0, .int .i64 p] 33)).alloc (.cells #[.int .i64 0, .int .i64 0, .int .i64 p] 33)) (w.heap.size + 2) 33 #[.int .i64 0, .int .i64 0, .int .i64 p]) := Lib.hid (by
      have h := Blk.new ((w.alloc (.cells #[.int .i64 f, .int .i64 i, .int .i64 p] 33)).alloc (.cells #[.int .i64 0, .int .i64 0, .int .i64 p] 33)) 33 #[.int .i64 0, .int .i64 0, .int .i64 p]
      rw [show ((w.alloc (.cells #[.int .i64 f, .int .i64 i, .int .i64 p] 33)).alloc (.cells #[.int .i64 0, .int .i64 0, .int .i64 p] 33)).heap.size = w.heap.size + 2 by simp] at h
      exact h)
    have HB2 := Lib.hid (HB1.out.alloc HB1.out.size (.cells #[.int .i64 0, .int .i64 0, .int .i64 p] 33))
    exact fin_parts HB2.out HQ2_1.out rfl rfl
end Go.Proofs.YtbikfplipkhhcabDoor
