/-
  chart.Same of any two entries. Conditions: the rows are there.
-/
import Derived.Deep.CutBlock
import Derived.Test.YtabiaeicejgeiaaGreatDoorLegB
namespace Go.Proofs.YtabiaeicejgeiaaGreatDoor
open Go.ChangeShapes Go.WideShapes Go.ChangeAt Go.RowKit

set_option maxRecDepth 100000 in
set_option maxHeartbeats 4000000 in
/-- Keys that are not the same. -/
theorem SameN_any (a1 a2 k1 k2 s1 s2 : Nat) (d1 d2 : Int) (v1 v2 : Value) (w : World) (hne : ¬ (a1 = a2 ∧ d1 = d2 ∧ k1 = k2 ∧ s1 = s2)) :
    Calls Tryz.prog 13 #[.agg #[.int .u32 (a1 : Int), .int .i32 d1, .int .u8 (k1 : Int), .int .u32 (s1 : Int), v1], .agg #[.int .u32 (a2 : Int), .int .i32 d2, .int .u8 (k2 : Int), .int .u32 (s2 : Int), v2]] w (Ret (.bool false) w) := by
  have HQ1 := Lib.hid ((Blk.new w 40 #[.int .u32 (a1 : Int), .int .i32 d1, .int .u8 (k1 : Int), .int .u32 (s1 : Int), v1]).alloc (.cells #[.int .u32 (a2 : Int), .int .i32 d2, .int .u8 (k2 : Int), .int .u32 (s2 : Int), v2] 40))
  have HQ2 : Hid (Blk ((w.alloc (.cells #[.int .u32 (a1 : Int), .int .i32 d1, .int .u8 (k1 : Int), .int .u32 (s1 : Int), v1] 40)).alloc (.cells #[.int .u32 (a2 : Int), .int .i32 d2, .int .u8 (k2 : Int), .int .u32 (s2 : Int), v2] 40)) (w.heap.size + 1) 40 #[.int .u32 (a2 : Int), .int .i32 d2, .int .u8 (k2 : Int), .int .u32 (s2 : Int), v2]) := Lib.hid (by
    have h := Blk.new (w.alloc (.cells #[.int .u32 (a1 : Int), .int .i32 d1, .int .u8 (k1 : Int), .int .u32 (s1 : Int), v1] 40)) 40 #[.int .u32 (a2 : Int), .int .i32 d2, .int .u8 (k2 : Int), .int .u32 (s2 : Int), v2]
    rw [show (w.alloc (.cells #[.int .u32 (a1 : Int), .int .i32 d1, .int .u8 (k1 : Int), .int .u32 (s1 : Int), v1] 40)).heap.size = w.heap.size + 1 by simp] at h
    exact h)
  have HB2 := Lib.hid ((b_alloc w (.cells #[.int .u32 (a1 : Int), .int .i32 d1, .int .u8 (k1 : Int), .int .u32 (s1 : Int), v1] 40)).alloc (by simp) (.cells #[.int .u32 (a2 : Int), .int .i32 d2, .int .u8 (k2 : Int), .int .u32 (s2 : Int), v2] 40))
  obtain ⟨W, hW⟩ : ∃ W, ((w.alloc (.cells #[.int .u32 (a1 : Int), .int .i32 d1, .int .u8 (k1 : Int), .int .u32 (s1 : Int), v1] 40)).alloc (.cells #[.int .u32 (a2 : Int), .int .i32 d2, .int .u8 (k2 : Int), .int .u32 (s2 : Int), v2] 40)) = W := ⟨_, rfl⟩
  rw [hW] at HQ1 HQ2 HB2
  have HW := Lib.hid hW
  have HNE := Lib.hid hne
  clear hW hne
  go_enter Tryz.func13, Tryz.ntmps13
  go_upto_region 1 with (fail)
  rw [HW.out]
  have x0 := HQ1.out.cell 0
  have x1 := HQ1.out.cell 1
  have x2 := HQ1.out.cell 2
  have x3 := HQ1.out.cell 3
  have x4 := HQ1.out.cell 4
  have u0 := HQ2.out.cell 0
  have u1 := HQ2.out.cell 1
  have u2 := HQ2.out.cell 2
  have u3 := HQ2.out.cell 3
  have u4 := HQ2.out.cell 4
  simp at x0 x1 x2 x3 x4 u0 u1 u2 u3 u4
  clear HW HQ1 HQ2
  by_cases h1 : a1 = a2
  · subst h1
    by_cases h2 : d1 = d2
    · subst h2
      by_cases h3 : k1 = k2
      · subst h3
        have h4 : ¬ (s1 : Int) = (s2 : Int) := fun e => HNE.out ⟨rfl, rfl, rfl, Int.ofNat.inj e⟩
        go_wp2_with fail
        go_ret
        exact ⟨by first | rfl | simp, HB2.out⟩
      · have h4 : ¬ (k1 : Int) = (k2 : Int) := fun e => h3 (Int.ofNat.inj e)
        go_wp2_with fail
        go_ret
        exact ⟨by first | rfl | simp, HB2.out⟩
    · go_wp2_with fail
      go_ret
      exact ⟨by first | rfl | simp, HB2.out⟩
  · have h4 : ¬ (a1 : Int) = (a2 : Int) := fun e => h1 (Int.ofNat.inj e)
    go_wp2_with fail
    go_ret
    exact ⟨by first | rfl | simp, HB2.out⟩
/-- chart.Same, whole. -/
theorem Same13_any (y1 y2 : Ky) (A1 A2 : Option Addr) (n1 n2 c1 c2 B1 B2 : Nat) (l1 l2 : List (Nat × Int)) (w : World) (hR1 : Rs legT w B1 A1 l1) (hn1 : l1.length = n1) (hm1 : n1 ≤ 100000) (hB1 : B1 ≤ w.heap.size) (hR2 : Rs legT w B2 A2 l2) (hn2 : l2.length = n2) (hm2 : n2 ≤ 100000) (hB2 : B2 ≤ w.heap.size) :
    Calls Tryz.prog 13 #[entV y1 (.slice A1 n1 c1), entV y2 (.slice A2 n2 c2)] w (Ret (.bool (decide (y1 = y2 ∧ l1 = l2))) w) := by
  by_cases h : y1 = y2
  · subst h
    rw [show decide (y1 = y1 ∧ l1 = l2) = decide (l1 = l2) by simp]
    exact SameK_any y1 A1 A2 n1 n2 c1 c2 B1 B2 l1 l2 w hR1 hn1 hm1 hB1 hR2 hn2 hm2 hB2
  · rw [show decide (y1 = y2 ∧ l1 = l2) = false by simp [h]]
    obtain ⟨a1, d1, k1, s1⟩ := y1
    obtain ⟨a2, d2, k2, s2⟩ := y2
    exact SameN_any a1 a2 k1 k2 s1 s2 d1 d2 _ _ w (fun ⟨e1, e2, e3, e4⟩ => h (by subst e1 e2 e3 e4; rfl))
end Go.Proofs.YtabiaeicejgeiaaGreatDoor
