/-
  chart.Same of entries of one key. Conditions: the rows are there.
-/
import Derived.Deep.CutBlock
import Derived.Test.YtabiaeicejgeiaaGreatDoorLegA
namespace Go.Proofs.YtabiaeicejgeiaaGreatDoor
open Go.ChangeShapes Go.WideShapes Go.ChangeAt Go.RowKit

set_option maxRecDepth 100000 in
set_option maxHeartbeats 4000000 in
theorem SameK_any (y : Ky) (A1 A2 : Option Addr) (n1 n2 c1 c2 B1 B2 : Nat) (l1 l2 : List (Nat × Int)) (w : World) (hR1 : Rs legT w B1 A1 l1) (hn1 : l1.length = n1) (hm1 : n1 ≤ 100000) (hB1 : B1 ≤ w.heap.size) (hR2 : Rs legT w B2 A2 l2) (hn2 : l2.length = n2) (hm2 : n2 ≤ 100000) (hB2 : B2 ≤ w.heap.size) :
    Calls Tryz.prog 13 #[entV y (.slice A1 n1 c1), entV y (.slice A2 n2 c2)] w (Ret (.bool (decide (l1 = l2))) w) := by
  have HQ1 := Lib.hid ((Blk.new w 40 (entC y (.slice A1 n1 c1))).alloc (.cells (entC y (.slice A2 n2 c2)) 40))
  have HQ2 : Hid (Blk ((w.alloc (.cells (entC y (.slice A1 n1 c1)) 40)).alloc (.cells (entC y (.slice A2 n2 c2)) 40)) (w.heap.size + 1) 40 (entC y (.slice A2 n2 c2))) := Lib.hid (by
    have h := Blk.new (w.alloc (.cells (entC y (.slice A1 n1 c1)) 40)) 40 (entC y (.slice A2 n2 c2))
    rw [show (w.alloc (.cells (entC y (.slice A1 n1 c1)) 40)).heap.size = w.heap.size + 1 by simp] at h
    exact h)
  have HB2 := Lib.hid ((b_alloc w (.cells (entC y (.slice A1 n1 c1)) 40)).alloc (by simp) (.cells (entC y (.slice A2 n2 c2)) 40))
  have hE := Equal_any A1 A2 n1 n2 c1 c2 B1 B2 l1 l2 _ (hR1.below (HB2.out.mono hB1)) hn1 hm1 (Nat.le_trans hB1 HB2.out.size) (hR2.below (HB2.out.mono hB2)) hn2 hm2 (Nat.le_trans hB2 HB2.out.size)
  obtain ⟨q, hq⟩ : ∃ q, decide (l1 = l2) = q := ⟨_, rfl⟩
  rw [hq] at hE ⊢
  clear hR1 hR2 hn1 hn2 hq
  unfold entC at HQ1 HQ2 HB2 hE
  unfold entV entC
  obtain ⟨W, hW⟩ : ∃ W, ((w.alloc (.cells #[.int .u32 (y.a : Int), .int .i32 y.d, .int .u8 (y.k : Int), .int .u32 (y.s : Int), .slice A1 n1 c1] 40)).alloc (.cells #[.int .u32 (y.a : Int), .int .i32 y.d, .int .u8 (y.k : Int), .int .u32 (y.s : Int), .slice A2 n2 c2] 40)) = W := ⟨_, rfl⟩
  rw [hW] at HQ1 HQ2 HB2 hE
  have HW := Lib.hid hW
  have HE := Lib.hid hE
  clear hW hE
  go_enter Tryz.func13, Tryz.ntmps13
  go_upto_region 1 with (fail)
  rw [HW.out]
  have x0 := HQ1.out.cell 0
  have x1 := HQ1.out.cell 1
  have x2 := HQ1.out.cell 2
  have x3 := HQ1.out.cell 3
  have x4 := HQ1.out.cell 4
  have u0 := HQ2.out.cell 0
  have u1 := HQ2.out.cell 1
  have u2 := HQ2.out.cell 2
  have u3 := HQ2.out.cell 3
  have u4 := HQ2.out.cell 4
  simp at x0 x1 x2 x3 x4 u0 u1 u2 u3 u4
  go_wp2_with fail
  refine HE.out.mono ?_
  rintro e w5 ⟨rfl, hb5⟩
  have HB5 := Lib.hid (HB2.out.trans (hb5.mono HB2.out.size))
  clear hb5
  go_wp2_with fail
  go_ret
  exact ⟨by first | rfl | simp, HB5.out⟩
end Go.Proofs.YtabiaeicejgeiaaGreatDoor
