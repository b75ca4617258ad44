/-
  The document's example. No condition.
-/
import Derived.Test.YtabiaeicejgeiaaGreatDoorLedQ
import Derived.Test.YtabiaeicejgeiaaGreatDoorLegD
namespace Go.Proofs.YtabiaeicejgeiaaGreatDoor
open Go.ChangeShapes Go.WideShapes Go.ChangeAt Go.RowKit Go.Maps

theorem rs_two {w : World} {g : Nat} {ty : TypeId} {x z : Int} (h : Blk w g ty #[.int .u8 1, .int .i64 x, .int .u8 2, .int .i64 z]) : Rs legT w w.heap.size (some ⟨g, 0, none⟩) [(1, x), (2, z)] := fun _ =>
  ⟨g, 0, rfl, h.lt, fun j v hv i u hi => by
    match j, hv with
    | 0, hv =>
      simp at hv
      subst hv
      match i, hi with
      | 0, hi => simp [legT] at hi; subst hi; exact (h.cell 0).trans rfl
      | 1, hi => simp [legT] at hi; subst hi; exact (h.cell 1).trans rfl
      | i + 2, hi => simp [legT] at hi
    | 1, hv =>
      simp at hv
      subst hv
      match i, hi with
      | 0, hi => simp [legT] at hi; subst hi; exact (h.cell 2).trans rfl
      | 1, hi => simp [legT] at hi; subst hi; exact (h.cell 3).trans rfl
      | i + 2, hi => simp [legT] at hi
    | j + 2, hv => simp at hv⟩
def exG (x : Int) : Array Value := #[.int .u8 1, .int .i64 x, .int .u8 2, .int .i64 5]
theorem LedL.far {w : World} {q : Nat} {D : Nat → Prop} {M : List Li} {L : Ky → Option Nat} (h : LedL w q D M L) {p : Addr} (hp : ¬ D p.block) (u : Value) : LedL (w.setCell p u) q D M L :=
  h.same (fun i hi => Below.heap_setCell _ _ _ _ (fun e => hp (by rw [← e]; exact hi))) (Nat.le_of_eq (by simp [World.size_setCell]))
set_option maxRecDepth 100000 in
set_option maxHeartbeats 8000000 in
theorem awake14 (w : World) : Calls Tryz.prog 7 #[] w (Ret (.bool true) w) := by
  obtain ⟨X, hX⟩ : ∃ X : Array Value, X = #[.int .u8 1, .int .i64 (-5), .int .u8 2, .int .i64 5] := ⟨_, rfl⟩
  obtain ⟨Y, hY⟩ : ∃ Y : Array Value, Y = #[.int .u32 1, .int .i32 0, .int .u8 1, .int .u32 0, .slice (some ⟨w.heap.size, 0, none⟩) 2 2] := ⟨_, rfl⟩
  have HB1 := Lib.hid ((b_alloc w (.cells X 53)).alloc (by simp) (.cells Y 40))
  have HG1 := Lib.hid ((Blk.new w 53 X).alloc (.cells Y 40))
  have HE1 : Hid (Blk ((w.alloc (.cells X 53)).alloc (.cells Y 40)) (w.heap.size + 1) 40 Y) := Lib.hid (by
    have h := Blk.new (w.alloc (.cells X 53)) 40 Y
    rw [show (w.alloc (.cells X 53)).heap.size = w.heap.size + 1 by simp] at h
    exact h)
  obtain ⟨W1, hW1⟩ : ∃ W, ((w.alloc (.cells X 53)).alloc (.cells Y 40)) = W := ⟨_, rfl⟩
  rw [hW1] at HB1 HG1 HE1
  have HN := Lib.hid (New_any W1)
  subst hX hY
  have HW := Lib.hid hW1
  clear hW1
  go_enter Tryz.func7, Tryz.ntmps7
  go_upto_region 2 with (fail)
  rw [HW.out]
  obtain ⟨q, hq⟩ : ∃ q, W1.heap.size = q := ⟨_, rfl⟩
  have HQ := Lib.hid hq
  have HLT := Lib.hid (show w.heap.size + 1 < q by rw [← hq]; exact HE1.out.lt)
  unfold NewPost at HN
  rw [hq] at HN
  clear hq
  go_wp2_with fail
  refine HN.out.mono ?_
  rintro e w2 ⟨rfl, hl2, hb2⟩
  rw [← HQ.out] at hb2
  have HB2 := Lib.hid (HB1.out.trans (hb2.mono HB1.out.size))
  have HG2 := Lib.hid (HG1.out.below hb2 HG1.out.lt)
  have HE2 := Lib.hid (HE1.out.below hb2 HE1.out.lt)
  have HL2 := Lib.hid hl2
  clear hb2 hl2 HB1 HG1 HE1 HN HW
  have m0 := HE2.out.cell 0
  have m1 := HE2.out.cell 1
  have m2 := HE2.out.cell 2
  have m3 := HE2.out.cell 3
  have m4 := HE2.out.cell 4
  simp at m0 m1 m2 m3 m4
  have HP : Hid (Calls Tryz.prog 17 #[.pointer (some ⟨q, 0, none⟩), .agg #[.int .u32 1, .int .i32 0, .int .u8 1, .int .u32 0, .slice (some ⟨w.heap.size, 0, none⟩) 2 2]] w2 (PostPost w2 q (fun i => i = q) [] (exY 1) exL)) := Lib.hid (Post_any q _ [] (exY 1) (exY_in (by decide)) (some ⟨w.heap.size, 0, none⟩) 2 2 exL w2 HL2.out (rs_two HG2.out) rfl (by decide) exL_in (by decide))
  go_wp2_with fail
  refine HP.out.mono ?_
  rintro e w3 ⟨hyes, -⟩
  obtain ⟨rfl, hcg, D3, hl3, hd3⟩ := hyes (exOk1 1)
  have hlt := HLT.out
  have hw2 := HL2.out.lt q rfl
  have HD3 : Hid (∀ i, D3 i → q ≤ i) := Lib.hid (fun i hi => by
    rcases hd3 i hi with h | h
    · exact Nat.le_of_eq h.symm
    · omega)
  have HG3 := Lib.hid (hcg.blk HG2.out (by omega))
  have HE3 := Lib.hid (hcg.blk HE2.out (by omega))
  have HB3 := Lib.hid (HB2.out.trans (hcg.below HB2.out.size (fun i hi => by rw [hi]; omega)))
  have HL3 := Lib.hid hl3
  clear hyes hcg hl3 hd3 HP HB2 HG2 HE2 HL2 m0 m1 m2 m3 m4 hw2
  have m0 := HE3.out.cell 0
  have m1 := HE3.out.cell 1
  have m2 := HE3.out.cell 2
  have m3 := HE3.out.cell 3
  have m4 := HE3.out.cell 4
  simp at m0 m1 m2 m3 m4
  have HR : Hid (Calls Tryz.prog 19 #[.pointer (some ⟨q, 0, none⟩), .agg #[.int .u32 1, .int .i32 0, .int .u8 1, .int .u32 0]] w3 (RevPost w3 q D3 (exM1 1) (exY 1))) := Lib.hid (Rev_any q D3 (exM1 1) (exY 1) (exY_in (by decide)) w3 HL3.out (by decide))
  go_wp2_with fail
  refine HR.out.mono ?_
  rintro e w4 ⟨hyes, -⟩
  obtain ⟨rfl, hcg, D4, hl4, hd4⟩ := hyes 0 (exRev 1)
  have HD4 : Hid (∀ i, D4 i → q ≤ i) := Lib.hid (fun i hi => by
    rcases hd4 i hi with h | h
    · exact HD3.out i h
    · have := HL3.out.lt q HL3.out.self
      omega)
  have HG4 := Lib.hid (hcg.blk HG3.out (fun hh => by have := HD3.out _ hh; omega))
  have HE4 := Lib.hid (hcg.blk HE3.out (fun hh => by have := HD3.out _ hh; omega))
  have HB4 := Lib.hid (HB3.out.trans (hcg.below HB3.out.size (fun i hi => by have := HD3.out _ hi; omega)))
  have HL4 : Hid (Led w4 q D4 (exM2 1)) := Lib.hid hl4
  clear hyes hcg hl4 hd4 HR HB3 HG3 HE3 HL3 HD3 m0 m1 m2 m3 m4
  have m0 := HE4.out.cell 0
  have m1 := HE4.out.cell 1
  have m2 := HE4.out.cell 2
  have m3 := HE4.out.cell 3
  have m4 := HE4.out.cell 4
  simp at m0 m1 m2 m3 m4
  have HP : Hid (Calls Tryz.prog 17 #[.pointer (some ⟨q, 0, none⟩), .agg #[.int .u32 1, .int .i32 0, .int .u8 1, .int .u32 0, .slice (some ⟨w.heap.size, 0, none⟩) 2 2]] w4 (PostPost w4 q D4 (exM2 1) (exY 1) exL)) := Lib.hid (Post_any q D4 (exM2 1) (exY 1) (exY_in (by decide)) (some ⟨w.heap.size, 0, none⟩) 2 2 exL w4 HL4.out (rs_two HG4.out) rfl (by decide) exL_in (by decide))
  go_wp2_with fail
  refine HP.out.mono ?_
  rintro e w5 ⟨hyes, -⟩
  obtain ⟨rfl, hcg, D5, hl5, hd5⟩ := hyes (exOk3 1)
  have HG5 := Lib.hid (hcg.blk HG4.out (fun hh => by have := HD4.out _ hh; omega))
  have HE5 := Lib.hid (hcg.blk HE4.out (fun hh => by have := HD4.out _ hh; omega))
  have HB5 := Lib.hid (HB4.out.trans (hcg.below HB4.out.size (fun i hi => by have := HD4.out _ hi; omega)))
  have HL5 : Hid (Led w5 q D5 (exM3 1)) := Lib.hid hl5
  clear hyes hcg hl5 hd5 HP HB4 HG4 HE4 HL4 HD4 m0 m1 m2 m3 m4
  have m0 := HE5.out.cell 0
  have m1 := HE5.out.cell 1
  have m2 := HE5.out.cell 2
  have m3 := HE5.out.cell 3
  have m4 := HE5.out.cell 4
  simp at m0 m1 m2 m3 m4
  have HLN : Hid (Calls Tryz.prog 11 #[.pointer (some ⟨q, 0, none⟩)] w5 (Ret (.int .i64 3) w5)) := Lib.hid (Len_any q D5 (exM3 1) w5 HL5.out)
  go_wp2_with fail
  refine HLN.out.mono ?_
  rintro e w6 ⟨rfl, hb6⟩
  have HB6 := Lib.hid (HB5.out.trans (hb6.mono HB5.out.size))
  have HG6 := Lib.hid (HG5.out.below hb6 HG5.out.lt)
  have HE6 := Lib.hid (HE5.out.below hb6 HE5.out.lt)
  have HL6 := Lib.hid (HL5.out.below hb6)
  clear hb6 HB5 HG5 HE5 HL5 HLN m0 m1 m2 m3 m4
  have m0 := HE6.out.cell 0
  have m1 := HE6.out.cell 1
  have m2 := HE6.out.cell 2
  have m3 := HE6.out.cell 3
  have m4 := HE6.out.cell 4
  simp at m0 m1 m2 m3 m4
  have HV : Hid (Calls Tryz.prog 16 #[.pointer (some ⟨q, 0, none⟩), .agg #[.int .u32 1, .int .i32 0, .int .u8 1, .int .u32 0]] w6 (LivePost (some ⟨exY 1, exL, 0⟩) w6)) := Lib.hid (by
    have := Live_any q D5 (exM3 1) (exY 1) (exY_in (by decide)) w6 HL6.out (by decide)
    rw [exLive3] at this
    exact this)
  go_wp2_with fail
  refine HV.out.mono ?_
  rintro e w7 ⟨A7, c7, rfl, ho7, hb7⟩
  have HB7 := Lib.hid (HB6.out.trans (hb7.mono HB6.out.size))
  have HG7 := Lib.hid (HG6.out.below hb7 HG6.out.lt)
  have HE7 := Lib.hid (HE6.out.below hb7 HE6.out.lt)
  have HL7 := Lib.hid (HL6.out.below hb7)
  have HO7 := Lib.hid ho7
  clear hb7 ho7 HB6 HG6 HE6 HL6 HV m0 m1 m2 m3 m4
  have HA8 := Lib.hid (b_alloc w7 (.cells #[.int .u32 1, .int .i32 0, .int .u8 1, .int .u32 0, .slice A7 2 c7] 40))
  have HX8 := Lib.hid (Blk.new w7 40 #[.int .u32 1, .int .i32 0, .int .u8 1, .int .u32 0, .slice A7 2 c7])
  unfold entV entC exY exL
  go_upto_region 6 with (fail)
  have hr7 : Rs legT w7 w7.heap.size A7 exL := by
    obtain ⟨_, A', c', he, _, _, hr⟩ := HO7.out.form (by decide)
    injection he with he1 he2 he3
    subst he1
    exact hr
  have HR8 := Lib.hid ((hr7.below HA8.out).more HA8.out.size)
  obtain ⟨W8, hW8⟩ : ∃ W8, w7.alloc (.cells #[.int .u32 1, .int .i32 0, .int .u8 1, .int .u32 0, .slice A7 2 c7] 40) = W8 := ⟨_, rfl⟩
  rw [hW8] at HA8 HX8 HR8 ⊢
  have HB8 := Lib.hid (HB7.out.trans (HA8.out.mono HB7.out.size))
  have HG8 := Lib.hid (HG7.out.below HA8.out HG7.out.lt)
  have HE8 := Lib.hid (HE7.out.below HA8.out HE7.out.lt)
  have HL8 := Lib.hid (HL7.out.below HA8.out)
  clear hW8 hr7 HA8 HB7 HG7 HE7 HL7 HO7
  have m0 := HE8.out.cell 0
  have m1 := HE8.out.cell 1
  have m2 := HE8.out.cell 2
  have m3 := HE8.out.cell 3
  have m4 := HE8.out.cell 4
  have x0 := HX8.out.cell 0
  have x1 := HX8.out.cell 1
  have x2 := HX8.out.cell 2
  have x3 := HX8.out.cell 3
  have x4 := HX8.out.cell 4
  simp at m0 m1 m2 m3 m4 x0 x1 x2 x3 x4
  have HS : Hid (Calls Tryz.prog 13 #[.agg #[.int .u32 1, .int .i32 0, .int .u8 1, .int .u32 0, .slice A7 2 c7], .agg #[.int .u32 1, .int .i32 0, .int .u8 1, .int .u32 0, .slice (some ⟨w.heap.size, 0, none⟩) 2 2]] W8 (Ret (.bool true) W8)) := Lib.hid (by
    have := Same13_any (exY 1) (exY 1) A7 (some ⟨w.heap.size, 0, none⟩) 2 2 c7 2 W8.heap.size W8.heap.size exL exL W8 HR8.out rfl (by decide) (Nat.le_refl _) (rs_two HG8.out) rfl (by decide) (Nat.le_refl _)
    rw [show decide (exY 1 = exY 1 ∧ exL = exL) = true from by simp] at this
    exact this)
  go_wp2_with fail
  refine HS.out.mono ?_
  rintro e w9 ⟨rfl, hb9⟩
  have HB9 := Lib.hid (HB8.out.trans (hb9.mono HB8.out.size))
  have HL9 := Lib.hid (HL8.out.below hb9)
  clear hb9 m0 m1 m2 m3 m4 x0 x1 x2 x3 x4 HB8 HG8 HE8 HL8 HX8 HR8 HS
  have HBA : Hid (Calls Tryz.prog 21 #[.pointer (some ⟨q, 0, none⟩), .int .u32 1, .int .u8 2] w9 (Ret (.int .i64 5) w9)) := Lib.hid (by
    have := Balance_any q D5 (exM3 1) 1 2 (by decide) (by decide) w9 HL9.out
    rw [exBal3] at this
    exact this)
  go_wp2_with fail
  refine HBA.out.mono ?_
  rintro e w10 ⟨rfl, hb10⟩
  have HB10 := Lib.hid (HB9.out.trans (hb10.mono HB9.out.size))
  have HL10 := Lib.hid (HL9.out.below hb10)
  clear hb10 HB9 HL9 HBA
  have HCA : Hid (Calls Tryz.prog 22 #[.pointer (some ⟨q, 0, none⟩), .int .u8 1] w10 (Ret (.int .i64 (-5)) w10)) := Lib.hid (by
    have := Control_any q D5 (exM3 1) 1 (by decide) w10 HL10.out
    rw [exCtl3] at this
    exact this)
  go_wp2_with fail
  refine HCA.out.mono ?_
  rintro e w11 ⟨rfl, hb11⟩
  have HB11 := Lib.hid (HB10.out.trans (hb11.mono HB10.out.size))
  clear hb11 HB10 HL10 HCA
  go_wp2_with fail
  go_ret
  exact ⟨rfl, HB11.out⟩
end Go.Proofs.YtabiaeicejgeiaaGreatDoor
