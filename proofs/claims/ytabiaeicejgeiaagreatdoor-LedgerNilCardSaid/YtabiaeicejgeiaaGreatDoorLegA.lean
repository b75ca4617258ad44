/-
  slices.Equal at legs; chart.Same of entries of one key. Conditions: the rows are there.
-/
import Derived.Deep.CutBlock
import Derived.Test.YtabiaeicejgeiaaGreatDoorTurB
import Derived.Test.YtabiaeicejgeiaaGreatDoorFlow
namespace Go.Proofs.YtabiaeicejgeiaaGreatDoor
open Go.ChangeShapes Go.WideShapes Go.ChangeAt Go.RowKit

theorem leg_loadL {w : World} {b o : Nat} {x z : Value} (h0 : w.cell? ⟨b, o, none⟩ = some x) (h1 : w.cell? ⟨b, o + 1, none⟩ = some z) : (Instr.loadAt 53 (.pointer (some ⟨b, o, none⟩))).run Tryz.prog w = .ok (.agg #[x, z]) w := by
  go_simp
theorem leg_neq (v1 v2 : Nat) (z1 z2 : Int) (w : World) (a : Act) (i j : Nat) (e0 : a.eval (.tmp i) = .agg #[.int .u8 (v1 : Int), .int .i64 z1]) (e1 : a.eval (.tmp j) = .agg #[.int .u8 (v2 : Int), .int .i64 z2]) (dst : Option Tmp) (ty : TypeId) (pos : String) (af : Array Edge) (g : Option (Nat × Bool)) :
    (execOp a.eval ⟨dst, .binOp .neq 53 (.tmp i) (.tmp j) 53, ty, pos, af, g⟩).run Tryz.prog w = .ok (.value (.bool (!decide (((v1, z1) : Nat × Int) = (v2, z2))))) w := by
  have t0 := ev_of e0
  have t1 := ev_of e1
  simp [execOp, go_sem, t0, t1]
  by_cases h1 : v1 = v2 <;> by_cases h2 : z1 = z2 <;> simp [h1, h2, Int.ofNat_inj]
/-- What holds at a round's head. -/
def EQRel (l1 l2 : List (Nat × Int)) (w : World) (i : Value) (w' : World) : Prop := ∃ k : Nat, k ≤ l1.length ∧ i = .int .i64 k ∧ l1.take k = l2.take k ∧ Below w.heap.size w w'
set_option maxRecDepth 100000 in
set_option maxHeartbeats 4000000 in
theorem Equal_any (A1 A2 : Option Addr) (n1 n2 c1 c2 B1 B2 : Nat) (l1 l2 : List (Nat × Int)) (w : World) (hR1 : Rs legT w B1 A1 l1) (hn1 : l1.length = n1) (hm1 : n1 ≤ 100000) (hB1 : B1 ≤ w.heap.size) (hR2 : Rs legT w B2 A2 l2) (hn2 : l2.length = n2) (hm2 : n2 ≤ 100000) (hB2 : B2 ≤ w.heap.size) :
    Calls Tryz.prog 33 #[.slice A1 n1 c1, .slice A2 n2 c2] w (Ret (.bool (decide (l1 = l2))) w) := by
  by_cases hne : n1 = n2
  · subst hne


    have HR1 := Lib.hid hR1
    have HR2 := Lib.hid hR2
    have HN1 := Lib.hid hn1
    have HN2 := Lib.hid hn2
    clear hR1 hR2 hn1 hn2 hm2
    go_enter Tryz.func33, Tryz.ntmps33
    go_wp2_with fail
    go_loopw [13] (EQRel l1 l2 w) (fun i _ => l1.length - (intOf i).toNat)
    case atStart => exact ⟨0, Nat.zero_le _, rfl, rfl, Below.refl _ _⟩
    case round =>
      obtain ⟨k, hk, rfl, htk, hbw⟩ := hrel
      have HTK := Lib.hid htk
      have HBW := Lib.hid hbw
      clear htk
      by_cases hlt : k < n1
      · have hk1 : k < l1.length := by rw [HN1.out]; exact hlt
        have hk2 : k < l2.length := by rw [HN2.out]; exact hlt
        obtain ⟨b1, o1, rfl, hb1, y0, y1⟩ := (HR1.out.below (hbw.mono hB1)).leg hk1
        obtain ⟨b2, o2, rfl, hb2, u0, u1⟩ := (HR2.out.below (hbw.mono hB2)).leg hk2
        have HS1 := Lib.hid (List.take_succ_eq_append_getElem hk1)
        have HS2 := Lib.hid (List.take_succ_eq_append_getElem hk2)
        have HG1 := Lib.hid (List.getElem?_eq_getElem hk1)
        have HG2 := Lib.hid (List.getElem?_eq_getElem hk2)
        obtain ⟨p1, hp1⟩ : ∃ p, l1[k] = p := ⟨_, rfl⟩
        obtain ⟨p2, hp2⟩ : ∃ p, l2[k] = p := ⟨_, rfl⟩
        rw [hp1] at y0 y1 HS1 HG1
        rw [hp2] at u0 u1 HS2 HG2
        obtain ⟨v1, z1⟩ := p1
        obtain ⟨v2, z2⟩ := p2
        simp only at y0 y1 u0 u1
        clear hp1 hp2
        have Y0 := Lib.hid y0
        have Y1 := Lib.hid y1
        have U0 := Lib.hid u0
        have U1 := Lib.hid u1
        have hb1w : b1 < wr.heap.size := Nat.lt_of_lt_of_le hb1 (Nat.le_trans hB1 hbw.size)
        have hb2w : b2 < wr.heap.size := Nat.lt_of_lt_of_le hb2 (Nat.le_trans hB2 hbw.size)
        clear y0 y1 u0 u1 hbw
        have hNE := leg_neq v1 v2 z1 z2
        cases hd : decide (((v1, z1) : Nat × Int) = (v2, z2))
        · have hnl : l1 ≠ l2 := fun e => by
            have h9 := HG1.out
            rw [e, HG2.out] at h9
            injection h9 with h9
            exact (of_decide_eq_false hd) h9.symm
          have HNL := Lib.hid hnl
          rw [hd] at hNE
          have HNE := Lib.hid hNE
          clear hNE hd hnl hk1 hk2
          go_upto_region 6 with (fail)
          refine wp_region_flow [some 16, some 17, some 18, some 19, some 20, some 21, some 22, some 23, some 24] (fun i => ([.is (.slice (some ⟨b1, o1, none⟩) n1 c1), .is (.int .i64 (k : Int)), .is (.pointer (some ⟨b1, o1 + k * 2, none⟩)), .is (.agg #[.int .u8 (v1 : Int), .int .i64 z1]), .is (.slice (some ⟨b2, o2, none⟩) n1 c2), .is (.int .i64 (k : Int)), .is (.pointer (some ⟨b2, o2 + k * 2, none⟩)), .is (.agg #[.int .u8 (v2 : Int), .int .i64 z2]), .is (.bool true)] : List Flw).getD i .any) (by kernel_rfl) (by kernel_rfl) rfl ?_ ?_
          · have LA : ∀ W', Below wr.heap.size wr W' → (Instr.loadAt 53 (.pointer (some ⟨b1, o1 + k * 2, none⟩))).run Tryz.prog W' = .ok (.agg #[.int .u8 (v1 : Int), .int .i64 z1]) W' := fun W' hb => leg_loadL ((hb.cell (p := ⟨b1, o1 + k * 2, none⟩) hb1w).trans Y0.out) ((hb.cell (p := ⟨b1, o1 + k * 2 + 1, none⟩) hb1w).trans Y1.out)
            have LB : ∀ W', Below wr.heap.size wr W' → (Instr.loadAt 53 (.pointer (some ⟨b2, o2 + k * 2, none⟩))).run Tryz.prog W' = .ok (.agg #[.int .u8 (v2 : Int), .int .i64 z2]) W' := fun W' hb => leg_loadL ((hb.cell (p := ⟨b2, o2 + k * 2, none⟩) hb2w).trans U0.out) ((hb.cell (p := ⟨b2, o2 + k * 2 + 1, none⟩) hb2w).trans U1.out)
            have hNE := HNE.out
            clear Y0 Y1 U0 U1 HNE HS1 HS2 HG1 HG2
            refine ⟨step_free rfl (fun aF wF hs hb => ?_), ?_⟩
            · obtain ⟨x0, -⟩ := hs
              have e0 : aF.eval (.tmp 0) = .slice (some ⟨b1, o1, none⟩) n1 c1 := x0
              exact opC_move e0 ⟨rfl, below_same wF⟩
            refine ⟨step_free rfl (fun aF wF hs hb => ?_), ?_⟩
            · obtain ⟨x0, -⟩ := hs
              have e0 : aF.eval (.tmp 5) = .int .i64 (k : Int) := x0
              exact opC_move e0 ⟨rfl, below_same wF⟩
            refine ⟨step_free rfl (fun aF wF hs hb => ?_), ?_⟩
            · obtain ⟨x0, x1, -⟩ := hs
              have e0 : aF.eval (.tmp 16) = .slice (some ⟨b1, o1, none⟩) n1 c1 := x0
              have e1 : aF.eval (.tmp 17) = .int .i64 (k : Int) := x1
              refine opC_value (v := .pointer (some ⟨b1, o1 + k * 2, none⟩)) ?_ ⟨rfl, below_same wF⟩
              have t0 := ev_of e0
              have t1 := ev_of e1
              go_simp
            refine ⟨step_free rfl (fun aF wF hs hb => ?_), ?_⟩
            · obtain ⟨x0, -⟩ := hs
              have e0 : aF.eval (.tmp 18) = .pointer (some ⟨b1, o1 + k * 2, none⟩) := x0
              exact opC_load e0 (LA wF hb) ⟨rfl, below_same wF⟩
            refine ⟨step_free rfl (fun aF wF hs hb => ?_), ?_⟩
            · obtain ⟨x0, -⟩ := hs
              have e0 : aF.eval (.tmp 1) = .slice (some ⟨b2, o2, none⟩) n1 c2 := x0
              exact opC_move e0 ⟨rfl, below_same wF⟩
            refine ⟨step_free rfl (fun aF wF hs hb => ?_), ?_⟩
            · obtain ⟨x0, -⟩ := hs
              have e0 : aF.eval (.tmp 5) = .int .i64 (k : Int) := x0
              exact opC_move e0 ⟨rfl, below_same wF⟩
            refine ⟨step_free rfl (fun aF wF hs hb => ?_), ?_⟩
            · obtain ⟨x0, x1, -⟩ := hs
              have e0 : aF.eval (.tmp 20) = .slice (some ⟨b2, o2, none⟩) n1 c2 := x0
              have e1 : aF.eval (.tmp 21) = .int .i64 (k : Int) := x1
              refine opC_value (v := .pointer (some ⟨b2, o2 + k * 2, none⟩)) ?_ ⟨rfl, below_same wF⟩
              have t0 := ev_of e0
              have t1 := ev_of e1
              go_simp
            refine ⟨step_free rfl (fun aF wF hs hb => ?_), ?_⟩
            · obtain ⟨x0, -⟩ := hs
              have e0 : aF.eval (.tmp 22) = .pointer (some ⟨b2, o2 + k * 2, none⟩) := x0
              exact opC_load e0 (LB wF hb) ⟨rfl, below_same wF⟩
            refine ⟨step_free rfl (fun aF wF hs hb => ?_), ?_⟩
            · obtain ⟨x0, x1, -⟩ := hs
              have e0 : aF.eval (.tmp 19) = .agg #[.int .u8 (v1 : Int), .int .i64 z1] := x0
              have e1 : aF.eval (.tmp 23) = .agg #[.int .u8 (v2 : Int), .int .i64 z2] := x1
              refine opC_value (v := .bool true) ?_ ⟨rfl, below_same wF⟩
              exact hNE wF aF _ _ e0 e1 _ _ _ _ _
            exact trivial
          · intro f w5 hf hb5
            have h24 : f 8 = .bool true := hf 8 24 rfl
            have HB5 := Lib.hid (HBW.out.trans (hb5.mono HBW.out.size))
            simp only [putF, Act.put, List.setIfInBounds_toArray, List.set_cons_zero, List.set_cons_succ]
            rw [h24]
            clear h24 hf hb5
            go_wp2_with fail
            go_ret
            exact ⟨by rw [decide_eq_false HNL.out]; rfl, HB5.out⟩
        · have hpe : ((v1, z1) : Nat × Int) = (v2, z2) := of_decide_eq_true hd
          rw [hd] at hNE
          have HNE := Lib.hid hNE
          have HPE := Lib.hid hpe
          have HLT9 := Lib.hid hk1
          clear hNE hd hpe hk1 hk2
          go_upto_region 6 with (fail)
          refine wp_region_flow [some 16, some 17, some 18, some 19, some 20, some 21, some 22, some 23, some 24] (fun i => ([.is (.slice (some ⟨b1, o1, none⟩) n1 c1), .is (.int .i64 (k : Int)), .is (.pointer (some ⟨b1, o1 + k * 2, none⟩)), .is (.agg #[.int .u8 (v1 : Int), .int .i64 z1]), .is (.slice (some ⟨b2, o2, none⟩) n1 c2), .is (.int .i64 (k : Int)), .is (.pointer (some ⟨b2, o2 + k * 2, none⟩)), .is (.agg #[.int .u8 (v2 : Int), .int .i64 z2]), .is (.bool false)] : List Flw).getD i .any) (by kernel_rfl) (by kernel_rfl) rfl ?_ ?_
          · have LA : ∀ W', Below wr.heap.size wr W' → (Instr.loadAt 53 (.pointer (some ⟨b1, o1 + k * 2, none⟩))).run Tryz.prog W' = .ok (.agg #[.int .u8 (v1 : Int), .int .i64 z1]) W' := fun W' hb => leg_loadL ((hb.cell (p := ⟨b1, o1 + k * 2, none⟩) hb1w).trans Y0.out) ((hb.cell (p := ⟨b1, o1 + k * 2 + 1, none⟩) hb1w).trans Y1.out)
            have LB : ∀ W', Below wr.heap.size wr W' → (Instr.loadAt 53 (.pointer (some ⟨b2, o2 + k * 2, none⟩))).run Tryz.prog W' = .ok (.agg #[.int .u8 (v2 : Int), .int .i64 z2]) W' := fun W' hb => leg_loadL ((hb.cell (p := ⟨b2, o2 + k * 2, none⟩) hb2w).trans U0.out) ((hb.cell (p := ⟨b2, o2 + k * 2 + 1, none⟩) hb2w).trans U1.out)
            have hNE := HNE.out
            clear Y0 Y1 U0 U1 HNE HS1 HS2 HG1 HG2
            refine ⟨step_free rfl (fun aF wF hs hb => ?_), ?_⟩
            · obtain ⟨x0, -⟩ := hs
              have e0 : aF.eval (.tmp 0) = .slice (some ⟨b1, o1, none⟩) n1 c1 := x0
              exact opC_move e0 ⟨rfl, below_same wF⟩
            refine ⟨step_free rfl (fun aF wF hs hb => ?_), ?_⟩
            · obtain ⟨x0, -⟩ := hs
              have e0 : aF.eval (.tmp 5) = .int .i64 (k : Int) := x0
              exact opC_move e0 ⟨rfl, below_same wF⟩
            refine ⟨step_free rfl (fun aF wF hs hb => ?_), ?_⟩
            · obtain ⟨x0, x1, -⟩ := hs
              have e0 : aF.eval (.tmp 16) = .slice (some ⟨b1, o1, none⟩) n1 c1 := x0
              have e1 : aF.eval (.tmp 17) = .int .i64 (k : Int) := x1
              refine opC_value (v := .pointer (some ⟨b1, o1 + k * 2, none⟩)) ?_ ⟨rfl, below_same wF⟩
              have t0 := ev_of e0
              have t1 := ev_of e1
              go_simp
            refine ⟨step_free rfl (fun aF wF hs hb => ?_), ?_⟩
            · obtain ⟨x0, -⟩ := hs
              have e0 : aF.eval (.tmp 18) = .pointer (some ⟨b1, o1 + k * 2, none⟩) := x0
              exact opC_load e0 (LA wF hb) ⟨rfl, below_same wF⟩
            refine ⟨step_free rfl (fun aF wF hs hb => ?_), ?_⟩
            · obtain ⟨x0, -⟩ := hs
              have e0 : aF.eval (.tmp 1) = .slice (some ⟨b2, o2, none⟩) n1 c2 := x0
              exact opC_move e0 ⟨rfl, below_same wF⟩
            refine ⟨step_free rfl (fun aF wF hs hb => ?_), ?_⟩
            · obtain ⟨x0, -⟩ := hs
              have e0 : aF.eval (.tmp 5) = .int .i64 (k : Int) := x0
              exact opC_move e0 ⟨rfl, below_same wF⟩
            refine ⟨step_free rfl (fun aF wF hs hb => ?_), ?_⟩
            · obtain ⟨x0, x1, -⟩ := hs
              have e0 : aF.eval (.tmp 20) = .slice (some ⟨b2, o2, none⟩) n1 c2 := x0
              have e1 : aF.eval (.tmp 21) = .int .i64 (k : Int) := x1
              refine opC_value (v := .pointer (some ⟨b2, o2 + k * 2, none⟩)) ?_ ⟨rfl, below_same wF⟩
              have t0 := ev_of e0
              have t1 := ev_of e1
              go_simp
            refine ⟨step_free rfl (fun aF wF hs hb => ?_), ?_⟩
            · obtain ⟨x0, -⟩ := hs
              have e0 : aF.eval (.tmp 22) = .pointer (some ⟨b2, o2 + k * 2, none⟩) := x0
              exact opC_load e0 (LB wF hb) ⟨rfl, below_same wF⟩
            refine ⟨step_free rfl (fun aF wF hs hb => ?_), ?_⟩
            · obtain ⟨x0, x1, -⟩ := hs
              have e0 : aF.eval (.tmp 19) = .agg #[.int .u8 (v1 : Int), .int .i64 z1] := x0
              have e1 : aF.eval (.tmp 23) = .agg #[.int .u8 (v2 : Int), .int .i64 z2] := x1
              refine opC_value (v := .bool false) ?_ ⟨rfl, below_same wF⟩
              exact hNE wF aF _ _ e0 e1 _ _ _ _ _
            exact trivial
          · intro f w5 hf hb5
            have h24 : f 8 = .bool false := hf 8 24 rfl
            have HB5 := Lib.hid (HBW.out.trans (hb5.mono HBW.out.size))
            simp only [putF, Act.put, List.setIfInBounds_toArray, List.set_cons_zero, List.set_cons_succ]
            rw [h24]
            clear h24 hf hb5
            go_wp2_with fail
            go_roundw
            case rel => exact ⟨k + 1, HLT9.out, by go_num, by rw [HS1.out, HS2.out, HTK.out, HPE.out], HB5.out⟩
            case measure =>
              have := HLT9.out
              simp [intOf]
              omega
      · have hkn : k = l1.length := by have := HN1.out; omega
        subst hkn
        have h9 := HTK.out
        rw [List.take_length, List.take_of_length_le (by have := HN1.out; have := HN2.out; omega)] at h9
        have H9 := Lib.hid h9
        clear h9 hbw
        go_wp2_with fail
        go_ret
        exact ⟨by rw [decide_eq_true H9.out]; rfl, HBW.out⟩
  · have hnl : l1 ≠ l2 := fun e => hne (by rw [← hn1, ← hn2, e])
    have hj : ((n1 : Int) != (n2 : Int)) = true := by rw [bne_iff_ne]; omega
    rw [decide_eq_false hnl]
    clear hR1 hR2 hn1 hn2 hne hnl
    go_enter Tryz.func33, Tryz.ntmps33
    go_wp2_with fail
    go_ret
    exact ⟨by first | rfl | simp, Below.refl _ _⟩
end Go.Proofs.YtabiaeicejgeiaaGreatDoor
