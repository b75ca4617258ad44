/-
api.At of a Fault; the document's example in numbers. Condition: errors.errorType is laid.
slices.Equal at legs; chart.Same of entries of one key. Conditions: the rows are there.
chart.Same of entries of one key. Conditions: the rows are there.
chart.Same of any two entries. Conditions: the rows are there.
The document's example. No condition.
-/
import Derived.Test.YtdnnkdldolhbpaaGreatDoorLedOX9
import Derived.Test.YtdnnkdldolhbpaaGreatDoorLedMX9
import Derived.Deep.CutBlock
import Derived.Test.YtdnnkdldolhbpaaGreatDoorTurCX9
import Derived.Test.YtdnnkdldolhbpaaGreatDoorFlowX9
namespace Go.Proofs.YtdnnkdldolhbpaaGreatDoor
open Go.ChangeShapes Go.WideShapes Go.ChangeAt Go.RowKit Go.Maps

set_option maxRecDepth 100000 in
set_option maxHeartbeats 2000000 in
theorem At_fault (N : Nat) (a : Nat) (v : Value) (w : World) (hg : Laid w) (hN : Blk w N 122 #[.int .u64 (a : Int), v]) : Calls Tryz.prog 24 #[.iface 119 (.pointer (some ⟨N, 0, none⟩))] w (Ret (.int .u64 (a : Int)) w) := by
  have hA : ∀ o : Obj, Laid (w.alloc o) := fun o => hg.below ((Below.refl _ w).alloc (Nat.le_refl _) o)
  have HA := Lib.hid (as_hitQ ⟨N, 0, none⟩ ⟨w.heap.size, 0, none⟩ (.pointer none) (w.alloc (.cells #[.pointer none] 119)) (hA _) (by simp) (by simp))
  have HN := Lib.hid hN
  clear hA hN
  go_enter Tryz.func24, Tryz.ntmps24
  go_wp2_with fail
  refine HA.out.mono ?_
  rintro ev w1 ⟨rfl, hw⟩
  have hc : w1.cell? ⟨w.heap.size, 0, none⟩ = some (.pointer (some ⟨N, 0, none⟩)) := by
    rw [hw]
    refine World.cell?_setCell_same' _ _ _ ?_
    rw [World.cell?_alloc_lt _ _ _ (by simp; omega), World.cell?_alloc_lt _ _ _ (by simp; omega), World.cell?_alloc_lt _ _ _ (by simp; omega), World.cell?_alloc_lt _ _ _ (by simp)]
    simp
  have hb : Below w.heap.size w w1 := by
    rw [hw]
    exact ((((((Below.refl _ w).alloc (Nat.le_refl _) _).alloc (by simp) _).alloc (by simp; omega) _).alloc (by simp; omega) _).alloc (by simp; omega) _).setCell (Nat.le_refl _) _
  clear hw
  have c0 := (HN.out.below hb HN.out.lt).cell 0
  simp at c0
  go_wp2_with fail
  go_ret
  exact ⟨rfl, hb⟩
theorem Code_err (N : Nat) (x : Value) (n : Int) (w : World) (hg : Laid w) (hN : Blk w N 122 #[x, eno14 n]) : Calls Tryz.prog 18 #[.iface 119 (.pointer (some ⟨N, 0, none⟩))] w (Ret (.int .i64 n) w) := Code_fault N x n w hg hN
/-! the example -/
def exL : List (Nat × Int) := [(1, -5), (2, 5)]
def exY (a : Nat) : Ky := ⟨a, 0, 1, 0⟩
theorem exY_in {a : Nat} (h : a < 4294967296) : (exY a).In := ⟨h, by show -2147483648 ≤ (0 : Int) ∧ (0 : Int) ≤ 2147483647; decide, by show (1 : Nat) < 256; decide, by show (0 : Nat) < 4294967296; decide⟩
theorem exL_in : ∀ u ∈ exL, LegIn u := fun u hu => by
  simp [exL] at hu
  rcases hu with rfl | rfl <;> exact ⟨by decide, by decide, by decide⟩
theorem exEnt (a : Nat) : entB (exY a) exL = true := by kernel_rfl
theorem okW_ex {f : Nat → Int} (h1 : fitB (f 1 + -5) = true) (h2 : fitB (f 2 + 5) = true) : okW f exL := fun j hj => by
  match j, hj with
  | 0, _ => simpa [exL, plusL, legS] using h1
  | 1, _ => simpa [exL, plusL, legS] using h2
theorem okW_neg {f : Nat → Int} (h1 : fitB (f 1 + 5) = true) (h2 : fitB (f 2 + -5) = true) : okW f (negL exL) := fun j hj => by
  match j, hj with
  | 0, _ => simpa [exL, negL, plusL, legS] using h1
  | 1, _ => simpa [exL, negL, plusL, legS] using h2
def exM1 (a : Nat) : List Li := [⟨exY a, exL, 0⟩]
theorem exOk1 (a : Nat) : postOk [] (exY a) exL := ⟨exEnt a, rfl, okW_ex (by rfl) (by rfl), okW_ex (by rfl) (by rfl)⟩
theorem exLive1 (a : Nat) : liveL (exM1 a) (exY a) = some 0 := by
  have := liveL_post (M := []) (x := (⟨exY a, exL, 0⟩ : Li)) rfl (exY a)
  simpa [exM1] using this
theorem exLegs1 (a : Nat) : legsAt (exM1 a) 0 = exL := rfl
theorem exRev (a : Nat) : revOk (exM1 a) (exY a) 0 := by
  refine ⟨exLive1 a, by rw [exLegs1]; decide, ?_⟩
  rw [exLegs1]
  refine ⟨okW_neg ?_ ?_, okW_neg ?_ ?_⟩ <;> simp [bal, ctl, sumB, exM1, exY, exL, loanP, allP, legS, fitB]
def exM2 (a : Nat) : List Li := [⟨exY a, exL, 0⟩, ⟨exY a, negL exL, 1⟩]
theorem exLive2 (a : Nat) : liveL (exM2 a) (exY a) = none := by
  have := liveL_rev (M := exM1 a) (x := (⟨exY a, negL exL, 1⟩ : Li)) (i := 0) rfl (exLive1 a) (exY a)
  simpa [exM1, exM2] using this
theorem exOk3 (a : Nat) : postOk (exM2 a) (exY a) exL := by
  refine ⟨exEnt a, exLive2 a, okW_ex ?_ ?_, okW_ex ?_ ?_⟩ <;> simp [bal, ctl, sumB, exM2, exY, exL, negL, loanP, allP, legS, fitB]
def exM3 (a : Nat) : List Li := [⟨exY a, exL, 0⟩, ⟨exY a, negL exL, 1⟩, ⟨exY a, exL, 0⟩]
theorem exLive3 (a : Nat) : liveX (exM3 a) (exY a) = some ⟨exY a, exL, 0⟩ := by
  have := liveL_post (M := exM2 a) (x := (⟨exY a, exL, 0⟩ : Li)) rfl (exY a)
  have h2 : liveL (exM3 a) (exY a) = some 2 := by simpa [exM2, exM3] using this
  unfold liveX
  rw [h2]
  rfl
theorem exBal3 : ofV (bal (exM3 1) 1) 2 = 5 := by decide
theorem exCtl3 : ofV (ctl (exM3 1)) 1 = -5 := by decide
end Go.Proofs.YtdnnkdldolhbpaaGreatDoor
namespace Go.Proofs.YtdnnkdldolhbpaaGreatDoor
open Go.ChangeShapes Go.WideShapes Go.ChangeAt Go.RowKit

theorem leg_loadL {w : World} {b o : Nat} {x z : Value} (h0 : w.cell? ⟨b, o, none⟩ = some x) (h1 : w.cell? ⟨b, o + 1, none⟩ = some z) : (Instr.loadAt 53 (.pointer (some ⟨b, o, none⟩))).run Tryz.prog w = .ok (.agg #[x, z]) w := by
  go_simp
theorem leg_neq (v1 v2 : Nat) (z1 z2 : Int) (w : World) (a : Act) (i j : Nat) (e0 : a.eval (.tmp i) = .agg #[.int .u8 (v1 : Int), .int .i64 z1]) (e1 : a.eval (.tmp j) = .agg #[.int .u8 (v2 : Int), .int .i64 z2]) (dst : Option Tmp) (ty : TypeId) (pos : String) (af : Array Edge) (g : Option (Nat × Bool)) :
    (execOp a.eval ⟨dst, .binOp .neq 53 (.tmp i) (.tmp j) 53, ty, pos, af, g⟩).run Tryz.prog w = .ok (.value (.bool (!decide (((v1, z1) : Nat × Int) = (v2, z2))))) w := by
  have t0 := ev_of e0
  have t1 := ev_of e1
  simp [execOp, go_sem, t0, t1]
  by_cases h1 : v1 = v2 <;> by_cases h2 : z1 = z2 <;> simp [h1, h2, Int.ofNat_inj]
/-- What holds at a round's head. -/
def EQRel (l1 l2 : List (Nat × Int)) (w : World) (i : Value) (w' : World) : Prop := ∃ k : Nat, k ≤ l1.length ∧ i = .int .i64 k ∧ l1.take k = l2.take k ∧ Below w.heap.size w w'
set_option maxRecDepth 100000 in
set_option maxHeartbeats 4000000 in
theorem Equal_any (A1 A2 : Option Addr) (n1 n2 c1 c2 B1 B2 : Nat) (l1 l2 : List (Nat × Int)) (w : World) (hR1 : Rs legT w B1 A1 l1) (hn1 : l1.length = n1) (hm1 : n1 ≤ 100000) (hB1 : B1 ≤ w.heap.size) (hR2 : Rs legT w B2 A2 l2) (hn2 : l2.length = n2) (hm2 : n2 ≤ 100000) (hB2 : B2 ≤ w.heap.size) :
    Calls Tryz.prog 33 #[.slice A1 n1 c1, .slice A2 n2 c2] w (Ret (.bool (decide (l1 = l2))) w) := by
  by_cases hne : n1 = n2
  · subst hne


    have HR1 := Lib.hid hR1
    have HR2 := Lib.hid hR2
    have HN1 := Lib.hid hn1
    have HN2 := Lib.hid hn2
    clear hR1 hR2 hn1 hn2 hm2
    go_enter Tryz.func33, Tryz.ntmps33
    go_wp2_with fail
    go_loopw [13] (EQRel l1 l2 w) (fun i _ => l1.length - (intOf i).toNat)
    case atStart => exact ⟨0, Nat.zero_le _, rfl, rfl, Below.refl _ _⟩
    case round =>
      obtain ⟨k, hk, rfl, htk, hbw⟩ := hrel
      have HTK := Lib.hid htk
      have HBW := Lib.hid hbw
      clear htk
      by_cases hlt : k < n1
      · have hk1 : k < l1.length := by rw [HN1.out]; exact hlt
        have hk2 : k < l2.length := by rw [HN2.out]; exact hlt
        obtain ⟨b1, o1, rfl, hb1, y0, y1⟩ := (HR1.out.below (hbw.mono hB1)).leg hk1
        obtain ⟨b2, o2, rfl, hb2, u0, u1⟩ := (HR2.out.below (hbw.mono hB2)).leg hk2
        have HS1 := Lib.hid (List.take_succ_eq_append_getElem hk1)
        have HS2 := Lib.hid (List.take_succ_eq_append_getElem hk2)
        have HG1 := Lib.hid (List.getElem?_eq_getElem hk1)
        have HG2 := Lib.hid (List.getElem?_eq_getElem hk2)
        obtain ⟨p1, hp1⟩ : ∃ p, l1[k] = p := ⟨_, rfl⟩
        obtain ⟨p2, hp2⟩ : ∃ p, l2[k] = p := ⟨_, rfl⟩
        rw [hp1] at y0 y1 HS1 HG1
        rw [hp2] at u0 u1 HS2 HG2
        obtain ⟨v1, z1⟩ := p1
        obtain ⟨v2, z2⟩ := p2
        simp only at y0 y1 u0 u1
        clear hp1 hp2
        have Y0 := Lib.hid y0
        have Y1 := Lib.hid y1
        have U0 := Lib.hid u0
        have U1 := Lib.hid u1
        have hb1w : b1 < wr.heap.size := Nat.lt_of_lt_of_le hb1 (Nat.le_trans hB1 hbw.size)
        have hb2w : b2 < wr.heap.size := Nat.lt_of_lt_of_le hb2 (Nat.le_trans hB2 hbw.size)
        clear y0 y1 u0 u1 hbw
        have hNE := leg_neq v1 v2 z1 z2
        cases hd : decide (((v1, z1) : Nat × Int) = (v2, z2))
        · have hnl : l1 ≠ l2 := fun e => by
            have h9 := HG1.out
            rw [e, HG2.out] at h9
            injection h9 with h9
            exact (of_decide_eq_false hd) h9.symm
          have HNL := Lib.hid hnl
          rw [hd] at hNE
          have HNE := Lib.hid hNE
          clear hNE hd hnl hk1 hk2
          go_upto_region 6 with (fail)
          refine wp_region_flow [some 16, some 17, some 18, some 19, some 20, some 21, some 22, some 23, some 24] (fun i => ([.is (.slice (some ⟨b1, o1, none⟩) n1 c1), .is (.int .i64 (k : Int)), .is (.pointer (some ⟨b1, o1 + k * 2, none⟩)), .is (.agg #[.int .u8 (v1 : Int), .int .i64 z1]), .is (.slice (some ⟨b2, o2, none⟩) n1 c2), .is (.int .i64 (k : Int)), .is (.pointer (some ⟨b2, o2 + k * 2, none⟩)), .is (.agg #[.int .u8 (v2 : Int), .int .i64 z2]), .is (.bool true)] : List Flw).getD i .any) (by kernel_rfl) (by kernel_rfl) rfl ?_ ?_
          · have LA : ∀ W', Below wr.heap.size wr W' → (Instr.loadAt 53 (.pointer (some ⟨b1, o1 + k * 2, none⟩))).run Tryz.prog W' = .ok (.agg #[.int .u8 (v1 : Int), .int .i64 z1]) W' := fun W' hb => leg_loadL ((hb.cell (p := ⟨b1, o1 + k * 2, none⟩) hb1w).trans Y0.out) ((hb.cell (p := ⟨b1, o1 + k * 2 + 1, none⟩) hb1w).trans Y1.out)
            have LB : ∀ W', Below wr.heap.size wr W' → (Instr.loadAt 53 (.pointer (some ⟨b2, o2 + k * 2, none⟩))).run Tryz.prog W' = .ok (.agg #[.int .u8 (v2 : Int), .int .i64 z2]) W' := fun W' hb => leg_loadL ((hb.cell (p := ⟨b2, o2 + k * 2, none⟩) hb2w).trans U0.out) ((hb.cell (p := ⟨b2, o2 + k * 2 + 1, none⟩) hb2w).trans U1.out)
            have hNE := HNE.out
            clear Y0 Y1 U0 U1 HNE HS1 HS2 HG1 HG2
            refine ⟨step_free rfl (fun aF wF hs hb => ?_), ?_⟩
            · obtain ⟨x0, -⟩ := hs
              have e0 : aF.eval (.tmp 0) = .slice (some ⟨b1, o1, none⟩) n1 c1 := x0
              exact opC_move e0 ⟨rfl, below_same wF⟩
            refine ⟨step_free rfl (fun aF wF hs hb => ?_), ?_⟩
            · obtain ⟨x0, -⟩ := hs
              have e0 : aF.eval (.tmp 5) = .int .i64 (k : Int) := x0
              exact opC_move e0 ⟨rfl, below_same wF⟩
            refine ⟨step_free rfl (fun aF wF hs hb => ?_), ?_⟩
            · obtain ⟨x0, x1, -⟩ := hs
              have e0 : aF.eval (.tmp 16) = .slice (some ⟨b1, o1, none⟩) n1 c1 := x0
              have e1 : aF.eval (.tmp 17) = .int .i64 (k : Int) := x1
              refine opC_value (v := .pointer (some ⟨b1, o1 + k * 2, none⟩)) ?_ ⟨rfl, below_same wF⟩
              have t0 := ev_of e0
              have t1 := ev_of e1
              go_simp
            refine ⟨step_free rfl (fun aF wF hs hb => ?_), ?_⟩
            · obtain ⟨x0, -⟩ := hs
              have e0 : aF.eval (.tmp 18) = .pointer (some ⟨b1, o1 + k * 2, none⟩) := x0
              exact opC_load e0 (LA wF hb) ⟨rfl, below_same wF⟩
            refine ⟨step_free rfl (fun aF wF hs hb => ?_), ?_⟩
            · obtain ⟨x0, -⟩ := hs
              have e0 : aF.eval (.tmp 1) = .slice (some ⟨b2, o2, none⟩) n1 c2 := x0
              exact opC_move e0 ⟨rfl, below_same wF⟩
            refine ⟨step_free rfl (fun aF wF hs hb => ?_), ?_⟩
            · obtain ⟨x0, -⟩ := hs
              have e0 : aF.eval (.tmp 5) = .int .i64 (k : Int) := x0
              exact opC_move e0 ⟨rfl, below_same wF⟩
            refine ⟨step_free rfl (fun aF wF hs hb => ?_), ?_⟩
            · obtain ⟨x0, x1, -⟩ := hs
              have e0 : aF.eval (.tmp 20) = .slice (some ⟨b2, o2, none⟩) n1 c2 := x0
              have e1 : aF.eval (.tmp 21) = .int .i64 (k : Int) := x1
              refine opC_value (v := .pointer (some ⟨b2, o2 + k * 2, none⟩)) ?_ ⟨rfl, below_same wF⟩
              have t0 := ev_of e0
              have t1 := ev_of e1
              go_simp
            refine ⟨step_free rfl (fun aF wF hs hb => ?_), ?_⟩
            · obtain ⟨x0, -⟩ := hs
              have e0 : aF.eval (.tmp 22) = .pointer (some ⟨b2, o2 + k * 2, none⟩) := x0
              exact opC_load e0 (LB wF hb) ⟨rfl, below_same wF⟩
            refine ⟨step_free rfl (fun aF wF hs hb => ?_), ?_⟩
            · obtain ⟨x0, x1, -⟩ := hs
              have e0 : aF.eval (.tmp 19) = .agg #[.int .u8 (v1 : Int), .int .i64 z1] := x0
              have e1 : aF.eval (.tmp 23) = .agg #[.int .u8 (v2 : Int), .int .i64 z2] := x1
              refine opC_value (v := .bool true) ?_ ⟨rfl, below_same wF⟩
              exact hNE wF aF _ _ e0 e1 _ _ _ _ _
            exact trivial
          · intro f w5 hf hb5
            have h24 : f 8 = .bool true := hf 8 24 rfl
            have HB5 := Lib.hid (HBW.out.trans (hb5.mono HBW.out.size))
            simp only [putF, Act.put, List.setIfInBounds_toArray, List.set_cons_zero, List.set_cons_succ]
            rw [h24]
            clear h24 hf hb5
            go_wp2_with fail
            go_ret
            exact ⟨by rw [decide_eq_false HNL.out]; rfl, HB5.out⟩
        · have hpe : ((v1, z1) : Nat × Int) = (v2, z2) := of_decide_eq_true hd
          rw [hd] at hNE
          have HNE := Lib.hid hNE
          have HPE := Lib.hid hpe
          have HLT9 := Lib.hid hk1
          clear hNE hd hpe hk1 hk2
          go_upto_region 6 with (fail)
          refine wp_region_flow [some 16, some 17, some 18, some 19, some 20, some 21, some 22, some 23, some 24] (fun i => ([.is (.slice (some ⟨b1, o1, none⟩) n1 c1), .is (.int .i64 (k : Int)), .is (.pointer (some ⟨b1, o1 + k * 2, none⟩)), .is (.agg #[.int .u8 (v1 : Int), .int .i64 z1]), .is (.slice (some ⟨b2, o2, none⟩) n1 c2), .is (.int .i64 (k : Int)), .is (.pointer (some ⟨b2, o2 + k * 2, none⟩)), .is (.agg #[.int .u8 (v2 : Int), .int .i64 z2]), .is (.bool false)] : List Flw).getD i .any) (by kernel_rfl) (by kernel_rfl) rfl ?_ ?_
          · have LA : ∀ W', Below wr.heap.size wr W' → (Instr.loadAt 53 (.pointer (some ⟨b1, o1 + k * 2, none⟩))).run Tryz.prog W' = .ok (.agg #[.int .u8 (v1 : Int), .int .i64 z1]) W' := fun W' hb => leg_loadL ((hb.cell (p := ⟨b1, o1 + k * 2, none⟩) hb1w).trans Y0.out) ((hb.cell (p := ⟨b1, o1 + k * 2 + 1, none⟩) hb1w).trans Y1.out)
            have LB : ∀ W', Below wr.heap.size wr W' → (Instr.loadAt 53 (.pointer (some ⟨b2, o2 + k * 2, none⟩))).run Tryz.prog W' = .ok (.agg #[.int .u8 (v2 : Int), .int .i64 z2]) W' := fun W' hb => leg_loadL ((hb.cell (p := ⟨b2, o2 + k * 2, none⟩) hb2w).trans U0.out) ((hb.cell (p := ⟨b2, o2 + k * 2 + 1, none⟩) hb2w).trans U1.out)
            have hNE := HNE.out
            clear Y0 Y1 U0 U1 HNE HS1 HS2 HG1 HG2
            refine ⟨step_free rfl (fun aF wF hs hb => ?_), ?_⟩
            · obtain ⟨x0, -⟩ := hs
              have e0 : aF.eval (.tmp 0) = .slice (some ⟨b1, o1, none⟩) n1 c1 := x0
              exact opC_move e0 ⟨rfl, below_same wF⟩
            refine ⟨step_free rfl (fun aF wF hs hb => ?_), ?_⟩
            · obtain ⟨x0, -⟩ := hs
              have e0 : aF.eval (.tmp 5) = .int .i64 (k : Int) := x0
              exact opC_move e0 ⟨rfl, below_same wF⟩
            refine ⟨step_free rfl (fun aF wF hs hb => ?_), ?_⟩
            · obtain ⟨x0, x1, -⟩ := hs
              have e0 : aF.eval (.tmp 16) = .slice (some ⟨b1, o1, none⟩) n1 c1 := x0
              have e1 : aF.eval (.tmp 17) = .int .i64 (k : Int) := x1
              refine opC_value (v := .pointer (some ⟨b1, o1 + k * 2, none⟩)) ?_ ⟨rfl, below_same wF⟩
              have t0 := ev_of e0
              have t1 := ev_of e1
              go_simp
            refine ⟨step_free rfl (fun aF wF hs hb => ?_), ?_⟩
            · obtain ⟨x0, -⟩ := hs
              have e0 : aF.eval (.tmp 18) = .pointer (some ⟨b1, o1 + k * 2, none⟩) := x0
              exact opC_load e0 (LA wF hb) ⟨rfl, below_same wF⟩
            refine ⟨step_free rfl (fun aF wF hs hb => ?_), ?_⟩
            · obtain ⟨x0, -⟩ := hs
              have e0 : aF.eval (.tmp 1) = .slice (some ⟨b2, o2, none⟩) n1 c2 := x0
              exact opC_move e0 ⟨rfl, below_same wF⟩
            refine ⟨step_free rfl (fun aF wF hs hb => ?_), ?_⟩
            · obtain ⟨x0, -⟩ := hs
              have e0 : aF.eval (.tmp 5) = .int .i64 (k : Int) := x0
              exact opC_move e0 ⟨rfl, below_same wF⟩
            refine ⟨step_free rfl (fun aF wF hs hb => ?_), ?_⟩
            · obtain ⟨x0, x1, -⟩ := hs
              have e0 : aF.eval (.tmp 20) = .slice (some ⟨b2, o2, none⟩) n1 c2 := x0
              have e1 : aF.eval (.tmp 21) = .int .i64 (k : Int) := x1
              refine opC_value (v := .pointer (some ⟨b2, o2 + k * 2, none⟩)) ?_ ⟨rfl, below_same wF⟩
              have t0 := ev_of e0
              have t1 := ev_of e1
              go_simp
            refine ⟨step_free rfl (fun aF wF hs hb => ?_), ?_⟩
            · obtain ⟨x0, -⟩ := hs
              have e0 : aF.eval (.tmp 22) = .pointer (some ⟨b2, o2 + k * 2, none⟩) := x0
              exact opC_load e0 (LB wF hb) ⟨rfl, below_same wF⟩
            refine ⟨step_free rfl (fun aF wF hs hb => ?_), ?_⟩
            · obtain ⟨x0, x1, -⟩ := hs
              have e0 : aF.eval (.tmp 19) = .agg #[.int .u8 (v1 : Int), .int .i64 z1] := x0
              have e1 : aF.eval (.tmp 23) = .agg #[.int .u8 (v2 : Int), .int .i64 z2] := x1
              refine opC_value (v := .bool false) ?_ ⟨rfl, below_same wF⟩
              exact hNE wF aF _ _ e0 e1 _ _ _ _ _
            exact trivial
          · intro f w5 hf hb5
            have h24 : f 8 = .bool false := hf 8 24 rfl
            have HB5 := Lib.hid (HBW.out.trans (hb5.mono HBW.out.size))
            simp only [putF, Act.put, List.setIfInBounds_toArray, List.set_cons_zero, List.set_cons_succ]
            rw [h24]
            clear h24 hf hb5
            go_wp2_with fail
            go_roundw
            case rel => exact ⟨k + 1, HLT9.out, by go_num, by rw [HS1.out, HS2.out, HTK.out, HPE.out], HB5.out⟩
            case measure =>
              have := HLT9.out
              simp [intOf]
              omega
      · have hkn : k = l1.length := by have := HN1.out; omega
        subst hkn
        have h9 := HTK.out
        rw [List.take_length, List.take_of_length_le (by have := HN1.out; have := HN2.out; omega)] at h9
        have H9 := Lib.hid h9
        clear h9 hbw
        go_wp2_with fail
        go_ret
        exact ⟨by rw [decide_eq_true H9.out]; rfl, HBW.out⟩
  · have hnl : l1 ≠ l2 := fun e => hne (by rw [← hn1, ← hn2, e])
    have hj : ((n1 : Int) != (n2 : Int)) = true := by rw [bne_iff_ne]; omega
    rw [decide_eq_false hnl]
    clear hR1 hR2 hn1 hn2 hne hnl
    go_enter Tryz.func33, Tryz.ntmps33
    go_wp2_with fail
    go_ret
    exact ⟨by first | rfl | simp, Below.refl _ _⟩
end Go.Proofs.YtdnnkdldolhbpaaGreatDoor
namespace Go.Proofs.YtdnnkdldolhbpaaGreatDoor
open Go.ChangeShapes Go.WideShapes Go.ChangeAt Go.RowKit

set_option maxRecDepth 100000 in
set_option maxHeartbeats 4000000 in
theorem SameK_any (y : Ky) (A1 A2 : Option Addr) (n1 n2 c1 c2 B1 B2 : Nat) (l1 l2 : List (Nat × Int)) (w : World) (hR1 : Rs legT w B1 A1 l1) (hn1 : l1.length = n1) (hm1 : n1 ≤ 100000) (hB1 : B1 ≤ w.heap.size) (hR2 : Rs legT w B2 A2 l2) (hn2 : l2.length = n2) (hm2 : n2 ≤ 100000) (hB2 : B2 ≤ w.heap.size) :
    Calls Tryz.prog 13 #[entV y (.slice A1 n1 c1), entV y (.slice A2 n2 c2)] w (Ret (.bool (decide (l1 = l2))) w) := by
  have HQ1 := Lib.hid ((Blk.new w 40 (entC y (.slice A1 n1 c1))).alloc (.cells (entC y (.slice A2 n2 c2)) 40))
  have HQ2 : Hid (Blk ((w.alloc (.cells (entC y (.slice A1 n1 c1)) 40)).alloc (.cells (entC y (.slice A2 n2 c2)) 40)) (w.heap.size + 1) 40 (entC y (.slice A2 n2 c2))) := Lib.hid (by
    have h := Blk.new (w.alloc (.cells (entC y (.slice A1 n1 c1)) 40)) 40 (entC y (.slice A2 n2 c2))
    rw [show (w.alloc (.cells (entC y (.slice A1 n1 c1)) 40)).heap.size = w.heap.size + 1 by simp] at h
    exact h)
  have HB2 := Lib.hid ((b_alloc w (.cells (entC y (.slice A1 n1 c1)) 40)).alloc (by simp) (.cells (entC y (.slice A2 n2 c2)) 40))
  have hE := Equal_any A1 A2 n1 n2 c1 c2 B1 B2 l1 l2 _ (hR1.below (HB2.out.mono hB1)) hn1 hm1 (Nat.le_trans hB1 HB2.out.size) (hR2.below (HB2.out.mono hB2)) hn2 hm2 (Nat.le_trans hB2 HB2.out.size)
  obtain ⟨q, hq⟩ : ∃ q, decide (l1 = l2) = q := ⟨_, rfl⟩
  rw [hq] at hE ⊢
  clear hR1 hR2 hn1 hn2 hq
  unfold entC at HQ1 HQ2 HB2 hE
  unfold entV entC
  obtain ⟨W, hW⟩ : ∃ W, ((w.alloc (.cells #[.int .u32 (y.a : Int), .int .i32 y.d, .int .u8 (y.k : Int), .int .u32 (y.s : Int), .slice A1 n1 c1] 40)).alloc (.cells #[.int .u32 (y.a : Int), .int .i32 y.d, .int .u8 (y.k : Int), .int .u32 (y.s : Int), .slice A2 n2 c2] 40)) = W := ⟨_, rfl⟩
  rw [hW] at HQ1 HQ2 HB2 hE
  have HW := Lib.hid hW
  have HE := Lib.hid hE
  clear hW hE
  go_enter Tryz.func13, Tryz.ntmps13
  go_upto_region 1 with (fail)
  rw [HW.out]
  have x0 := HQ1.out.cell 0
  have x1 := HQ1.out.cell 1
  have x2 := HQ1.out.cell 2
  have x3 := HQ1.out.cell 3
  have x4 := HQ1.out.cell 4
  have u0 := HQ2.out.cell 0
  have u1 := HQ2.out.cell 1
  have u2 := HQ2.out.cell 2
  have u3 := HQ2.out.cell 3
  have u4 := HQ2.out.cell 4
  simp at x0 x1 x2 x3 x4 u0 u1 u2 u3 u4
  go_wp2_with fail
  refine HE.out.mono ?_
  rintro e w5 ⟨rfl, hb5⟩
  have HB5 := Lib.hid (HB2.out.trans (hb5.mono HB2.out.size))
  clear hb5
  go_wp2_with fail
  go_ret
  exact ⟨by first | rfl | simp, HB5.out⟩
end Go.Proofs.YtdnnkdldolhbpaaGreatDoor
namespace Go.Proofs.YtdnnkdldolhbpaaGreatDoor
open Go.ChangeShapes Go.WideShapes Go.ChangeAt Go.RowKit

set_option maxRecDepth 100000 in
set_option maxHeartbeats 4000000 in
/-- Keys that are not the same. -/
theorem SameN_any (a1 a2 k1 k2 s1 s2 : Nat) (d1 d2 : Int) (v1 v2 : Value) (w : World) (hne : ¬ (a1 = a2 ∧ d1 = d2 ∧ k1 = k2 ∧ s1 = s2)) :
    Calls Tryz.prog 13 #[.agg #[.int .u32 (a1 : Int), .int .i32 d1, .int .u8 (k1 : Int), .int .u32 (s1 : Int), v1], .agg #[.int .u32 (a2 : Int), .int .i32 d2, .int .u8 (k2 : Int), .int .u32 (s2 : Int), v2]] w (Ret (.bool false) w) := by
  have HQ1 := Lib.hid ((Blk.new w 40 #[.int .u32 (a1 : Int), .int .i32 d1, .int .u8 (k1 : Int), .int .u32 (s1 : Int), v1]).alloc (.cells #[.int .u32 (a2 : Int), .int .i32 d2, .int .u8 (k2 : Int), .int .u32 (s2 : Int), v2] 40))
  have HQ2 : Hid (Blk ((w.alloc (.cells #[.int .u32 (a1 : Int), .int .i32 d1, .int .u8 (k1 : Int), .int .u32 (s1 : Int), v1] 40)).alloc (.cells #[.int .u32 (a2 : Int), .int .i32 d2, .int .u8 (k2 : Int), .int .u32 (s2 : Int), v2] 40)) (w.heap.size + 1) 40 #[.int .u32 (a2 : Int), .int .i32 d2, .int .u8 (k2 : Int), .int .u32 (s2 : Int), v2]) := Lib.hid (by
    have h := Blk.new (w.alloc (.cells #[.int .u32 (a1 : Int), .int .i32 d1, .int .u8 (k1 : Int), .int .u32 (s1 : Int), v1] 40)) 40 #[.int .u32 (a2 : Int), .int .i32 d2, .int .u8 (k2 : Int), .int .u32 (s2 : Int), v2]
    rw [show (w.alloc (.cells #[.int .u32 (a1 : Int), .int .i32 d1, .int .u8 (k1 : Int), .int .u32 (s1 : Int), v1] 40)).heap.size = w.heap.size + 1 by simp] at h
    exact h)
  have HB2 := Lib.hid ((b_alloc w (.cells #[.int .u32 (a1 : Int), .int .i32 d1, .int .u8 (k1 : Int), .int .u32 (s1 : Int), v1] 40)).alloc (by simp) (.cells #[.int .u32 (a2 : Int), .int .i32 d2, .int .u8 (k2 : Int), .int .u32 (s2 : Int), v2] 40))
  obtain ⟨W, hW⟩ : ∃ W, ((w.alloc (.cells #[.int .u32 (a1 : Int), .int .i32 d1, .int .u8 (k1 : Int), .int .u32 (s1 : Int), v1] 40)).alloc (.cells #[.int .u32 (a2 : Int), .int .i32 d2, .int .u8 (k2 : Int), .int .u32 (s2 : Int), v2] 40)) = W := ⟨_, rfl⟩
  rw [hW] at HQ1 HQ2 HB2
  have HW := Lib.hid hW
  have HNE := Lib.hid hne
  clear hW hne
  go_enter Tryz.func13, Tryz.ntmps13
  go_upto_region 1 with (fail)
  rw [HW.out]
  have x0 := HQ1.out.cell 0
  have x1 := HQ1.out.cell 1
  have x2 := HQ1.out.cell 2
  have x3 := HQ1.out.cell 3
  have x4 := HQ1.out.cell 4
  have u0 := HQ2.out.cell 0
  have u1 := HQ2.out.cell 1
  have u2 := HQ2.out.cell 2
  have u3 := HQ2.out.cell 3
  have u4 := HQ2.out.cell 4
  simp at x0 x1 x2 x3 x4 u0 u1 u2 u3 u4
  clear HW HQ1 HQ2
  by_cases h1 : a1 = a2
  · subst h1
    by_cases h2 : d1 = d2
    · subst h2
      by_cases h3 : k1 = k2
      · subst h3
        have h4 : ¬ (s1 : Int) = (s2 : Int) := fun e => HNE.out ⟨rfl, rfl, rfl, Int.ofNat.inj e⟩
        go_wp2_with fail
        go_ret
        exact ⟨by first | rfl | simp, HB2.out⟩
      · have h4 : ¬ (k1 : Int) = (k2 : Int) := fun e => h3 (Int.ofNat.inj e)
        go_wp2_with fail
        go_ret
        exact ⟨by first | rfl | simp, HB2.out⟩
    · go_wp2_with fail
      go_ret
      exact ⟨by first | rfl | simp, HB2.out⟩
  · have h4 : ¬ (a1 : Int) = (a2 : Int) := fun e => h1 (Int.ofNat.inj e)
    go_wp2_with fail
    go_ret
    exact ⟨by first | rfl | simp, HB2.out⟩
/-- chart.Same, whole. -/
theorem Same13_any (y1 y2 : Ky) (A1 A2 : Option Addr) (n1 n2 c1 c2 B1 B2 : Nat) (l1 l2 : List (Nat × Int)) (w : World) (hR1 : Rs legT w B1 A1 l1) (hn1 : l1.length = n1) (hm1 : n1 ≤ 100000) (hB1 : B1 ≤ w.heap.size) (hR2 : Rs legT w B2 A2 l2) (hn2 : l2.length = n2) (hm2 : n2 ≤ 100000) (hB2 : B2 ≤ w.heap.size) :
    Calls Tryz.prog 13 #[entV y1 (.slice A1 n1 c1), entV y2 (.slice A2 n2 c2)] w (Ret (.bool (decide (y1 = y2 ∧ l1 = l2))) w) := by
  by_cases h : y1 = y2
  · subst h
    rw [show decide (y1 = y1 ∧ l1 = l2) = decide (l1 = l2) by simp]
    exact SameK_any y1 A1 A2 n1 n2 c1 c2 B1 B2 l1 l2 w hR1 hn1 hm1 hB1 hR2 hn2 hm2 hB2
  · rw [show decide (y1 = y2 ∧ l1 = l2) = false by simp [h]]
    obtain ⟨a1, d1, k1, s1⟩ := y1
    obtain ⟨a2, d2, k2, s2⟩ := y2
    exact SameN_any a1 a2 k1 k2 s1 s2 d1 d2 _ _ w (fun ⟨e1, e2, e3, e4⟩ => h (by subst e1 e2 e3 e4; rfl))
end Go.Proofs.YtdnnkdldolhbpaaGreatDoor
namespace Go.Proofs.YtdnnkdldolhbpaaGreatDoor
open Go.ChangeShapes Go.WideShapes Go.ChangeAt Go.RowKit Go.Maps

theorem rs_two {w : World} {g : Nat} {ty : TypeId} {x z : Int} (h : Blk w g ty #[.int .u8 1, .int .i64 x, .int .u8 2, .int .i64 z]) : Rs legT w w.heap.size (some ⟨g, 0, none⟩) [(1, x), (2, z)] := fun _ =>
  ⟨g, 0, rfl, h.lt, fun j v hv i u hi => by
    match j, hv with
    | 0, hv =>
      simp at hv
      subst hv
      match i, hi with
      | 0, hi => simp [legT] at hi; subst hi; exact (h.cell 0).trans rfl
      | 1, hi => simp [legT] at hi; subst hi; exact (h.cell 1).trans rfl
      | i + 2, hi => simp [legT] at hi
    | 1, hv =>
      simp at hv
      subst hv
      match i, hi with
      | 0, hi => simp [legT] at hi; subst hi; exact (h.cell 2).trans rfl
      | 1, hi => simp [legT] at hi; subst hi; exact (h.cell 3).trans rfl
      | i + 2, hi => simp [legT] at hi
    | j + 2, hv => simp at hv⟩
def exG (x : Int) : Array Value := #[.int .u8 1, .int .i64 x, .int .u8 2, .int .i64 5]
theorem LedL.far {w : World} {q : Nat} {D : Nat → Prop} {M : List Li} {L : Ky → Option Nat} (h : LedL w q D M L) {p : Addr} (hp : ¬ D p.block) (u : Value) : LedL (w.setCell p u) q D M L :=
  h.same (fun i hi => Below.heap_setCell _ _ _ _ (fun e => hp (by rw [← e]; exact hi))) (Nat.le_of_eq (by simp [World.size_setCell]))
set_option maxRecDepth 100000 in
set_option maxHeartbeats 8000000 in
theorem awake14 (w : World) : Calls Tryz.prog 7 #[] w (Ret (.bool true) w) := by
  obtain ⟨X, hX⟩ : ∃ X : Array Value, X = #[.int .u8 1, .int .i64 (-5), .int .u8 2, .int .i64 5] := ⟨_, rfl⟩
  obtain ⟨Y, hY⟩ : ∃ Y : Array Value, Y = #[.int .u32 1, .int .i32 0, .int .u8 1, .int .u32 0, .slice (some ⟨w.heap.size, 0, none⟩) 2 2] := ⟨_, rfl⟩
  have HB1 := Lib.hid ((b_alloc w (.cells X 53)).alloc (by simp) (.cells Y 40))
  have HG1 := Lib.hid ((Blk.new w 53 X).alloc (.cells Y 40))
  have HE1 : Hid (Blk ((w.alloc (.cells X 53)).alloc (.cells Y 40)) (w.heap.size + 1) 40 Y) := Lib.hid (by
    have h := Blk.new (w.alloc (.cells X 53)) 40 Y
    rw [show (w.alloc (.cells X 53)).heap.size = w.heap.size + 1 by simp] at h
    exact h)
  obtain ⟨W1, hW1⟩ : ∃ W, ((w.alloc (.cells X 53)).alloc (.cells Y 40)) = W := ⟨_, rfl⟩
  rw [hW1] at HB1 HG1 HE1
  have HN := Lib.hid (New_any W1)
  subst hX hY
  have HW := Lib.hid hW1
  clear hW1
  go_enter Tryz.func7, Tryz.ntmps7
  go_upto_region 2 with (fail)
  rw [HW.out]
  obtain ⟨q, hq⟩ : ∃ q, W1.heap.size = q := ⟨_, rfl⟩
  have HQ := Lib.hid hq
  have HLT := Lib.hid (show w.heap.size + 1 < q by rw [← hq]; exact HE1.out.lt)
  unfold NewPost at HN
  rw [hq] at HN
  clear hq
  go_wp2_with fail
  refine HN.out.mono ?_
  rintro e w2 ⟨rfl, hl2, hb2⟩
  rw [← HQ.out] at hb2
  have HB2 := Lib.hid (HB1.out.trans (hb2.mono HB1.out.size))
  have HG2 := Lib.hid (HG1.out.below hb2 HG1.out.lt)
  have HE2 := Lib.hid (HE1.out.below hb2 HE1.out.lt)
  have HL2 := Lib.hid hl2
  clear hb2 hl2 HB1 HG1 HE1 HN HW
  have m0 := HE2.out.cell 0
  have m1 := HE2.out.cell 1
  have m2 := HE2.out.cell 2
  have m3 := HE2.out.cell 3
  have m4 := HE2.out.cell 4
  simp at m0 m1 m2 m3 m4
  have HP : Hid (Calls Tryz.prog 17 #[.pointer (some ⟨q, 0, none⟩), .agg #[.int .u32 1, .int .i32 0, .int .u8 1, .int .u32 0, .slice (some ⟨w.heap.size, 0, none⟩) 2 2]] w2 (PostPost w2 q (fun i => i = q) [] (exY 1) exL)) := Lib.hid (Post_any q _ [] (exY 1) (exY_in (by decide)) (some ⟨w.heap.size, 0, none⟩) 2 2 exL w2 HL2.out (rs_two HG2.out) rfl (by decide) exL_in (by decide))
  go_wp2_with fail
  refine HP.out.mono ?_
  rintro e w3 ⟨hyes, -⟩
  obtain ⟨rfl, hcg, D3, hl3, hd3⟩ := hyes (exOk1 1)
  have hlt := HLT.out
  have hw2 := HL2.out.lt q rfl
  have HD3 : Hid (∀ i, D3 i → q ≤ i) := Lib.hid (fun i hi => by
    rcases hd3 i hi with h | h
    · exact Nat.le_of_eq h.symm
    · omega)
  have HG3 := Lib.hid (hcg.blk HG2.out (by omega))
  have HE3 := Lib.hid (hcg.blk HE2.out (by omega))
  have HB3 := Lib.hid (HB2.out.trans (hcg.below HB2.out.size (fun i hi => by rw [hi]; omega)))
  have HL3 := Lib.hid hl3
  clear hyes hcg hl3 hd3 HP HB2 HG2 HE2 HL2 m0 m1 m2 m3 m4 hw2
  have m0 := HE3.out.cell 0
  have m1 := HE3.out.cell 1
  have m2 := HE3.out.cell 2
  have m3 := HE3.out.cell 3
  have m4 := HE3.out.cell 4
  simp at m0 m1 m2 m3 m4
  have HR : Hid (Calls Tryz.prog 19 #[.pointer (some ⟨q, 0, none⟩), .agg #[.int .u32 1, .int .i32 0, .int .u8 1, .int .u32 0]] w3 (RevPost w3 q D3 (exM1 1) (exY 1))) := Lib.hid (Rev_any q D3 (exM1 1) (exY 1) (exY_in (by decide)) w3 HL3.out (by decide))
  go_wp2_with fail
  refine HR.out.mono ?_
  rintro e w4 ⟨hyes, -⟩
  obtain ⟨rfl, hcg, D4, hl4, hd4⟩ := hyes 0 (exRev 1)
  have HD4 : Hid (∀ i, D4 i → q ≤ i) := Lib.hid (fun i hi => by
    rcases hd4 i hi with h | h
    · exact HD3.out i h
    · have := HL3.out.lt q HL3.out.self
      omega)
  have HG4 := Lib.hid (hcg.blk HG3.out (fun hh => by have := HD3.out _ hh; omega))
  have HE4 := Lib.hid (hcg.blk HE3.out (fun hh => by have := HD3.out _ hh; omega))
  have HB4 := Lib.hid (HB3.out.trans (hcg.below HB3.out.size (fun i hi => by have := HD3.out _ hi; omega)))
  have HL4 : Hid (Led w4 q D4 (exM2 1)) := Lib.hid hl4
  clear hyes hcg hl4 hd4 HR HB3 HG3 HE3 HL3 HD3 m0 m1 m2 m3 m4
  have m0 := HE4.out.cell 0
  have m1 := HE4.out.cell 1
  have m2 := HE4.out.cell 2
  have m3 := HE4.out.cell 3
  have m4 := HE4.out.cell 4
  simp at m0 m1 m2 m3 m4
  have HP : Hid (Calls Tryz.prog 17 #[.pointer (some ⟨q, 0, none⟩), .agg #[.int .u32 1, .int .i32 0, .int .u8 1, .int .u32 0, .slice (some ⟨w.heap.size, 0, none⟩) 2 2]] w4 (PostPost w4 q D4 (exM2 1) (exY 1) exL)) := Lib.hid (Post_any q D4 (exM2 1) (exY 1) (exY_in (by decide)) (some ⟨w.heap.size, 0, none⟩) 2 2 exL w4 HL4.out (rs_two HG4.out) rfl (by decide) exL_in (by decide))
  go_wp2_with fail
  refine HP.out.mono ?_
  rintro e w5 ⟨hyes, -⟩
  obtain ⟨rfl, hcg, D5, hl5, hd5⟩ := hyes (exOk3 1)
  have HG5 := Lib.hid (hcg.blk HG4.out (fun hh => by have := HD4.out _ hh; omega))
  have HE5 := Lib.hid (hcg.blk HE4.out (fun hh => by have := HD4.out _ hh; omega))
  have HB5 := Lib.hid (HB4.out.trans (hcg.below HB4.out.size (fun i hi => by have := HD4.out _ hi; omega)))
  have HL5 : Hid (Led w5 q D5 (exM3 1)) := Lib.hid hl5
  clear hyes hcg hl5 hd5 HP HB4 HG4 HE4 HL4 HD4 m0 m1 m2 m3 m4
  have m0 := HE5.out.cell 0
  have m1 := HE5.out.cell 1
  have m2 := HE5.out.cell 2
  have m3 := HE5.out.cell 3
  have m4 := HE5.out.cell 4
  simp at m0 m1 m2 m3 m4
  have HLN : Hid (Calls Tryz.prog 11 #[.pointer (some ⟨q, 0, none⟩)] w5 (Ret (.int .i64 3) w5)) := Lib.hid (Len_any q D5 (exM3 1) w5 HL5.out)
  go_wp2_with fail
  refine HLN.out.mono ?_
  rintro e w6 ⟨rfl, hb6⟩
  have HB6 := Lib.hid (HB5.out.trans (hb6.mono HB5.out.size))
  have HG6 := Lib.hid (HG5.out.below hb6 HG5.out.lt)
  have HE6 := Lib.hid (HE5.out.below hb6 HE5.out.lt)
  have HL6 := Lib.hid (HL5.out.below hb6)
  clear hb6 HB5 HG5 HE5 HL5 HLN m0 m1 m2 m3 m4
  have m0 := HE6.out.cell 0
  have m1 := HE6.out.cell 1
  have m2 := HE6.out.cell 2
  have m3 := HE6.out.cell 3
  have m4 := HE6.out.cell 4
  simp at m0 m1 m2 m3 m4
  have HV : Hid (Calls Tryz.prog 16 #[.pointer (some ⟨q, 0, none⟩), .agg #[.int .u32 1, .int .i32 0, .int .u8 1, .int .u32 0]] w6 (LivePost (some ⟨exY 1, exL, 0⟩) w6)) := Lib.hid (by
    have := Live_any q D5 (exM3 1) (exY 1) (exY_in (by decide)) w6 HL6.out (by decide)
    rw [exLive3] at this
    exact this)
  go_wp2_with fail
  refine HV.out.mono ?_
  rintro e w7 ⟨A7, c7, rfl, ho7, hb7⟩
  have HB7 := Lib.hid (HB6.out.trans (hb7.mono HB6.out.size))
  have HG7 := Lib.hid (HG6.out.below hb7 HG6.out.lt)
  have HE7 := Lib.hid (HE6.out.below hb7 HE6.out.lt)
  have HL7 := Lib.hid (HL6.out.below hb7)
  have HO7 := Lib.hid ho7
  clear hb7 ho7 HB6 HG6 HE6 HL6 HV m0 m1 m2 m3 m4
  have HA8 := Lib.hid (b_alloc w7 (.cells #[.int .u32 1, .int .i32 0, .int .u8 1, .int .u32 0, .slice A7 2 c7] 40))
  have HX8 := Lib.hid (Blk.new w7 40 #[.int .u32 1, .int .i32 0, .int .u8 1, .int .u32 0, .slice A7 2 c7])
  unfold entV entC exY exL
  go_upto_region 6 with (fail)
  have hr7 : Rs legT w7 w7.heap.size A7 exL := by
    obtain ⟨_, A', c', he, _, _, hr⟩ := HO7.out.form (by decide)
    injection he with he1 he2 he3
    subst he1
    exact hr
  have HR8 := Lib.hid ((hr7.below HA8.out).more HA8.out.size)
  obtain ⟨W8, hW8⟩ : ∃ W8, w7.alloc (.cells #[.int .u32 1, .int .i32 0, .int .u8 1, .int .u32 0, .slice A7 2 c7] 40) = W8 := ⟨_, rfl⟩
  rw [hW8] at HA8 HX8 HR8 ⊢
  have HB8 := Lib.hid (HB7.out.trans (HA8.out.mono HB7.out.size))
  have HG8 := Lib.hid (HG7.out.below HA8.out HG7.out.lt)
  have HE8 := Lib.hid (HE7.out.below HA8.out HE7.out.lt)
  have HL8 := Lib.hid (HL7.out.below HA8.out)
  clear hW8 hr7 HA8 HB7 HG7 HE7 HL7 HO7
  have m0 := HE8.out.cell 0
  have m1 := HE8.out.cell 1
  have m2 := HE8.out.cell 2
  have m3 := HE8.out.cell 3
  have m4 := HE8.out.cell 4
  have x0 := HX8.out.cell 0
  have x1 := HX8.out.cell 1
  have x2 := HX8.out.cell 2
  have x3 := HX8.out.cell 3
  have x4 := HX8.out.cell 4
  simp at m0 m1 m2 m3 m4 x0 x1 x2 x3 x4
  have HS : Hid (Calls Tryz.prog 13 #[.agg #[.int .u32 1, .int .i32 0, .int .u8 1, .int .u32 0, .slice A7 2 c7], .agg #[.int .u32 1, .int .i32 0, .int .u8 1, .int .u32 0, .slice (some ⟨w.heap.size, 0, none⟩) 2 2]] W8 (Ret (.bool true) W8)) := Lib.hid (by
    have := Same13_any (exY 1) (exY 1) A7 (some ⟨w.heap.size, 0, none⟩) 2 2 c7 2 W8.heap.size W8.heap.size exL exL W8 HR8.out rfl (by decide) (Nat.le_refl _) (rs_two HG8.out) rfl (by decide) (Nat.le_refl _)
    rw [show decide (exY 1 = exY 1 ∧ exL = exL) = true from by simp] at this
    exact this)
  go_wp2_with fail
  refine HS.out.mono ?_
  rintro e w9 ⟨rfl, hb9⟩
  have HB9 := Lib.hid (HB8.out.trans (hb9.mono HB8.out.size))
  have HL9 := Lib.hid (HL8.out.below hb9)
  clear hb9 m0 m1 m2 m3 m4 x0 x1 x2 x3 x4 HB8 HG8 HE8 HL8 HX8 HR8 HS
  have HBA : Hid (Calls Tryz.prog 21 #[.pointer (some ⟨q, 0, none⟩), .int .u32 1, .int .u8 2] w9 (Ret (.int .i64 5) w9)) := Lib.hid (by
    have := Balance_any q D5 (exM3 1) 1 2 (by decide) (by decide) w9 HL9.out
    rw [exBal3] at this
    exact this)
  go_wp2_with fail
  refine HBA.out.mono ?_
  rintro e w10 ⟨rfl, hb10⟩
  have HB10 := Lib.hid (HB9.out.trans (hb10.mono HB9.out.size))
  have HL10 := Lib.hid (HL9.out.below hb10)
  clear hb10 HB9 HL9 HBA
  have HCA : Hid (Calls Tryz.prog 22 #[.pointer (some ⟨q, 0, none⟩), .int .u8 1] w10 (Ret (.int .i64 (-5)) w10)) := Lib.hid (by
    have := Control_any q D5 (exM3 1) 1 (by decide) w10 HL10.out
    rw [exCtl3] at this
    exact this)
  go_wp2_with fail
  refine HCA.out.mono ?_
  rintro e w11 ⟨rfl, hb11⟩
  have HB11 := Lib.hid (HB10.out.trans (hb11.mono HB10.out.size))
  clear hb11 HB10 HL10 HCA
  go_wp2_with fail
  go_ret
  exact ⟨rfl, HB11.out⟩
end Go.Proofs.YtdnnkdldolhbpaaGreatDoor
