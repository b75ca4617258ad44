/-
Entry.Of, slices.IndexFunc at legs, slices.Clone at legs. Conditions: the rows are there.
slices.Clone at legs; a leg of an own row written over. Conditions: the rows are there.
slices.Equal at legs; chart.Same of entries of one key. Conditions: the rows are there.
chart.Same of entries of one key. Conditions: the rows are there.
chart.Same of any two entries. Conditions: the rows are there.
-/
import Derived.Deep.CutBlock
import Derived.Test.YtpbfipeinblfgaaGreatDoorChDaQ9
import Derived.LoopTactic
import Derived.Test.YtpbfipeinblfgaaGreatDoorChHR9
import Derived.Test.YtpbfipeinblfgaaGreatDoorFlowQ9
namespace Go.Proofs.YtpbfipeinblfgaaGreatDoor
open Go.ChangeShapes Go.WideShapes Go.ChangeAt Go.RowKit

/-- The place of the first leg of the account, or -1. -/
def idxL (l : List (Nat × Int)) (a : Nat) : Int := match l.findIdx? (fun g => g.1 == a) with
  | some i => (i : Int)
  | none => -1
/-- The amount of the first leg of the account, or nothing. -/
def ofL (l : List (Nat × Int)) (a : Nat) : Int := match l.find? (fun g => g.1 == a) with
  | some g => g.2
  | none => 0
theorem idx_yes {l : List (Nat × Int)} {a k : Nat} (hk : k < l.length) (h : l[k].1 = a) (hn : ∀ i, i < k → (l.getD i (0, 0)).1 ≠ a) : idxL l a = (k : Int) ∧ ofL l a = l[k].2 := by
  have e : l.findIdx? (fun g => g.1 == a) = some k := by
    rw [List.findIdx?_eq_some_iff_getElem]
    refine ⟨hk, by simpa using h, fun j hj => ?_⟩
    have := hn j hj
    rw [List.getD_eq_getElem?_getD, List.getElem?_eq_getElem (by omega)] at this
    simpa using this
  have e2 : l.find? (fun g => g.1 == a) = some l[k] := by
    rw [List.find?_eq_some_iff_getElem]
    refine ⟨by simpa using h, k, hk, rfl, fun j hj => ?_⟩
    have := hn j hj
    rw [List.getD_eq_getElem?_getD, List.getElem?_eq_getElem (by omega)] at this
    simpa using this
  exact ⟨by unfold idxL; rw [e], by unfold ofL; rw [e2]⟩
theorem idx_none {l : List (Nat × Int)} {a : Nat} (hn : ∀ i, i < l.length → (l.getD i (0, 0)).1 ≠ a) : idxL l a = -1 ∧ ofL l a = 0 := by
  have hh : ∀ x ∈ l, ¬ (x.1 == a) = true := fun x hx => by
    obtain ⟨i, hi, rfl⟩ := List.mem_iff_getElem.1 hx
    have := hn i hi
    rw [List.getD_eq_getElem?_getD, List.getElem?_eq_getElem hi] at this
    simpa using this
  have e : l.findIdx? (fun g => g.1 == a) = none := by
    rw [List.findIdx?_eq_none_iff]
    intro x hx
    simpa using hh x hx
  have e2 : l.find? (fun g => g.1 == a) = none := by
    rw [List.find?_eq_none]
    exact hh
  exact ⟨by unfold idxL; rw [e], by unfold ofL; rw [e2]⟩
theorem idx_cases (l : List (Nat × Int)) (a : Nat) : (idxL l a = -1 ∧ ofL l a = 0) ∨ ∃ k, ∃ hk : k < l.length, idxL l a = (k : Int) ∧ ofL l a = l[k].2 := by
  cases e : l.findIdx? (fun g => g.1 == a) with
  | none =>
    left
    rw [List.findIdx?_eq_none_iff] at e
    exact idx_none fun i hi => by
      rw [List.getD_eq_getElem?_getD, List.getElem?_eq_getElem hi]
      have := e l[i] (List.getElem_mem hi)
      simpa using this
  | some k =>
    right
    rw [List.findIdx?_eq_some_iff_getElem] at e
    obtain ⟨hk, h1, h2⟩ := e
    refine ⟨k, hk, idx_yes hk (by simpa using h1) fun i hi => ?_⟩
    have := h2 i hi
    rw [List.getD_eq_getElem?_getD, List.getElem?_eq_getElem (by omega)]
    simpa using this
/-- What holds at a round's head of IndexFunc. -/
def IRel (l : List (Nat × Int)) (a : Nat) (w : World) (i : Value) (w' : World) : Prop := ∃ k : Nat, k ≤ l.length ∧ i = .int .i64 k ∧ (∀ j, j < k → (l.getD j (0, 0)).1 ≠ a) ∧ Below w.heap.size w w'
end Go.Proofs.YtpbfipeinblfgaaGreatDoor
namespace Go.Proofs.YtpbfipeinblfgaaGreatDoor
open Go.ChangeShapes Go.WideShapes Go.ChangeAt Go.RowKit

theorem flat_set : ∀ (l : List (Nat × Int)) (k : Nat) (hk : k < l.length) (z : Int), (l.flatMap legT.cells).set (k * 2 + 1) (.int .i64 z) = (l.set k (l[k].1, z)).flatMap legT.cells
  | g :: r, 0, _, z => rfl
  | g :: r, k + 1, hk, z => by
    have ih := flat_set r k (by simpa using hk) z
    have e : ∀ x : Nat × Int, legT.cells x = [.int .u8 (x.1 : Int), .int .i64 x.2] := fun x => rfl
    rw [List.flatMap_cons, List.set_cons_succ, List.flatMap_cons, e, List.getElem_cons_succ, ← ih]
    rw [show (k + 1) * 2 + 1 = (k * 2 + 1) + 1 + 1 by omega]
    rfl
/-- The amount of leg k of an own row, written over. -/
theorem own_setAmt {e : TypeId} {w : World} {base n c g : Nat} {l : List (Nat × Int)} (h : OwnS legT e w base (.slice (some ⟨g, 0, none⟩) n c) n l) {k : Nat} (hk : k < l.length) (z : Int) :
    OwnS legT e (w.setCell ⟨g, k * 2 + 1, none⟩ (.int .i64 z)) base (.slice (some ⟨g, 0, none⟩) n c) n (l.set k (l[k].1, z)) := by
  have hl := h.length (by decide)
  unfold OwnS at h ⊢
  refine ⟨by rw [flatS_len, List.length_set, hl], ?_⟩
  rcases h.2 with ⟨h1, _⟩ | ⟨g', cap', cur, h1, h2, hg, h4, h5, h6, ht⟩
  · cases h1
  · injection h1 with e1 e2 e3
    injection e1 with e1
    injection e1 with e1
    subst e1
    have hcs : k * 2 + 1 < cur.size := by
      rw [h6]
      have : l.length ≤ cap' := by rw [hl]; exact h4
      show k * 2 + 1 < cap' * 2
      omega
    refine .inr ⟨g, cap', cur.setIfInBounds (k * 2 + 1) (.int .i64 z), by rw [e3], h2, ?_, h4, h5, by simp [h6], ?_⟩
    · exact Blk.set_ (show Blk w g e cur from hg) (k * 2 + 1) (.int .i64 z)
    · rw [Array.toList_setIfInBounds, List.take_set, ht]
      unfold flatS
      exact flat_set l k hk z
end Go.Proofs.YtpbfipeinblfgaaGreatDoor
namespace Go.Proofs.YtpbfipeinblfgaaGreatDoor
open Go.ChangeShapes Go.WideShapes Go.ChangeAt Go.RowKit

theorem leg_loadL {w : World} {b o : Nat} {x z : Value} (h0 : w.cell? ⟨b, o, none⟩ = some x) (h1 : w.cell? ⟨b, o + 1, none⟩ = some z) : (Instr.loadAt 99 (.pointer (some ⟨b, o, none⟩))).run Tryz.prog w = .ok (.agg #[x, z]) w := by
  go_simp
theorem leg_neq (v1 v2 : Nat) (z1 z2 : Int) (w : World) (a : Act) (i j : Nat) (e0 : a.eval (.tmp i) = .agg #[.int .u8 (v1 : Int), .int .i64 z1]) (e1 : a.eval (.tmp j) = .agg #[.int .u8 (v2 : Int), .int .i64 z2]) (dst : Option Tmp) (ty : TypeId) (pos : String) (af : Array Edge) (g : Option (Nat × Bool)) :
    (execOp a.eval ⟨dst, .binOp .neq 99 (.tmp i) (.tmp j) 99, ty, pos, af, g⟩).run Tryz.prog w = .ok (.value (.bool (!decide (((v1, z1) : Nat × Int) = (v2, z2))))) w := by
  have t0 := ev_of e0
  have t1 := ev_of e1
  simp [execOp, go_sem, t0, t1]
  by_cases h1 : v1 = v2 <;> by_cases h2 : z1 = z2 <;> simp [h1, h2, Int.ofNat_inj]
/-- What holds at a round's head. -/
def EQRel (l1 l2 : List (Nat × Int)) (w : World) (i : Value) (w' : World) : Prop := ∃ k : Nat, k ≤ l1.length ∧ i = .int .i64 k ∧ l1.take k = l2.take k ∧ Below w.heap.size w w'
set_option maxRecDepth 100000 in
set_option maxHeartbeats 4000000 in
theorem Equal_any (A1 A2 : Option Addr) (n1 n2 c1 c2 B1 B2 : Nat) (l1 l2 : List (Nat × Int)) (w : World) (hR1 : Rs legT w B1 A1 l1) (hn1 : l1.length = n1) (hm1 : n1 ≤ 100000) (hB1 : B1 ≤ w.heap.size) (hR2 : Rs legT w B2 A2 l2) (hn2 : l2.length = n2) (hm2 : n2 ≤ 100000) (hB2 : B2 ≤ w.heap.size) :
    Calls Tryz.prog 27 #[.slice A1 n1 c1, .slice A2 n2 c2] w (Ret (.bool (decide (l1 = l2))) w) := by
  by_cases hne : n1 = n2
  · subst hne


    have HR1 := Lib.hid hR1
    have HR2 := Lib.hid hR2
    have HN1 := Lib.hid hn1
    have HN2 := Lib.hid hn2
    clear hR1 hR2 hn1 hn2 hm2
    go_enter Tryz.func27, Tryz.ntmps27
    go_wp2_with fail
    go_loopw [13] (EQRel l1 l2 w) (fun i _ => l1.length - (intOf i).toNat)
    case atStart => exact ⟨0, Nat.zero_le _, rfl, rfl, Below.refl _ _⟩
    case round =>
      obtain ⟨k, hk, rfl, htk, hbw⟩ := hrel
      have HTK := Lib.hid htk
      have HBW := Lib.hid hbw
      clear htk
      by_cases hlt : k < n1
      · have hk1 : k < l1.length := by rw [HN1.out]; exact hlt
        have hk2 : k < l2.length := by rw [HN2.out]; exact hlt
        obtain ⟨b1, o1, rfl, hb1, y0, y1⟩ := (HR1.out.below (hbw.mono hB1)).leg hk1
        obtain ⟨b2, o2, rfl, hb2, u0, u1⟩ := (HR2.out.below (hbw.mono hB2)).leg hk2
        have HS1 := Lib.hid (List.take_succ_eq_append_getElem hk1)
        have HS2 := Lib.hid (List.take_succ_eq_append_getElem hk2)
        have HG1 := Lib.hid (List.getElem?_eq_getElem hk1)
        have HG2 := Lib.hid (List.getElem?_eq_getElem hk2)
        obtain ⟨p1, hp1⟩ : ∃ p, l1[k] = p := ⟨_, rfl⟩
        obtain ⟨p2, hp2⟩ : ∃ p, l2[k] = p := ⟨_, rfl⟩
        rw [hp1] at y0 y1 HS1 HG1
        rw [hp2] at u0 u1 HS2 HG2
        obtain ⟨v1, z1⟩ := p1
        obtain ⟨v2, z2⟩ := p2
        simp only at y0 y1 u0 u1
        clear hp1 hp2
        have Y0 := Lib.hid y0
        have Y1 := Lib.hid y1
        have U0 := Lib.hid u0
        have U1 := Lib.hid u1
        have hb1w : b1 < wr.heap.size := Nat.lt_of_lt_of_le hb1 (Nat.le_trans hB1 hbw.size)
        have hb2w : b2 < wr.heap.size := Nat.lt_of_lt_of_le hb2 (Nat.le_trans hB2 hbw.size)
        clear y0 y1 u0 u1 hbw
        have hNE := leg_neq v1 v2 z1 z2
        cases hd : decide (((v1, z1) : Nat × Int) = (v2, z2))
        · have hnl : l1 ≠ l2 := fun e => by
            have h9 := HG1.out
            rw [e, HG2.out] at h9
            injection h9 with h9
            exact (of_decide_eq_false hd) h9.symm
          have HNL := Lib.hid hnl
          rw [hd] at hNE
          have HNE := Lib.hid hNE
          clear hNE hd hnl hk1 hk2
          go_upto_region 6 with (fail)
          refine wp_region_flow [some 16, some 17, some 18, some 19, some 20, some 21, some 22, some 23, some 24] (fun i => ([.is (.slice (some ⟨b1, o1, none⟩) n1 c1), .is (.int .i64 (k : Int)), .is (.pointer (some ⟨b1, o1 + k * 2, none⟩)), .is (.agg #[.int .u8 (v1 : Int), .int .i64 z1]), .is (.slice (some ⟨b2, o2, none⟩) n1 c2), .is (.int .i64 (k : Int)), .is (.pointer (some ⟨b2, o2 + k * 2, none⟩)), .is (.agg #[.int .u8 (v2 : Int), .int .i64 z2]), .is (.bool true)] : List Flw).getD i .any) (by kernel_rfl) (by kernel_rfl) rfl ?_ ?_
          · have LA : ∀ W', Below wr.heap.size wr W' → (Instr.loadAt 99 (.pointer (some ⟨b1, o1 + k * 2, none⟩))).run Tryz.prog W' = .ok (.agg #[.int .u8 (v1 : Int), .int .i64 z1]) W' := fun W' hb => leg_loadL ((hb.cell (p := ⟨b1, o1 + k * 2, none⟩) hb1w).trans Y0.out) ((hb.cell (p := ⟨b1, o1 + k * 2 + 1, none⟩) hb1w).trans Y1.out)
            have LB : ∀ W', Below wr.heap.size wr W' → (Instr.loadAt 99 (.pointer (some ⟨b2, o2 + k * 2, none⟩))).run Tryz.prog W' = .ok (.agg #[.int .u8 (v2 : Int), .int .i64 z2]) W' := fun W' hb => leg_loadL ((hb.cell (p := ⟨b2, o2 + k * 2, none⟩) hb2w).trans U0.out) ((hb.cell (p := ⟨b2, o2 + k * 2 + 1, none⟩) hb2w).trans U1.out)
            have hNE := HNE.out
            clear Y0 Y1 U0 U1 HNE HS1 HS2 HG1 HG2
            refine ⟨step_free rfl (fun aF wF hs hb => ?_), ?_⟩
            · obtain ⟨x0, -⟩ := hs
              have e0 : aF.eval (.tmp 0) = .slice (some ⟨b1, o1, none⟩) n1 c1 := x0
              exact opC_move e0 ⟨rfl, below_same wF⟩
            refine ⟨step_free rfl (fun aF wF hs hb => ?_), ?_⟩
            · obtain ⟨x0, -⟩ := hs
              have e0 : aF.eval (.tmp 5) = .int .i64 (k : Int) := x0
              exact opC_move e0 ⟨rfl, below_same wF⟩
            refine ⟨step_free rfl (fun aF wF hs hb => ?_), ?_⟩
            · obtain ⟨x0, x1, -⟩ := hs
              have e0 : aF.eval (.tmp 16) = .slice (some ⟨b1, o1, none⟩) n1 c1 := x0
              have e1 : aF.eval (.tmp 17) = .int .i64 (k : Int) := x1
              refine opC_value (v := .pointer (some ⟨b1, o1 + k * 2, none⟩)) ?_ ⟨rfl, below_same wF⟩
              have t0 := ev_of e0
              have t1 := ev_of e1
              go_simp
            refine ⟨step_free rfl (fun aF wF hs hb => ?_), ?_⟩
            · obtain ⟨x0, -⟩ := hs
              have e0 : aF.eval (.tmp 18) = .pointer (some ⟨b1, o1 + k * 2, none⟩) := x0
              exact opC_load e0 (LA wF hb) ⟨rfl, below_same wF⟩
            refine ⟨step_free rfl (fun aF wF hs hb => ?_), ?_⟩
            · obtain ⟨x0, -⟩ := hs
              have e0 : aF.eval (.tmp 1) = .slice (some ⟨b2, o2, none⟩) n1 c2 := x0
              exact opC_move e0 ⟨rfl, below_same wF⟩
            refine ⟨step_free rfl (fun aF wF hs hb => ?_), ?_⟩
            · obtain ⟨x0, -⟩ := hs
              have e0 : aF.eval (.tmp 5) = .int .i64 (k : Int) := x0
              exact opC_move e0 ⟨rfl, below_same wF⟩
            refine ⟨step_free rfl (fun aF wF hs hb => ?_), ?_⟩
            · obtain ⟨x0, x1, -⟩ := hs
              have e0 : aF.eval (.tmp 20) = .slice (some ⟨b2, o2, none⟩) n1 c2 := x0
              have e1 : aF.eval (.tmp 21) = .int .i64 (k : Int) := x1
              refine opC_value (v := .pointer (some ⟨b2, o2 + k * 2, none⟩)) ?_ ⟨rfl, below_same wF⟩
              have t0 := ev_of e0
              have t1 := ev_of e1
              go_simp
            refine ⟨step_free rfl (fun aF wF hs hb => ?_), ?_⟩
            · obtain ⟨x0, -⟩ := hs
              have e0 : aF.eval (.tmp 22) = .pointer (some ⟨b2, o2 + k * 2, none⟩) := x0
              exact opC_load e0 (LB wF hb) ⟨rfl, below_same wF⟩
            refine ⟨step_free rfl (fun aF wF hs hb => ?_), ?_⟩
            · obtain ⟨x0, x1, -⟩ := hs
              have e0 : aF.eval (.tmp 19) = .agg #[.int .u8 (v1 : Int), .int .i64 z1] := x0
              have e1 : aF.eval (.tmp 23) = .agg #[.int .u8 (v2 : Int), .int .i64 z2] := x1
              refine opC_value (v := .bool true) ?_ ⟨rfl, below_same wF⟩
              exact hNE wF aF _ _ e0 e1 _ _ _ _ _
            exact trivial
          · intro f w5 hf hb5
            have h24 : f 8 = .bool true := hf 8 24 rfl
            have HB5 := Lib.hid (HBW.out.trans (hb5.mono HBW.out.size))
            simp only [putF, Act.put, List.setIfInBounds_toArray, List.set_cons_zero, List.set_cons_succ]
            rw [h24]
            clear h24 hf hb5
            go_wp2_with fail
            go_ret
            exact ⟨by rw [decide_eq_false HNL.out]; rfl, HB5.out⟩
        · have hpe : ((v1, z1) : Nat × Int) = (v2, z2) := of_decide_eq_true hd
          rw [hd] at hNE
          have HNE := Lib.hid hNE
          have HPE := Lib.hid hpe
          have HLT9 := Lib.hid hk1
          clear hNE hd hpe hk1 hk2
          go_upto_region 6 with (fail)
          refine wp_region_flow [some 16, some 17, some 18, some 19, some 20, some 21, some 22, some 23, some 24] (fun i => ([.is (.slice (some ⟨b1, o1, none⟩) n1 c1), .is (.int .i64 (k : Int)), .is (.pointer (some ⟨b1, o1 + k * 2, none⟩)), .is (.agg #[.int .u8 (v1 : Int), .int .i64 z1]), .is (.slice (some ⟨b2, o2, none⟩) n1 c2), .is (.int .i64 (k : Int)), .is (.pointer (some ⟨b2, o2 + k * 2, none⟩)), .is (.agg #[.int .u8 (v2 : Int), .int .i64 z2]), .is (.bool false)] : List Flw).getD i .any) (by kernel_rfl) (by kernel_rfl) rfl ?_ ?_
          · have LA : ∀ W', Below wr.heap.size wr W' → (Instr.loadAt 99 (.pointer (some ⟨b1, o1 + k * 2, none⟩))).run Tryz.prog W' = .ok (.agg #[.int .u8 (v1 : Int), .int .i64 z1]) W' := fun W' hb => leg_loadL ((hb.cell (p := ⟨b1, o1 + k * 2, none⟩) hb1w).trans Y0.out) ((hb.cell (p := ⟨b1, o1 + k * 2 + 1, none⟩) hb1w).trans Y1.out)
            have LB : ∀ W', Below wr.heap.size wr W' → (Instr.loadAt 99 (.pointer (some ⟨b2, o2 + k * 2, none⟩))).run Tryz.prog W' = .ok (.agg #[.int .u8 (v2 : Int), .int .i64 z2]) W' := fun W' hb => leg_loadL ((hb.cell (p := ⟨b2, o2 + k * 2, none⟩) hb2w).trans U0.out) ((hb.cell (p := ⟨b2, o2 + k * 2 + 1, none⟩) hb2w).trans U1.out)
            have hNE := HNE.out
            clear Y0 Y1 U0 U1 HNE HS1 HS2 HG1 HG2
            refine ⟨step_free rfl (fun aF wF hs hb => ?_), ?_⟩
            · obtain ⟨x0, -⟩ := hs
              have e0 : aF.eval (.tmp 0) = .slice (some ⟨b1, o1, none⟩) n1 c1 := x0
              exact opC_move e0 ⟨rfl, below_same wF⟩
            refine ⟨step_free rfl (fun aF wF hs hb => ?_), ?_⟩
            · obtain ⟨x0, -⟩ := hs
              have e0 : aF.eval (.tmp 5) = .int .i64 (k : Int) := x0
              exact opC_move e0 ⟨rfl, below_same wF⟩
            refine ⟨step_free rfl (fun aF wF hs hb => ?_), ?_⟩
            · obtain ⟨x0, x1, -⟩ := hs
              have e0 : aF.eval (.tmp 16) = .slice (some ⟨b1, o1, none⟩) n1 c1 := x0
              have e1 : aF.eval (.tmp 17) = .int .i64 (k : Int) := x1
              refine opC_value (v := .pointer (some ⟨b1, o1 + k * 2, none⟩)) ?_ ⟨rfl, below_same wF⟩
              have t0 := ev_of e0
              have t1 := ev_of e1
              go_simp
            refine ⟨step_free rfl (fun aF wF hs hb => ?_), ?_⟩
            · obtain ⟨x0, -⟩ := hs
              have e0 : aF.eval (.tmp 18) = .pointer (some ⟨b1, o1 + k * 2, none⟩) := x0
              exact opC_load e0 (LA wF hb) ⟨rfl, below_same wF⟩
            refine ⟨step_free rfl (fun aF wF hs hb => ?_), ?_⟩
            · obtain ⟨x0, -⟩ := hs
              have e0 : aF.eval (.tmp 1) = .slice (some ⟨b2, o2, none⟩) n1 c2 := x0
              exact opC_move e0 ⟨rfl, below_same wF⟩
            refine ⟨step_free rfl (fun aF wF hs hb => ?_), ?_⟩
            · obtain ⟨x0, -⟩ := hs
              have e0 : aF.eval (.tmp 5) = .int .i64 (k : Int) := x0
              exact opC_move e0 ⟨rfl, below_same wF⟩
            refine ⟨step_free rfl (fun aF wF hs hb => ?_), ?_⟩
            · obtain ⟨x0, x1, -⟩ := hs
              have e0 : aF.eval (.tmp 20) = .slice (some ⟨b2, o2, none⟩) n1 c2 := x0
              have e1 : aF.eval (.tmp 21) = .int .i64 (k : Int) := x1
              refine opC_value (v := .pointer (some ⟨b2, o2 + k * 2, none⟩)) ?_ ⟨rfl, below_same wF⟩
              have t0 := ev_of e0
              have t1 := ev_of e1
              go_simp
            refine ⟨step_free rfl (fun aF wF hs hb => ?_), ?_⟩
            · obtain ⟨x0, -⟩ := hs
              have e0 : aF.eval (.tmp 22) = .pointer (some ⟨b2, o2 + k * 2, none⟩) := x0
              exact opC_load e0 (LB wF hb) ⟨rfl, below_same wF⟩
            refine ⟨step_free rfl (fun aF wF hs hb => ?_), ?_⟩
            · obtain ⟨x0, x1, -⟩ := hs
              have e0 : aF.eval (.tmp 19) = .agg #[.int .u8 (v1 : Int), .int .i64 z1] := x0
              have e1 : aF.eval (.tmp 23) = .agg #[.int .u8 (v2 : Int), .int .i64 z2] := x1
              refine opC_value (v := .bool false) ?_ ⟨rfl, below_same wF⟩
              exact hNE wF aF _ _ e0 e1 _ _ _ _ _
            exact trivial
          · intro f w5 hf hb5
            have h24 : f 8 = .bool false := hf 8 24 rfl
            have HB5 := Lib.hid (HBW.out.trans (hb5.mono HBW.out.size))
            simp only [putF, Act.put, List.setIfInBounds_toArray, List.set_cons_zero, List.set_cons_succ]
            rw [h24]
            clear h24 hf hb5
            go_wp2_with fail
            go_roundw
            case rel => exact ⟨k + 1, HLT9.out, by go_num, by rw [HS1.out, HS2.out, HTK.out, HPE.out], HB5.out⟩
            case measure =>
              have := HLT9.out
              simp [intOf]
              omega
      · have hkn : k = l1.length := by have := HN1.out; omega
        subst hkn
        have h9 := HTK.out
        rw [List.take_length, List.take_of_length_le (by have := HN1.out; have := HN2.out; omega)] at h9
        have H9 := Lib.hid h9
        clear h9 hbw
        go_wp2_with fail
        go_ret
        exact ⟨by rw [decide_eq_true H9.out]; rfl, HBW.out⟩
  · have hnl : l1 ≠ l2 := fun e => hne (by rw [← hn1, ← hn2, e])
    have hj : ((n1 : Int) != (n2 : Int)) = true := by rw [bne_iff_ne]; omega
    rw [decide_eq_false hnl]
    clear hR1 hR2 hn1 hn2 hne hnl
    go_enter Tryz.func27, Tryz.ntmps27
    go_wp2_with fail
    go_ret
    exact ⟨by first | rfl | simp, Below.refl _ _⟩
end Go.Proofs.YtpbfipeinblfgaaGreatDoor
namespace Go.Proofs.YtpbfipeinblfgaaGreatDoor
open Go.ChangeShapes Go.WideShapes Go.ChangeAt Go.RowKit

set_option maxRecDepth 100000 in
set_option maxHeartbeats 4000000 in
theorem SameK_any (y : Ky) (A1 A2 : Option Addr) (n1 n2 c1 c2 B1 B2 : Nat) (l1 l2 : List (Nat × Int)) (w : World) (hR1 : Rs legT w B1 A1 l1) (hn1 : l1.length = n1) (hm1 : n1 ≤ 100000) (hB1 : B1 ≤ w.heap.size) (hR2 : Rs legT w B2 A2 l2) (hn2 : l2.length = n2) (hm2 : n2 ≤ 100000) (hB2 : B2 ≤ w.heap.size) :
    Calls Tryz.prog 12 #[entV y (.slice A1 n1 c1), entV y (.slice A2 n2 c2)] w (Ret (.bool (decide (l1 = l2))) w) := by
  have HQ1 := Lib.hid ((Blk.new w 61 (entC y (.slice A1 n1 c1))).alloc (.cells (entC y (.slice A2 n2 c2)) 61))
  have HQ2 : Hid (Blk ((w.alloc (.cells (entC y (.slice A1 n1 c1)) 61)).alloc (.cells (entC y (.slice A2 n2 c2)) 61)) (w.heap.size + 1) 61 (entC y (.slice A2 n2 c2))) := Lib.hid (by
    have h := Blk.new (w.alloc (.cells (entC y (.slice A1 n1 c1)) 61)) 61 (entC y (.slice A2 n2 c2))
    rw [show (w.alloc (.cells (entC y (.slice A1 n1 c1)) 61)).heap.size = w.heap.size + 1 by simp] at h
    exact h)
  have HB2 := Lib.hid ((b_alloc w (.cells (entC y (.slice A1 n1 c1)) 61)).alloc (by simp) (.cells (entC y (.slice A2 n2 c2)) 61))
  have hE := Equal_any A1 A2 n1 n2 c1 c2 B1 B2 l1 l2 _ (hR1.below (HB2.out.mono hB1)) hn1 hm1 (Nat.le_trans hB1 HB2.out.size) (hR2.below (HB2.out.mono hB2)) hn2 hm2 (Nat.le_trans hB2 HB2.out.size)
  obtain ⟨q, hq⟩ : ∃ q, decide (l1 = l2) = q := ⟨_, rfl⟩
  rw [hq] at hE ⊢
  clear hR1 hR2 hn1 hn2 hq
  unfold entC at HQ1 HQ2 HB2 hE
  unfold entV entC
  obtain ⟨W, hW⟩ : ∃ W, ((w.alloc (.cells #[.int .u32 (y.a : Int), .int .i32 y.d, .int .u8 (y.k : Int), .int .u32 (y.s : Int), .slice A1 n1 c1] 61)).alloc (.cells #[.int .u32 (y.a : Int), .int .i32 y.d, .int .u8 (y.k : Int), .int .u32 (y.s : Int), .slice A2 n2 c2] 61)) = W := ⟨_, rfl⟩
  rw [hW] at HQ1 HQ2 HB2 hE
  have HW := Lib.hid hW
  have HE := Lib.hid hE
  clear hW hE
  go_enter Tryz.func12, Tryz.ntmps12
  go_upto_region 1 with (fail)
  rw [HW.out]
  have x0 := HQ1.out.cell 0
  have x1 := HQ1.out.cell 1
  have x2 := HQ1.out.cell 2
  have x3 := HQ1.out.cell 3
  have x4 := HQ1.out.cell 4
  have u0 := HQ2.out.cell 0
  have u1 := HQ2.out.cell 1
  have u2 := HQ2.out.cell 2
  have u3 := HQ2.out.cell 3
  have u4 := HQ2.out.cell 4
  simp at x0 x1 x2 x3 x4 u0 u1 u2 u3 u4
  go_wp2_with fail
  refine HE.out.mono ?_
  rintro e w5 ⟨rfl, hb5⟩
  have HB5 := Lib.hid (HB2.out.trans (hb5.mono HB2.out.size))
  clear hb5
  go_wp2_with fail
  go_ret
  exact ⟨by first | rfl | simp, HB5.out⟩
end Go.Proofs.YtpbfipeinblfgaaGreatDoor
namespace Go.Proofs.YtpbfipeinblfgaaGreatDoor
open Go.ChangeShapes Go.WideShapes Go.ChangeAt Go.RowKit

set_option maxRecDepth 100000 in
set_option maxHeartbeats 4000000 in
/-- Keys that are not the same. -/
theorem SameN_any (a1 a2 k1 k2 s1 s2 : Nat) (d1 d2 : Int) (v1 v2 : Value) (w : World) (hne : ¬ (a1 = a2 ∧ d1 = d2 ∧ k1 = k2 ∧ s1 = s2)) :
    Calls Tryz.prog 12 #[.agg #[.int .u32 (a1 : Int), .int .i32 d1, .int .u8 (k1 : Int), .int .u32 (s1 : Int), v1], .agg #[.int .u32 (a2 : Int), .int .i32 d2, .int .u8 (k2 : Int), .int .u32 (s2 : Int), v2]] w (Ret (.bool false) w) := by
  have HQ1 := Lib.hid ((Blk.new w 61 #[.int .u32 (a1 : Int), .int .i32 d1, .int .u8 (k1 : Int), .int .u32 (s1 : Int), v1]).alloc (.cells #[.int .u32 (a2 : Int), .int .i32 d2, .int .u8 (k2 : Int), .int .u32 (s2 : Int), v2] 61))
  have HQ2 : Hid (Blk ((w.alloc (.cells #[.int .u32 (a1 : Int), .int .i32 d1, .int .u8 (k1 : Int), .int .u32 (s1 : Int), v1] 61)).alloc (.cells #[.int .u32 (a2 : Int), .int .i32 d2, .int .u8 (k2 : Int), .int .u32 (s2 : Int), v2] 61)) (w.heap.size + 1) 61 #[.int .u32 (a2 : Int), .int .i32 d2, .int .u8 (k2 : Int), .int .u32 (s2 : Int), v2]) := Lib.hid (by
    have h := Blk.new (w.alloc (.cells #[.int .u32 (a1 : Int), .int .i32 d1, .int .u8 (k1 : Int), .int .u32 (s1 : Int), v1] 61)) 61 #[.int .u32 (a2 : Int), .int .i32 d2, .int .u8 (k2 : Int), .int .u32 (s2 : Int), v2]
    rw [show (w.alloc (.cells #[.int .u32 (a1 : Int), .int .i32 d1, .int .u8 (k1 : Int), .int .u32 (s1 : Int), v1] 61)).heap.size = w.heap.size + 1 by simp] at h
    exact h)
  have HB2 := Lib.hid ((b_alloc w (.cells #[.int .u32 (a1 : Int), .int .i32 d1, .int .u8 (k1 : Int), .int .u32 (s1 : Int), v1] 61)).alloc (by simp) (.cells #[.int .u32 (a2 : Int), .int .i32 d2, .int .u8 (k2 : Int), .int .u32 (s2 : Int), v2] 61))
  obtain ⟨W, hW⟩ : ∃ W, ((w.alloc (.cells #[.int .u32 (a1 : Int), .int .i32 d1, .int .u8 (k1 : Int), .int .u32 (s1 : Int), v1] 61)).alloc (.cells #[.int .u32 (a2 : Int), .int .i32 d2, .int .u8 (k2 : Int), .int .u32 (s2 : Int), v2] 61)) = W := ⟨_, rfl⟩
  rw [hW] at HQ1 HQ2 HB2
  have HW := Lib.hid hW
  have HNE := Lib.hid hne
  clear hW hne
  go_enter Tryz.func12, Tryz.ntmps12
  go_upto_region 1 with (fail)
  rw [HW.out]
  have x0 := HQ1.out.cell 0
  have x1 := HQ1.out.cell 1
  have x2 := HQ1.out.cell 2
  have x3 := HQ1.out.cell 3
  have x4 := HQ1.out.cell 4
  have u0 := HQ2.out.cell 0
  have u1 := HQ2.out.cell 1
  have u2 := HQ2.out.cell 2
  have u3 := HQ2.out.cell 3
  have u4 := HQ2.out.cell 4
  simp at x0 x1 x2 x3 x4 u0 u1 u2 u3 u4
  clear HW HQ1 HQ2
  by_cases h1 : a1 = a2
  · subst h1
    by_cases h2 : d1 = d2
    · subst h2
      by_cases h3 : k1 = k2
      · subst h3
        have h4 : ¬ (s1 : Int) = (s2 : Int) := fun e => HNE.out ⟨rfl, rfl, rfl, Int.ofNat.inj e⟩
        go_wp2_with fail
        go_ret
        exact ⟨by first | rfl | simp, HB2.out⟩
      · have h4 : ¬ (k1 : Int) = (k2 : Int) := fun e => h3 (Int.ofNat.inj e)
        go_wp2_with fail
        go_ret
        exact ⟨by first | rfl | simp, HB2.out⟩
    · go_wp2_with fail
      go_ret
      exact ⟨by first | rfl | simp, HB2.out⟩
  · have h4 : ¬ (a1 : Int) = (a2 : Int) := fun e => h1 (Int.ofNat.inj e)
    go_wp2_with fail
    go_ret
    exact ⟨by first | rfl | simp, HB2.out⟩
/-- chart.Same, whole. -/
theorem Same13_any (y1 y2 : Ky) (A1 A2 : Option Addr) (n1 n2 c1 c2 B1 B2 : Nat) (l1 l2 : List (Nat × Int)) (w : World) (hR1 : Rs legT w B1 A1 l1) (hn1 : l1.length = n1) (hm1 : n1 ≤ 100000) (hB1 : B1 ≤ w.heap.size) (hR2 : Rs legT w B2 A2 l2) (hn2 : l2.length = n2) (hm2 : n2 ≤ 100000) (hB2 : B2 ≤ w.heap.size) :
    Calls Tryz.prog 12 #[entV y1 (.slice A1 n1 c1), entV y2 (.slice A2 n2 c2)] w (Ret (.bool (decide (y1 = y2 ∧ l1 = l2))) w) := by
  by_cases h : y1 = y2
  · subst h
    rw [show decide (y1 = y1 ∧ l1 = l2) = decide (l1 = l2) by simp]
    exact SameK_any y1 A1 A2 n1 n2 c1 c2 B1 B2 l1 l2 w hR1 hn1 hm1 hB1 hR2 hn2 hm2 hB2
  · rw [show decide (y1 = y2 ∧ l1 = l2) = false by simp [h]]
    obtain ⟨a1, d1, k1, s1⟩ := y1
    obtain ⟨a2, d2, k2, s2⟩ := y2
    exact SameN_any a1 a2 k1 k2 s1 s2 d1 d2 _ _ w (fun ⟨e1, e2, e3, e4⟩ => h (by subst e1 e2 e3 e4; rfl))
end Go.Proofs.YtpbfipeinblfgaaGreatDoor
