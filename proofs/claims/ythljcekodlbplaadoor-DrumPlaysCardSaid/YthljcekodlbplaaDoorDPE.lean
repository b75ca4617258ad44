/-
  The document's Play. Conditions: the document's drum is there.
-/
import Derived.Test.YthljcekodlbplaaDoorDPB
namespace Go.Proofs.YthljcekodlbplaaDoor
open Go.ChangeShapes Go.WideShapes Go.ChangeAt Go.RowKit

set_option maxRecDepth 100000 in
set_option maxHeartbeats 4000000 in
theorem Play_arm_neg {w : World} {x : Nat} {AF AP AK : Option Addr} {nF cF nP cP nK cK a k : Nat} {p N left : Int} {v1 : Value} (hp : ¬ 0 ≤ p) (ha : a % 7 = 6) (h : Blk w x 53 #[.slice AF nF cF, v1, .int .i64 left]) :
    Calls Tryd.prog 9 #[.pointer (some ⟨x, 0, none⟩), .agg #[.int .u8 (a : Int), .int .i64 p, .slice AP nP cP, .slice AK nK cK, .int .i64 N, .int .u32 (k : Int)]] w fun e w' => e = .returned (.tuple #[.pointer (some ⟨x, 0, none⟩), .int .i64 0]) ∧ ∃ w1, Below w.heap.size w w1 ∧ w' = w1.setCell ⟨x, 2, none⟩ (.int .i64 (max N (-1))) := by
  obtain ⟨b, hb⟩ : ∃ b, w.heap.size = b := ⟨_, rfl⟩
  obtain ⟨W, hW⟩ : ∃ W, w.alloc (.cells #[.int .u8 (a : Int), .int .i64 p, .slice AP nP cP, .slice AK nK cK, .int .i64 N, .int .u32 (k : Int)] 35) = W := ⟨_, rfl⟩
  have hbx := Blk.new w 35 #[.int .u8 (a : Int), .int .i64 p, .slice AP nP cP, .slice AK nK cK, .int .i64 N, .int .u32 (k : Int)]
  have hx := h.alloc (.cells #[.int .u8 (a : Int), .int .i64 p, .slice AP nP cP, .slice AK nK cK, .int .i64 N, .int .u32 (k : Int)] 35)
  have hbl := (Below.refl _ w).alloc (Nat.le_refl _) (.cells #[.int .u8 (a : Int), .int .i64 p, .slice AP nP cP, .slice AK nK cK, .int .i64 N, .int .u32 (k : Int)] 35)
  have hxl := h.lt
  rw [hW] at hbx hx hbl
  rw [hb] at hbx hxl
  have HW := Lib.hid (And.intro hW hb)
  have LP : ∀ W', Below W.heap.size W W' → (Instr.loadAt 3 (.pointer (some ⟨b, 1, none⟩))).run Tryd.prog W' = .ok (.int .i64 p) W' := fun W' hb' => by
    have c0 := (hbx.below hb' hbx.lt).cell 1
    simp at c0
    go_simp
  have LF : ∀ W', Below W.heap.size W W' → (Instr.loadAt 50 (.pointer (some ⟨x, 0, none⟩))).run Tryd.prog W' = .ok (.slice AF nF cF) W' := fun W' hb' => by
    have c0 := (hx.below hb' hx.lt).cell 0
    simp at c0
    go_simp
  have HX := Lib.hid hx
  have HBX := Lib.hid hbx
  have HBL := Lib.hid hbl
  have HXL := Lib.hid hxl
  have hr : ((a : Int)).tmod 7 = 6 := by
    rw [Int.tmod_eq_emod_of_nonneg (by omega)]
    omega
  clear ha
  clear h hbx hx hbl hxl hW hb
  go_enter Tryd.func9, Tryd.ntmps9
  go_wp2_with fail
  rw [HW.out.1, HW.out.2]
  refine wp_region_flow [some 13, some 14, some 15, some 16, some 17, some 18, some 19, some 20, some 21, some 22, some 23, some 24, some 25, some 6] (fun i => ([.is (.pointer (some ⟨b, 1, none⟩)), .is (.int .i64 p), .is (.bool false), .is (.bool false), .is undef, .is undef, .is undef, .is undef, .is undef, .is undef, .is undef, .is undef, .is (.bool false), .is (.bool false)] : List Flw).getD i .any) (by kernel_rfl) (by kernel_rfl) rfl ?_ ?_
  · refine ⟨step_free rfl (fun aF wF hs hb => ?_), ?_⟩
    · obtain ⟨x0, -⟩ := hs
      have e0 : aF.eval (.tmp 3) = .pointer (some ⟨b, 0, none⟩) := x0
      refine opC_value (v := .pointer (some ⟨b, 1, none⟩)) ?_ ⟨rfl, below_same wF⟩
      have t0 := ev_of e0
      simp [execOp, go_sem, t0]
    refine ⟨step_free rfl (fun aF wF hs hb => ?_), ?_⟩
    · obtain ⟨x0, -⟩ := hs
      have e0 : aF.eval (.tmp 13) = .pointer (some ⟨b, 1, none⟩) := x0
      exact opC_load e0 (LP wF hb) ⟨rfl, below_same wF⟩
    refine ⟨step_free rfl (fun aF wF hs hb => ?_), ?_⟩
    · obtain ⟨x0, -⟩ := hs
      have e0 : aF.eval (.tmp 14) = .int .i64 p := x0
      refine opC_value (v := .bool false) ?_ ⟨rfl, below_same wF⟩
      simp [execOp, go_sem, ev_of e0, hp]
    refine ⟨step_free rfl (fun aF wF hs hb => ?_), ?_⟩
    · obtain ⟨x0, -⟩ := hs
      have e0 : aF.eval (.tmp 15) = .bool false := x0
      exact opC_move e0 ⟨rfl, below_same wF⟩
    refine ⟨step_no 3 16 rfl rfl (fun _ _ h => h) (fun _ => rfl), ?_⟩
    refine ⟨step_no 3 16 rfl rfl (fun _ _ h => h) (fun _ => rfl), ?_⟩
    refine ⟨step_no 3 16 rfl rfl (fun _ _ h => h) (fun _ => rfl), ?_⟩
    refine ⟨step_no 3 16 rfl rfl (fun _ _ h => h) (fun _ => rfl), ?_⟩
    refine ⟨step_no 3 16 rfl rfl (fun _ _ h => h) (fun _ => rfl), ?_⟩
    refine ⟨step_no 3 16 rfl rfl (fun _ _ h => h) (fun _ => rfl), ?_⟩
    refine ⟨step_no 3 16 rfl rfl (fun _ _ h => h) (fun _ => rfl), ?_⟩
    refine ⟨step_no 3 16 rfl rfl (fun _ _ h => h) (fun _ => rfl), ?_⟩
    refine ⟨step_free rfl (fun aF wF hs hb => ?_), ?_⟩
    · obtain ⟨x0, x1, -⟩ := hs
      have e0 : aF.eval (.tmp 16) = .bool false := x0
      have e1 : aF.eval (.tmp 24) = undef := x1
      refine opC_value (v := .bool false) ?_ ⟨rfl, below_same wF⟩
      have t0 := ev_of e0
      have t1 := ev_of e1
      simp [execOp, go_sem, t0, t1]
    refine ⟨step_free rfl (fun aF wF hs hb => ?_), ?_⟩
    · obtain ⟨x0, -⟩ := hs
      have e0 : aF.eval (.tmp 25) = .bool false := x0
      exact opC_assign e0 ⟨rfl, below_same wF⟩
    exact trivial
  · intro f w6 hf hb6
    have h9 : f 13 = .bool false := hf 13 6 rfl
    simp only [putF, Act.put, List.setIfInBounds_toArray, List.set_cons_zero, List.set_cons_succ]
    rw [h9]
    have HX6 := Lib.hid (HX.out.below hb6 HX.out.lt)
    have HBX6 := Lib.hid (HBX.out.below hb6 HBX.out.lt)
    have HB6 := Lib.hid (HBL.out.trans (hb6.mono HBL.out.size))
    clear hf h9 hb6 LP LF HX HBX HBL HW
    have b0 := HBX6.out.cell 0
    have b1 := HBX6.out.cell 1
    have b4 := HBX6.out.cell 4
    simp at b0 b1 b4
    have x2 := HX6.out.cell 2
    simp at x2
    have f2 := HX6.out.frozen 2
    have l2 := HX6.out.lt
    go_wp2_with fail
    all_goals
      refine bodyPost_ret (v := .tuple #[.pointer (some ⟨x, 0, none⟩), .int .i64 0]) (by simp [results, Tryd.results9, go_sem, Result.andThen]) rfl ⟨rfl, w6, HB6.out, ?_⟩
      first
        | rw [show max N (-1) = -1 by omega]
        | rw [show max N (-1) = N by omega]
set_option maxRecDepth 100000 in
set_option maxHeartbeats 4000000 in
theorem Play_arm_pos {w : World} {x : Nat} {AF AP AK : Option Addr} {nF cF nP cP nK cK a k : Nat} {p N left : Int} {v1 : Value} (hp : 0 ≤ p) {th : Bool} (hth : decide (p < (nF : Int)) = th) (ha : a % 7 = 6) (h : Blk w x 53 #[.slice AF nF cF, v1, .int .i64 left]) :
    Calls Tryd.prog 9 #[.pointer (some ⟨x, 0, none⟩), .agg #[.int .u8 (a : Int), .int .i64 p, .slice AP nP cP, .slice AK nK cK, .int .i64 N, .int .u32 (k : Int)]] w fun e w' => e = .returned (.tuple #[.pointer (some ⟨x, 0, none⟩), .int .i64 0]) ∧ ∃ w1, Below w.heap.size w w1 ∧ w' = w1.setCell ⟨x, 2, none⟩ (.int .i64 (max N (-1))) := by
  obtain ⟨b, hb⟩ : ∃ b, w.heap.size = b := ⟨_, rfl⟩
  obtain ⟨W, hW⟩ : ∃ W, w.alloc (.cells #[.int .u8 (a : Int), .int .i64 p, .slice AP nP cP, .slice AK nK cK, .int .i64 N, .int .u32 (k : Int)] 35) = W := ⟨_, rfl⟩
  have hbx := Blk.new w 35 #[.int .u8 (a : Int), .int .i64 p, .slice AP nP cP, .slice AK nK cK, .int .i64 N, .int .u32 (k : Int)]
  have hx := h.alloc (.cells #[.int .u8 (a : Int), .int .i64 p, .slice AP nP cP, .slice AK nK cK, .int .i64 N, .int .u32 (k : Int)] 35)
  have hbl := (Below.refl _ w).alloc (Nat.le_refl _) (.cells #[.int .u8 (a : Int), .int .i64 p, .slice AP nP cP, .slice AK nK cK, .int .i64 N, .int .u32 (k : Int)] 35)
  have hxl := h.lt
  rw [hW] at hbx hx hbl
  rw [hb] at hbx hxl
  have HW := Lib.hid (And.intro hW hb)
  have LP : ∀ W', Below W.heap.size W W' → (Instr.loadAt 3 (.pointer (some ⟨b, 1, none⟩))).run Tryd.prog W' = .ok (.int .i64 p) W' := fun W' hb' => by
    have c0 := (hbx.below hb' hbx.lt).cell 1
    simp at c0
    go_simp
  have LF : ∀ W', Below W.heap.size W W' → (Instr.loadAt 50 (.pointer (some ⟨x, 0, none⟩))).run Tryd.prog W' = .ok (.slice AF nF cF) W' := fun W' hb' => by
    have c0 := (hx.below hb' hx.lt).cell 0
    simp at c0
    go_simp
  have HX := Lib.hid hx
  have HBX := Lib.hid hbx
  have HBL := Lib.hid hbl
  have HXL := Lib.hid hxl
  have hr : ((a : Int)).tmod 7 = 6 := by
    rw [Int.tmod_eq_emod_of_nonneg (by omega)]
    omega
  clear ha
  clear h hbx hx hbl hxl hW hb
  go_enter Tryd.func9, Tryd.ntmps9
  go_wp2_with fail
  rw [HW.out.1, HW.out.2]
  refine wp_region_flow [some 13, some 14, some 15, some 16, some 17, some 18, some 19, some 20, some 21, some 22, some 23, some 24, some 25, some 6] (fun i => ([.is (.pointer (some ⟨b, 1, none⟩)), .is (.int .i64 p), .is (.bool true), .is (.bool true), .is (.pointer (some ⟨b, 1, none⟩)), .is (.int .i64 p), .is (.pointer (some ⟨x, 0, none⟩)), .is (.pointer (some ⟨x, 0, none⟩)), .is (.pointer (some ⟨x, 0, none⟩)), .is (.slice AF nF cF), .is (.int .i64 (nF : Int)), .is (.bool th), .is (.bool th), .is (.bool th)] : List Flw).getD i .any) (by kernel_rfl) (by kernel_rfl) rfl ?_ ?_
  · refine ⟨step_free rfl (fun aF wF hs hb => ?_), ?_⟩
    · obtain ⟨x0, -⟩ := hs
      have e0 : aF.eval (.tmp 3) = .pointer (some ⟨b, 0, none⟩) := x0
      refine opC_value (v := .pointer (some ⟨b, 1, none⟩)) ?_ ⟨rfl, below_same wF⟩
      have t0 := ev_of e0
      simp [execOp, go_sem, t0]
    refine ⟨step_free rfl (fun aF wF hs hb => ?_), ?_⟩
    · obtain ⟨x0, -⟩ := hs
      have e0 : aF.eval (.tmp 13) = .pointer (some ⟨b, 1, none⟩) := x0
      exact opC_load e0 (LP wF hb) ⟨rfl, below_same wF⟩
    refine ⟨step_free rfl (fun aF wF hs hb => ?_), ?_⟩
    · obtain ⟨x0, -⟩ := hs
      have e0 : aF.eval (.tmp 14) = .int .i64 p := x0
      refine opC_value (v := .bool true) ?_ ⟨rfl, below_same wF⟩
      simp [execOp, go_sem, ev_of e0, hp]
    refine ⟨step_free rfl (fun aF wF hs hb => ?_), ?_⟩
    · obtain ⟨x0, -⟩ := hs
      have e0 : aF.eval (.tmp 15) = .bool true := x0
      exact opC_move e0 ⟨rfl, below_same wF⟩
    refine ⟨step_yes 3 16 rfl rfl (fun _ _ h => h) (fun aF wF hs hb => ?_), ?_⟩
    · obtain ⟨x0, -⟩ := hs
      have e0 : aF.eval (.tmp 3) = .pointer (some ⟨b, 0, none⟩) := x0
      refine opC_value (v := .pointer (some ⟨b, 1, none⟩)) ?_ ⟨rfl, below_same wF⟩
      have t0 := ev_of e0
      simp [execOp, go_sem, t0]
    refine ⟨step_yes 3 16 rfl rfl (fun _ _ h => h) (fun aF wF hs hb => ?_), ?_⟩
    · obtain ⟨x0, -⟩ := hs
      have e0 : aF.eval (.tmp 17) = .pointer (some ⟨b, 1, none⟩) := x0
      exact opC_load e0 (LP wF hb) ⟨rfl, below_same wF⟩
    refine ⟨step_yes 3 16 rfl rfl (fun _ _ h => h) (fun aF wF hs hb => ?_), ?_⟩
    · obtain ⟨x0, -⟩ := hs
      have e0 : aF.eval (.tmp 0) = .pointer (some ⟨x, 0, none⟩) := x0
      exact opC_move e0 ⟨rfl, below_same wF⟩
    refine ⟨step_yes 3 16 rfl rfl (fun _ _ h => h) (fun aF wF hs hb => ?_), ?_⟩
    · obtain ⟨x0, -⟩ := hs
      have e0 : aF.eval (.tmp 19) = .pointer (some ⟨x, 0, none⟩) := x0
      refine opC_value (v := .pointer (some ⟨x, 0, none⟩)) ?_ ⟨rfl, below_same wF⟩
      have t0 := ev_of e0
      simp [execOp, go_sem, t0]
    refine ⟨step_yes 3 16 rfl rfl (fun _ _ h => h) (fun aF wF hs hb => ?_), ?_⟩
    · obtain ⟨x0, -⟩ := hs
      have e0 : aF.eval (.tmp 20) = .pointer (some ⟨x, 0, none⟩) := x0
      refine opC_value (v := .pointer (some ⟨x, 0, none⟩)) ?_ ⟨rfl, below_same wF⟩
      have t0 := ev_of e0
      simp [execOp, go_sem, t0]
    refine ⟨step_yes 3 16 rfl rfl (fun _ _ h => h) (fun aF wF hs hb => ?_), ?_⟩
    · obtain ⟨x0, -⟩ := hs
      have e0 : aF.eval (.tmp 21) = .pointer (some ⟨x, 0, none⟩) := x0
      exact opC_load e0 (LF wF hb) ⟨rfl, below_same wF⟩
    refine ⟨step_yes 3 16 rfl rfl (fun _ _ h => h) (fun aF wF hs hb => ?_), ?_⟩
    · obtain ⟨x0, -⟩ := hs
      have e0 : aF.eval (.tmp 22) = .slice AF nF cF := x0
      refine opC_value (v := .int .i64 (nF : Int)) ?_ ⟨rfl, below_same wF⟩
      have t0 := ev_of e0
      simp [execOp, go_sem, t0]
    refine ⟨step_yes 3 16 rfl rfl (fun _ _ h => h) (fun aF wF hs hb => ?_), ?_⟩
    · obtain ⟨x0, x1, -⟩ := hs
      have e0 : aF.eval (.tmp 18) = .int .i64 p := x0
      have e1 : aF.eval (.tmp 23) = .int .i64 (nF : Int) := x1
      refine opC_value (v := .bool th) ?_ ⟨rfl, below_same wF⟩
      simp [execOp, go_sem, ev_of e0, ev_of e1, hth]
    refine ⟨step_free rfl (fun aF wF hs hb => ?_), ?_⟩
    · obtain ⟨x0, x1, -⟩ := hs
      have e0 : aF.eval (.tmp 16) = .bool true := x0
      have e1 : aF.eval (.tmp 24) = .bool th := x1
      refine opC_value (v := .bool th) ?_ ⟨rfl, below_same wF⟩
      have t0 := ev_of e0
      have t1 := ev_of e1
      simp [execOp, go_sem, t0, t1]
    refine ⟨step_free rfl (fun aF wF hs hb => ?_), ?_⟩
    · obtain ⟨x0, -⟩ := hs
      have e0 : aF.eval (.tmp 25) = .bool th := x0
      exact opC_assign e0 ⟨rfl, below_same wF⟩
    exact trivial
  · intro f w6 hf hb6
    have h9 : f 13 = .bool th := hf 13 6 rfl
    simp only [putF, Act.put, List.setIfInBounds_toArray, List.set_cons_zero, List.set_cons_succ]
    rw [h9]
    have HX6 := Lib.hid (HX.out.below hb6 HX.out.lt)
    have HBX6 := Lib.hid (HBX.out.below hb6 HBX.out.lt)
    have HB6 := Lib.hid (HBL.out.trans (hb6.mono HBL.out.size))
    clear hf h9 hb6 LP LF HX HBX HBL HW
    have b0 := HBX6.out.cell 0
    have b1 := HBX6.out.cell 1
    have b4 := HBX6.out.cell 4
    simp at b0 b1 b4
    have x2 := HX6.out.cell 2
    simp at x2
    have f2 := HX6.out.frozen 2
    have l2 := HX6.out.lt
    go_wp2_with fail
    all_goals
      refine bodyPost_ret (v := .tuple #[.pointer (some ⟨x, 0, none⟩), .int .i64 0]) (by simp [results, Tryd.results9, go_sem, Result.andThen]) rfl ⟨rfl, w6, HB6.out, ?_⟩
      first
        | rw [show max N (-1) = -1 by omega]
        | rw [show max N (-1) = N by omega]
set_option maxRecDepth 100000 in
set_option maxHeartbeats 4000000 in
theorem Play_write_neg {w : World} {x : Nat} {AF AP AK : Option Addr} {nF cF nP cP nK cK a k : Nat} {p N left : Int} {v1 : Value} (hp : ¬ 0 ≤ p) (ha : a % 7 < 3) (h : Blk w x 53 #[.slice AF nF cF, v1, .int .i64 left]) :
    Calls Tryd.prog 9 #[.pointer (some ⟨x, 0, none⟩), .agg #[.int .u8 (a : Int), .int .i64 p, .slice AP nP cP, .slice AK nK cK, .int .i64 N, .int .u32 (k : Int)]] w fun e w' => e = .returned (.tuple #[.pointer (some ⟨x, 0, none⟩), .int .i64 7]) ∧ Below w.heap.size w w' := by
  obtain ⟨b, hb⟩ : ∃ b, w.heap.size = b := ⟨_, rfl⟩
  obtain ⟨W, hW⟩ : ∃ W, w.alloc (.cells #[.int .u8 (a : Int), .int .i64 p, .slice AP nP cP, .slice AK nK cK, .int .i64 N, .int .u32 (k : Int)] 35) = W := ⟨_, rfl⟩
  have hbx := Blk.new w 35 #[.int .u8 (a : Int), .int .i64 p, .slice AP nP cP, .slice AK nK cK, .int .i64 N, .int .u32 (k : Int)]
  have hx := h.alloc (.cells #[.int .u8 (a : Int), .int .i64 p, .slice AP nP cP, .slice AK nK cK, .int .i64 N, .int .u32 (k : Int)] 35)
  have hbl := (Below.refl _ w).alloc (Nat.le_refl _) (.cells #[.int .u8 (a : Int), .int .i64 p, .slice AP nP cP, .slice AK nK cK, .int .i64 N, .int .u32 (k : Int)] 35)
  have hxl := h.lt
  rw [hW] at hbx hx hbl
  rw [hb] at hbx hxl
  have HW := Lib.hid (And.intro hW hb)
  have LP : ∀ W', Below W.heap.size W W' → (Instr.loadAt 3 (.pointer (some ⟨b, 1, none⟩))).run Tryd.prog W' = .ok (.int .i64 p) W' := fun W' hb' => by
    have c0 := (hbx.below hb' hbx.lt).cell 1
    simp at c0
    go_simp
  have LF : ∀ W', Below W.heap.size W W' → (Instr.loadAt 50 (.pointer (some ⟨x, 0, none⟩))).run Tryd.prog W' = .ok (.slice AF nF cF) W' := fun W' hb' => by
    have c0 := (hx.below hb' hx.lt).cell 0
    simp at c0
    go_simp
  have HX := Lib.hid hx
  have HBX := Lib.hid hbx
  have HBL := Lib.hid hbl
  have HXL := Lib.hid hxl
  obtain ⟨r, hrr⟩ : ∃ r : Int, ((a : Int)).tmod 7 = r := ⟨_, rfl⟩
  have hr9 : r = ((a % 7 : Nat) : Int) := by
    rw [← hrr, Int.tmod_eq_emod_of_nonneg (by omega)]
    omega
  have r3 : ¬ r = 3 := by omega
  have r4 : ¬ r = 4 := by omega
  have r5 : ¬ r = 5 := by omega
  have r6 : ¬ r = 6 := by omega
  clear ha hr9
  clear h hbx hx hbl hxl hW hb
  go_enter Tryd.func9, Tryd.ntmps9
  go_wp2_with fail
  rw [HW.out.1, HW.out.2]
  refine wp_region_flow [some 13, some 14, some 15, some 16, some 17, some 18, some 19, some 20, some 21, some 22, some 23, some 24, some 25, some 6] (fun i => ([.is (.pointer (some ⟨b, 1, none⟩)), .is (.int .i64 p), .is (.bool false), .is (.bool false), .is undef, .is undef, .is undef, .is undef, .is undef, .is undef, .is undef, .is undef, .is (.bool false), .is (.bool false)] : List Flw).getD i .any) (by kernel_rfl) (by kernel_rfl) rfl ?_ ?_
  · refine ⟨step_free rfl (fun aF wF hs hb => ?_), ?_⟩
    · obtain ⟨x0, -⟩ := hs
      have e0 : aF.eval (.tmp 3) = .pointer (some ⟨b, 0, none⟩) := x0
      refine opC_value (v := .pointer (some ⟨b, 1, none⟩)) ?_ ⟨rfl, below_same wF⟩
      have t0 := ev_of e0
      simp [execOp, go_sem, t0]
    refine ⟨step_free rfl (fun aF wF hs hb => ?_), ?_⟩
    · obtain ⟨x0, -⟩ := hs
      have e0 : aF.eval (.tmp 13) = .pointer (some ⟨b, 1, none⟩) := x0
      exact opC_load e0 (LP wF hb) ⟨rfl, below_same wF⟩
    refine ⟨step_free rfl (fun aF wF hs hb => ?_), ?_⟩
    · obtain ⟨x0, -⟩ := hs
      have e0 : aF.eval (.tmp 14) = .int .i64 p := x0
      refine opC_value (v := .bool false) ?_ ⟨rfl, below_same wF⟩
      simp [execOp, go_sem, ev_of e0, hp]
    refine ⟨step_free rfl (fun aF wF hs hb => ?_), ?_⟩
    · obtain ⟨x0, -⟩ := hs
      have e0 : aF.eval (.tmp 15) = .bool false := x0
      exact opC_move e0 ⟨rfl, below_same wF⟩
    refine ⟨step_no 3 16 rfl rfl (fun _ _ h => h) (fun _ => rfl), ?_⟩
    refine ⟨step_no 3 16 rfl rfl (fun _ _ h => h) (fun _ => rfl), ?_⟩
    refine ⟨step_no 3 16 rfl rfl (fun _ _ h => h) (fun _ => rfl), ?_⟩
    refine ⟨step_no 3 16 rfl rfl (fun _ _ h => h) (fun _ => rfl), ?_⟩
    refine ⟨step_no 3 16 rfl rfl (fun _ _ h => h) (fun _ => rfl), ?_⟩
    refine ⟨step_no 3 16 rfl rfl (fun _ _ h => h) (fun _ => rfl), ?_⟩
    refine ⟨step_no 3 16 rfl rfl (fun _ _ h => h) (fun _ => rfl), ?_⟩
    refine ⟨step_no 3 16 rfl rfl (fun _ _ h => h) (fun _ => rfl), ?_⟩
    refine ⟨step_free rfl (fun aF wF hs hb => ?_), ?_⟩
    · obtain ⟨x0, x1, -⟩ := hs
      have e0 : aF.eval (.tmp 16) = .bool false := x0
      have e1 : aF.eval (.tmp 24) = undef := x1
      refine opC_value (v := .bool false) ?_ ⟨rfl, below_same wF⟩
      have t0 := ev_of e0
      have t1 := ev_of e1
      simp [execOp, go_sem, t0, t1]
    refine ⟨step_free rfl (fun aF wF hs hb => ?_), ?_⟩
    · obtain ⟨x0, -⟩ := hs
      have e0 : aF.eval (.tmp 25) = .bool false := x0
      exact opC_assign e0 ⟨rfl, below_same wF⟩
    exact trivial
  · intro f w6 hf hb6
    have h9 : f 13 = .bool false := hf 13 6 rfl
    simp only [putF, Act.put, List.setIfInBounds_toArray, List.set_cons_zero, List.set_cons_succ]
    rw [h9]
    have HX6 := Lib.hid (HX.out.below hb6 HX.out.lt)
    have HBX6 := Lib.hid (HBX.out.below hb6 HBX.out.lt)
    have HB6 := Lib.hid (HBL.out.trans (hb6.mono HBL.out.size))
    clear hf h9 hb6 LP LF HX HBX HBL HW
    have b0 := HBX6.out.cell 0
    have b1 := HBX6.out.cell 1
    have b4 := HBX6.out.cell 4
    simp at b0 b1 b4
    go_wp2_with fail
    all_goals exact bodyPost_ret (v := .tuple #[.pointer (some ⟨x, 0, none⟩), .int .i64 7]) (by simp [results, Tryd.results9, go_sem, Result.andThen]) rfl ⟨rfl, HB6.out⟩
set_option maxRecDepth 100000 in
set_option maxHeartbeats 4000000 in
theorem Play_turn_neg {w : World} {x : Nat} {AF AP AK : Option Addr} {nF cF nP cP nK cK a k : Nat} {p N left : Int} {v1 : Value} (hp : ¬ 0 ≤ p) (ha : a % 7 = 5) (h : Blk w x 53 #[.slice AF nF cF, v1, .int .i64 left]) :
    Calls Tryd.prog 9 #[.pointer (some ⟨x, 0, none⟩), .agg #[.int .u8 (a : Int), .int .i64 p, .slice AP nP cP, .slice AK nK cK, .int .i64 N, .int .u32 (k : Int)]] w fun e w' => e = .returned (.tuple #[.pointer (some ⟨x, 0, none⟩), .int .i64 7]) ∧ Below w.heap.size w w' := by
  obtain ⟨b, hb⟩ : ∃ b, w.heap.size = b := ⟨_, rfl⟩
  obtain ⟨W, hW⟩ : ∃ W, w.alloc (.cells #[.int .u8 (a : Int), .int .i64 p, .slice AP nP cP, .slice AK nK cK, .int .i64 N, .int .u32 (k : Int)] 35) = W := ⟨_, rfl⟩
  have hbx := Blk.new w 35 #[.int .u8 (a : Int), .int .i64 p, .slice AP nP cP, .slice AK nK cK, .int .i64 N, .int .u32 (k : Int)]
  have hx := h.alloc (.cells #[.int .u8 (a : Int), .int .i64 p, .slice AP nP cP, .slice AK nK cK, .int .i64 N, .int .u32 (k : Int)] 35)
  have hbl := (Below.refl _ w).alloc (Nat.le_refl _) (.cells #[.int .u8 (a : Int), .int .i64 p, .slice AP nP cP, .slice AK nK cK, .int .i64 N, .int .u32 (k : Int)] 35)
  have hxl := h.lt
  rw [hW] at hbx hx hbl
  rw [hb] at hbx hxl
  have HW := Lib.hid (And.intro hW hb)
  have LP : ∀ W', Below W.heap.size W W' → (Instr.loadAt 3 (.pointer (some ⟨b, 1, none⟩))).run Tryd.prog W' = .ok (.int .i64 p) W' := fun W' hb' => by
    have c0 := (hbx.below hb' hbx.lt).cell 1
    simp at c0
    go_simp
  have LF : ∀ W', Below W.heap.size W W' → (Instr.loadAt 50 (.pointer (some ⟨x, 0, none⟩))).run Tryd.prog W' = .ok (.slice AF nF cF) W' := fun W' hb' => by
    have c0 := (hx.below hb' hx.lt).cell 0
    simp at c0
    go_simp
  have HX := Lib.hid hx
  have HBX := Lib.hid hbx
  have HBL := Lib.hid hbl
  have HXL := Lib.hid hxl
  have hr : ((a : Int)).tmod 7 = 5 := by
    rw [Int.tmod_eq_emod_of_nonneg (by omega)]
    omega
  clear ha
  clear h hbx hx hbl hxl hW hb
  go_enter Tryd.func9, Tryd.ntmps9
  go_wp2_with fail
  rw [HW.out.1, HW.out.2]
  refine wp_region_flow [some 13, some 14, some 15, some 16, some 17, some 18, some 19, some 20, some 21, some 22, some 23, some 24, some 25, some 6] (fun i => ([.is (.pointer (some ⟨b, 1, none⟩)), .is (.int .i64 p), .is (.bool false), .is (.bool false), .is undef, .is undef, .is undef, .is undef, .is undef, .is undef, .is undef, .is undef, .is (.bool false), .is (.bool false)] : List Flw).getD i .any) (by kernel_rfl) (by kernel_rfl) rfl ?_ ?_
  · refine ⟨step_free rfl (fun aF wF hs hb => ?_), ?_⟩
    · obtain ⟨x0, -⟩ := hs
      have e0 : aF.eval (.tmp 3) = .pointer (some ⟨b, 0, none⟩) := x0
      refine opC_value (v := .pointer (some ⟨b, 1, none⟩)) ?_ ⟨rfl, below_same wF⟩
      have t0 := ev_of e0
      simp [execOp, go_sem, t0]
    refine ⟨step_free rfl (fun aF wF hs hb => ?_), ?_⟩
    · obtain ⟨x0, -⟩ := hs
      have e0 : aF.eval (.tmp 13) = .pointer (some ⟨b, 1, none⟩) := x0
      exact opC_load e0 (LP wF hb) ⟨rfl, below_same wF⟩
    refine ⟨step_free rfl (fun aF wF hs hb => ?_), ?_⟩
    · obtain ⟨x0, -⟩ := hs
      have e0 : aF.eval (.tmp 14) = .int .i64 p := x0
      refine opC_value (v := .bool false) ?_ ⟨rfl, below_same wF⟩
      simp [execOp, go_sem, ev_of e0, hp]
    refine ⟨step_free rfl (fun aF wF hs hb => ?_), ?_⟩
    · obtain ⟨x0, -⟩ := hs
      have e0 : aF.eval (.tmp 15) = .bool false := x0
      exact opC_move e0 ⟨rfl, below_same wF⟩
    refine ⟨step_no 3 16 rfl rfl (fun _ _ h => h) (fun _ => rfl), ?_⟩
    refine ⟨step_no 3 16 rfl rfl (fun _ _ h => h) (fun _ => rfl), ?_⟩
    refine ⟨step_no 3 16 rfl rfl (fun _ _ h => h) (fun _ => rfl), ?_⟩
    refine ⟨step_no 3 16 rfl rfl (fun _ _ h => h) (fun _ => rfl), ?_⟩
    refine ⟨step_no 3 16 rfl rfl (fun _ _ h => h) (fun _ => rfl), ?_⟩
    refine ⟨step_no 3 16 rfl rfl (fun _ _ h => h) (fun _ => rfl), ?_⟩
    refine ⟨step_no 3 16 rfl rfl (fun _ _ h => h) (fun _ => rfl), ?_⟩
    refine ⟨step_no 3 16 rfl rfl (fun _ _ h => h) (fun _ => rfl), ?_⟩
    refine ⟨step_free rfl (fun aF wF hs hb => ?_), ?_⟩
    · obtain ⟨x0, x1, -⟩ := hs
      have e0 : aF.eval (.tmp 16) = .bool false := x0
      have e1 : aF.eval (.tmp 24) = undef := x1
      refine opC_value (v := .bool false) ?_ ⟨rfl, below_same wF⟩
      have t0 := ev_of e0
      have t1 := ev_of e1
      simp [execOp, go_sem, t0, t1]
    refine ⟨step_free rfl (fun aF wF hs hb => ?_), ?_⟩
    · obtain ⟨x0, -⟩ := hs
      have e0 : aF.eval (.tmp 25) = .bool false := x0
      exact opC_assign e0 ⟨rfl, below_same wF⟩
    exact trivial
  · intro f w6 hf hb6
    have h9 : f 13 = .bool false := hf 13 6 rfl
    simp only [putF, Act.put, List.setIfInBounds_toArray, List.set_cons_zero, List.set_cons_succ]
    rw [h9]
    have HX6 := Lib.hid (HX.out.below hb6 HX.out.lt)
    have HBX6 := Lib.hid (HBX.out.below hb6 HBX.out.lt)
    have HB6 := Lib.hid (HBL.out.trans (hb6.mono HBL.out.size))
    clear hf h9 hb6 LP LF HX HBX HBL HW
    have b0 := HBX6.out.cell 0
    have b1 := HBX6.out.cell 1
    have b4 := HBX6.out.cell 4
    simp at b0 b1 b4
    go_wp2_with fail
    all_goals exact bodyPost_ret (v := .tuple #[.pointer (some ⟨x, 0, none⟩), .int .i64 7]) (by simp [results, Tryd.results9, go_sem, Result.andThen]) rfl ⟨rfl, HB6.out⟩
set_option maxRecDepth 100000 in
set_option maxHeartbeats 4000000 in
theorem Play_write_high {w : World} {x : Nat} {AF AP AK : Option Addr} {nF cF nP cP nK cK a k : Nat} {p N left : Int} {v1 : Value} (hp : 0 ≤ p) (hth : decide (p < (nF : Int)) = false) (ha : a % 7 < 3) (h : Blk w x 53 #[.slice AF nF cF, v1, .int .i64 left]) :
    Calls Tryd.prog 9 #[.pointer (some ⟨x, 0, none⟩), .agg #[.int .u8 (a : Int), .int .i64 p, .slice AP nP cP, .slice AK nK cK, .int .i64 N, .int .u32 (k : Int)]] w fun e w' => e = .returned (.tuple #[.pointer (some ⟨x, 0, none⟩), .int .i64 7]) ∧ Below w.heap.size w w' := by
  obtain ⟨b, hb⟩ : ∃ b, w.heap.size = b := ⟨_, rfl⟩
  obtain ⟨W, hW⟩ : ∃ W, w.alloc (.cells #[.int .u8 (a : Int), .int .i64 p, .slice AP nP cP, .slice AK nK cK, .int .i64 N, .int .u32 (k : Int)] 35) = W := ⟨_, rfl⟩
  have hbx := Blk.new w 35 #[.int .u8 (a : Int), .int .i64 p, .slice AP nP cP, .slice AK nK cK, .int .i64 N, .int .u32 (k : Int)]
  have hx := h.alloc (.cells #[.int .u8 (a : Int), .int .i64 p, .slice AP nP cP, .slice AK nK cK, .int .i64 N, .int .u32 (k : Int)] 35)
  have hbl := (Below.refl _ w).alloc (Nat.le_refl _) (.cells #[.int .u8 (a : Int), .int .i64 p, .slice AP nP cP, .slice AK nK cK, .int .i64 N, .int .u32 (k : Int)] 35)
  have hxl := h.lt
  rw [hW] at hbx hx hbl
  rw [hb] at hbx hxl
  have HW := Lib.hid (And.intro hW hb)
  have LP : ∀ W', Below W.heap.size W W' → (Instr.loadAt 3 (.pointer (some ⟨b, 1, none⟩))).run Tryd.prog W' = .ok (.int .i64 p) W' := fun W' hb' => by
    have c0 := (hbx.below hb' hbx.lt).cell 1
    simp at c0
    go_simp
  have LF : ∀ W', Below W.heap.size W W' → (Instr.loadAt 50 (.pointer (some ⟨x, 0, none⟩))).run Tryd.prog W' = .ok (.slice AF nF cF) W' := fun W' hb' => by
    have c0 := (hx.below hb' hx.lt).cell 0
    simp at c0
    go_simp
  have HX := Lib.hid hx
  have HBX := Lib.hid hbx
  have HBL := Lib.hid hbl
  have HXL := Lib.hid hxl
  obtain ⟨r, hrr⟩ : ∃ r : Int, ((a : Int)).tmod 7 = r := ⟨_, rfl⟩
  have hr9 : r = ((a % 7 : Nat) : Int) := by
    rw [← hrr, Int.tmod_eq_emod_of_nonneg (by omega)]
    omega
  have r3 : ¬ r = 3 := by omega
  have r4 : ¬ r = 4 := by omega
  have r5 : ¬ r = 5 := by omega
  have r6 : ¬ r = 6 := by omega
  clear ha hr9
  clear h hbx hx hbl hxl hW hb
  go_enter Tryd.func9, Tryd.ntmps9
  go_wp2_with fail
  rw [HW.out.1, HW.out.2]
  refine wp_region_flow [some 13, some 14, some 15, some 16, some 17, some 18, some 19, some 20, some 21, some 22, some 23, some 24, some 25, some 6] (fun i => ([.is (.pointer (some ⟨b, 1, none⟩)), .is (.int .i64 p), .is (.bool true), .is (.bool true), .is (.pointer (some ⟨b, 1, none⟩)), .is (.int .i64 p), .is (.pointer (some ⟨x, 0, none⟩)), .is (.pointer (some ⟨x, 0, none⟩)), .is (.pointer (some ⟨x, 0, none⟩)), .is (.slice AF nF cF), .is (.int .i64 (nF : Int)), .is (.bool false), .is (.bool false), .is (.bool false)] : List Flw).getD i .any) (by kernel_rfl) (by kernel_rfl) rfl ?_ ?_
  · refine ⟨step_free rfl (fun aF wF hs hb => ?_), ?_⟩
    · obtain ⟨x0, -⟩ := hs
      have e0 : aF.eval (.tmp 3) = .pointer (some ⟨b, 0, none⟩) := x0
      refine opC_value (v := .pointer (some ⟨b, 1, none⟩)) ?_ ⟨rfl, below_same wF⟩
      have t0 := ev_of e0
      simp [execOp, go_sem, t0]
    refine ⟨step_free rfl (fun aF wF hs hb => ?_), ?_⟩
    · obtain ⟨x0, -⟩ := hs
      have e0 : aF.eval (.tmp 13) = .pointer (some ⟨b, 1, none⟩) := x0
      exact opC_load e0 (LP wF hb) ⟨rfl, below_same wF⟩
    refine ⟨step_free rfl (fun aF wF hs hb => ?_), ?_⟩
    · obtain ⟨x0, -⟩ := hs
      have e0 : aF.eval (.tmp 14) = .int .i64 p := x0
      refine opC_value (v := .bool true) ?_ ⟨rfl, below_same wF⟩
      simp [execOp, go_sem, ev_of e0, hp]
    refine ⟨step_free rfl (fun aF wF hs hb => ?_), ?_⟩
    · obtain ⟨x0, -⟩ := hs
      have e0 : aF.eval (.tmp 15) = .bool true := x0
      exact opC_move e0 ⟨rfl, below_same wF⟩
    refine ⟨step_yes 3 16 rfl rfl (fun _ _ h => h) (fun aF wF hs hb => ?_), ?_⟩
    · obtain ⟨x0, -⟩ := hs
      have e0 : aF.eval (.tmp 3) = .pointer (some ⟨b, 0, none⟩) := x0
      refine opC_value (v := .pointer (some ⟨b, 1, none⟩)) ?_ ⟨rfl, below_same wF⟩
      have t0 := ev_of e0
      simp [execOp, go_sem, t0]
    refine ⟨step_yes 3 16 rfl rfl (fun _ _ h => h) (fun aF wF hs hb => ?_), ?_⟩
    · obtain ⟨x0, -⟩ := hs
      have e0 : aF.eval (.tmp 17) = .pointer (some ⟨b, 1, none⟩) := x0
      exact opC_load e0 (LP wF hb) ⟨rfl, below_same wF⟩
    refine ⟨step_yes 3 16 rfl rfl (fun _ _ h => h) (fun aF wF hs hb => ?_), ?_⟩
    · obtain ⟨x0, -⟩ := hs
      have e0 : aF.eval (.tmp 0) = .pointer (some ⟨x, 0, none⟩) := x0
      exact opC_move e0 ⟨rfl, below_same wF⟩
    refine ⟨step_yes 3 16 rfl rfl (fun _ _ h => h) (fun aF wF hs hb => ?_), ?_⟩
    · obtain ⟨x0, -⟩ := hs
      have e0 : aF.eval (.tmp 19) = .pointer (some ⟨x, 0, none⟩) := x0
      refine opC_value (v := .pointer (some ⟨x, 0, none⟩)) ?_ ⟨rfl, below_same wF⟩
      have t0 := ev_of e0
      simp [execOp, go_sem, t0]
    refine ⟨step_yes 3 16 rfl rfl (fun _ _ h => h) (fun aF wF hs hb => ?_), ?_⟩
    · obtain ⟨x0, -⟩ := hs
      have e0 : aF.eval (.tmp 20) = .pointer (some ⟨x, 0, none⟩) := x0
      refine opC_value (v := .pointer (some ⟨x, 0, none⟩)) ?_ ⟨rfl, below_same wF⟩
      have t0 := ev_of e0
      simp [execOp, go_sem, t0]
    refine ⟨step_yes 3 16 rfl rfl (fun _ _ h => h) (fun aF wF hs hb => ?_), ?_⟩
    · obtain ⟨x0, -⟩ := hs
      have e0 : aF.eval (.tmp 21) = .pointer (some ⟨x, 0, none⟩) := x0
      exact opC_load e0 (LF wF hb) ⟨rfl, below_same wF⟩
    refine ⟨step_yes 3 16 rfl rfl (fun _ _ h => h) (fun aF wF hs hb => ?_), ?_⟩
    · obtain ⟨x0, -⟩ := hs
      have e0 : aF.eval (.tmp 22) = .slice AF nF cF := x0
      refine opC_value (v := .int .i64 (nF : Int)) ?_ ⟨rfl, below_same wF⟩
      have t0 := ev_of e0
      simp [execOp, go_sem, t0]
    refine ⟨step_yes 3 16 rfl rfl (fun _ _ h => h) (fun aF wF hs hb => ?_), ?_⟩
    · obtain ⟨x0, x1, -⟩ := hs
      have e0 : aF.eval (.tmp 18) = .int .i64 p := x0
      have e1 : aF.eval (.tmp 23) = .int .i64 (nF : Int) := x1
      refine opC_value (v := .bool false) ?_ ⟨rfl, below_same wF⟩
      simp [execOp, go_sem, ev_of e0, ev_of e1, hth]
    refine ⟨step_free rfl (fun aF wF hs hb => ?_), ?_⟩
    · obtain ⟨x0, x1, -⟩ := hs
      have e0 : aF.eval (.tmp 16) = .bool true := x0
      have e1 : aF.eval (.tmp 24) = .bool false := x1
      refine opC_value (v := .bool false) ?_ ⟨rfl, below_same wF⟩
      have t0 := ev_of e0
      have t1 := ev_of e1
      simp [execOp, go_sem, t0, t1]
    refine ⟨step_free rfl (fun aF wF hs hb => ?_), ?_⟩
    · obtain ⟨x0, -⟩ := hs
      have e0 : aF.eval (.tmp 25) = .bool false := x0
      exact opC_assign e0 ⟨rfl, below_same wF⟩
    exact trivial
  · intro f w6 hf hb6
    have h9 : f 13 = .bool false := hf 13 6 rfl
    simp only [putF, Act.put, List.setIfInBounds_toArray, List.set_cons_zero, List.set_cons_succ]
    rw [h9]
    have HX6 := Lib.hid (HX.out.below hb6 HX.out.lt)
    have HBX6 := Lib.hid (HBX.out.below hb6 HBX.out.lt)
    have HB6 := Lib.hid (HBL.out.trans (hb6.mono HBL.out.size))
    clear hf h9 hb6 LP LF HX HBX HBL HW
    have b0 := HBX6.out.cell 0
    have b1 := HBX6.out.cell 1
    have b4 := HBX6.out.cell 4
    simp at b0 b1 b4
    go_wp2_with fail
    all_goals exact bodyPost_ret (v := .tuple #[.pointer (some ⟨x, 0, none⟩), .int .i64 7]) (by simp [results, Tryd.results9, go_sem, Result.andThen]) rfl ⟨rfl, HB6.out⟩
set_option maxRecDepth 100000 in
set_option maxHeartbeats 4000000 in
theorem Play_turn_high {w : World} {x : Nat} {AF AP AK : Option Addr} {nF cF nP cP nK cK a k : Nat} {p N left : Int} {v1 : Value} (hp : 0 ≤ p) (hth : decide (p < (nF : Int)) = false) (ha : a % 7 = 5) (h : Blk w x 53 #[.slice AF nF cF, v1, .int .i64 left]) :
    Calls Tryd.prog 9 #[.pointer (some ⟨x, 0, none⟩), .agg #[.int .u8 (a : Int), .int .i64 p, .slice AP nP cP, .slice AK nK cK, .int .i64 N, .int .u32 (k : Int)]] w fun e w' => e = .returned (.tuple #[.pointer (some ⟨x, 0, none⟩), .int .i64 7]) ∧ Below w.heap.size w w' := by
  obtain ⟨b, hb⟩ : ∃ b, w.heap.size = b := ⟨_, rfl⟩
  obtain ⟨W, hW⟩ : ∃ W, w.alloc (.cells #[.int .u8 (a : Int), .int .i64 p, .slice AP nP cP, .slice AK nK cK, .int .i64 N, .int .u32 (k : Int)] 35) = W := ⟨_, rfl⟩
  have hbx := Blk.new w 35 #[.int .u8 (a : Int), .int .i64 p, .slice AP nP cP, .slice AK nK cK, .int .i64 N, .int .u32 (k : Int)]
  have hx := h.alloc (.cells #[.int .u8 (a : Int), .int .i64 p, .slice AP nP cP, .slice AK nK cK, .int .i64 N, .int .u32 (k : Int)] 35)
  have hbl := (Below.refl _ w).alloc (Nat.le_refl _) (.cells #[.int .u8 (a : Int), .int .i64 p, .slice AP nP cP, .slice AK nK cK, .int .i64 N, .int .u32 (k : Int)] 35)
  have hxl := h.lt
  rw [hW] at hbx hx hbl
  rw [hb] at hbx hxl
  have HW := Lib.hid (And.intro hW hb)
  have LP : ∀ W', Below W.heap.size W W' → (Instr.loadAt 3 (.pointer (some ⟨b, 1, none⟩))).run Tryd.prog W' = .ok (.int .i64 p) W' := fun W' hb' => by
    have c0 := (hbx.below hb' hbx.lt).cell 1
    simp at c0
    go_simp
  have LF : ∀ W', Below W.heap.size W W' → (Instr.loadAt 50 (.pointer (some ⟨x, 0, none⟩))).run Tryd.prog W' = .ok (.slice AF nF cF) W' := fun W' hb' => by
    have c0 := (hx.below hb' hx.lt).cell 0
    simp at c0
    go_simp
  have HX := Lib.hid hx
  have HBX := Lib.hid hbx
  have HBL := Lib.hid hbl
  have HXL := Lib.hid hxl
  have hr : ((a : Int)).tmod 7 = 5 := by
    rw [Int.tmod_eq_emod_of_nonneg (by omega)]
    omega
  clear ha
  clear h hbx hx hbl hxl hW hb
  go_enter Tryd.func9, Tryd.ntmps9
  go_wp2_with fail
  rw [HW.out.1, HW.out.2]
  refine wp_region_flow [some 13, some 14, some 15, some 16, some 17, some 18, some 19, some 20, some 21, some 22, some 23, some 24, some 25, some 6] (fun i => ([.is (.pointer (some ⟨b, 1, none⟩)), .is (.int .i64 p), .is (.bool true), .is (.bool true), .is (.pointer (some ⟨b, 1, none⟩)), .is (.int .i64 p), .is (.pointer (some ⟨x, 0, none⟩)), .is (.pointer (some ⟨x, 0, none⟩)), .is (.pointer (some ⟨x, 0, none⟩)), .is (.slice AF nF cF), .is (.int .i64 (nF : Int)), .is (.bool false), .is (.bool false), .is (.bool false)] : List Flw).getD i .any) (by kernel_rfl) (by kernel_rfl) rfl ?_ ?_
  · refine ⟨step_free rfl (fun aF wF hs hb => ?_), ?_⟩
    · obtain ⟨x0, -⟩ := hs
      have e0 : aF.eval (.tmp 3) = .pointer (some ⟨b, 0, none⟩) := x0
      refine opC_value (v := .pointer (some ⟨b, 1, none⟩)) ?_ ⟨rfl, below_same wF⟩
      have t0 := ev_of e0
      simp [execOp, go_sem, t0]
    refine ⟨step_free rfl (fun aF wF hs hb => ?_), ?_⟩
    · obtain ⟨x0, -⟩ := hs
      have e0 : aF.eval (.tmp 13) = .pointer (some ⟨b, 1, none⟩) := x0
      exact opC_load e0 (LP wF hb) ⟨rfl, below_same wF⟩
    refine ⟨step_free rfl (fun aF wF hs hb => ?_), ?_⟩
    · obtain ⟨x0, -⟩ := hs
      have e0 : aF.eval (.tmp 14) = .int .i64 p := x0
      refine opC_value (v := .bool true) ?_ ⟨rfl, below_same wF⟩
      simp [execOp, go_sem, ev_of e0, hp]
    refine ⟨step_free rfl (fun aF wF hs hb => ?_), ?_⟩
    · obtain ⟨x0, -⟩ := hs
      have e0 : aF.eval (.tmp 15) = .bool true := x0
      exact opC_move e0 ⟨rfl, below_same wF⟩
    refine ⟨step_yes 3 16 rfl rfl (fun _ _ h => h) (fun aF wF hs hb => ?_), ?_⟩
    · obtain ⟨x0, -⟩ := hs
      have e0 : aF.eval (.tmp 3) = .pointer (some ⟨b, 0, none⟩) := x0
      refine opC_value (v := .pointer (some ⟨b, 1, none⟩)) ?_ ⟨rfl, below_same wF⟩
      have t0 := ev_of e0
      simp [execOp, go_sem, t0]
    refine ⟨step_yes 3 16 rfl rfl (fun _ _ h => h) (fun aF wF hs hb => ?_), ?_⟩
    · obtain ⟨x0, -⟩ := hs
      have e0 : aF.eval (.tmp 17) = .pointer (some ⟨b, 1, none⟩) := x0
      exact opC_load e0 (LP wF hb) ⟨rfl, below_same wF⟩
    refine ⟨step_yes 3 16 rfl rfl (fun _ _ h => h) (fun aF wF hs hb => ?_), ?_⟩
    · obtain ⟨x0, -⟩ := hs
      have e0 : aF.eval (.tmp 0) = .pointer (some ⟨x, 0, none⟩) := x0
      exact opC_move e0 ⟨rfl, below_same wF⟩
    refine ⟨step_yes 3 16 rfl rfl (fun _ _ h => h) (fun aF wF hs hb => ?_), ?_⟩
    · obtain ⟨x0, -⟩ := hs
      have e0 : aF.eval (.tmp 19) = .pointer (some ⟨x, 0, none⟩) := x0
      refine opC_value (v := .pointer (some ⟨x, 0, none⟩)) ?_ ⟨rfl, below_same wF⟩
      have t0 := ev_of e0
      simp [execOp, go_sem, t0]
    refine ⟨step_yes 3 16 rfl rfl (fun _ _ h => h) (fun aF wF hs hb => ?_), ?_⟩
    · obtain ⟨x0, -⟩ := hs
      have e0 : aF.eval (.tmp 20) = .pointer (some ⟨x, 0, none⟩) := x0
      refine opC_value (v := .pointer (some ⟨x, 0, none⟩)) ?_ ⟨rfl, below_same wF⟩
      have t0 := ev_of e0
      simp [execOp, go_sem, t0]
    refine ⟨step_yes 3 16 rfl rfl (fun _ _ h => h) (fun aF wF hs hb => ?_), ?_⟩
    · obtain ⟨x0, -⟩ := hs
      have e0 : aF.eval (.tmp 21) = .pointer (some ⟨x, 0, none⟩) := x0
      exact opC_load e0 (LF wF hb) ⟨rfl, below_same wF⟩
    refine ⟨step_yes 3 16 rfl rfl (fun _ _ h => h) (fun aF wF hs hb => ?_), ?_⟩
    · obtain ⟨x0, -⟩ := hs
      have e0 : aF.eval (.tmp 22) = .slice AF nF cF := x0
      refine opC_value (v := .int .i64 (nF : Int)) ?_ ⟨rfl, below_same wF⟩
      have t0 := ev_of e0
      simp [execOp, go_sem, t0]
    refine ⟨step_yes 3 16 rfl rfl (fun _ _ h => h) (fun aF wF hs hb => ?_), ?_⟩
    · obtain ⟨x0, x1, -⟩ := hs
      have e0 : aF.eval (.tmp 18) = .int .i64 p := x0
      have e1 : aF.eval (.tmp 23) = .int .i64 (nF : Int) := x1
      refine opC_value (v := .bool false) ?_ ⟨rfl, below_same wF⟩
      simp [execOp, go_sem, ev_of e0, ev_of e1, hth]
    refine ⟨step_free rfl (fun aF wF hs hb => ?_), ?_⟩
    · obtain ⟨x0, x1, -⟩ := hs
      have e0 : aF.eval (.tmp 16) = .bool true := x0
      have e1 : aF.eval (.tmp 24) = .bool false := x1
      refine opC_value (v := .bool false) ?_ ⟨rfl, below_same wF⟩
      have t0 := ev_of e0
      have t1 := ev_of e1
      simp [execOp, go_sem, t0, t1]
    refine ⟨step_free rfl (fun aF wF hs hb => ?_), ?_⟩
    · obtain ⟨x0, -⟩ := hs
      have e0 : aF.eval (.tmp 25) = .bool false := x0
      exact opC_assign e0 ⟨rfl, below_same wF⟩
    exact trivial
  · intro f w6 hf hb6
    have h9 : f 13 = .bool false := hf 13 6 rfl
    simp only [putF, Act.put, List.setIfInBounds_toArray, List.set_cons_zero, List.set_cons_succ]
    rw [h9]
    have HX6 := Lib.hid (HX.out.below hb6 HX.out.lt)
    have HBX6 := Lib.hid (HBX.out.below hb6 HBX.out.lt)
    have HB6 := Lib.hid (HBL.out.trans (hb6.mono HBL.out.size))
    clear hf h9 hb6 LP LF HX HBX HBL HW
    have b0 := HBX6.out.cell 0
    have b1 := HBX6.out.cell 1
    have b4 := HBX6.out.cell 4
    simp at b0 b1 b4
    go_wp2_with fail
    all_goals exact bodyPost_ret (v := .tuple #[.pointer (some ⟨x, 0, none⟩), .int .i64 7]) (by simp [results, Tryd.results9, go_sem, Result.andThen]) rfl ⟨rfl, HB6.out⟩
set_option maxRecDepth 100000 in
set_option maxHeartbeats 4000000 in
theorem Play_turn_bit {w : World} {x : Nat} {AF AP AK : Option Addr} {nF cF nP cP nK cK a k : Nat} {p N left : Int} {v1 : Value} (hp : 0 ≤ p) (hth : decide (p < (nF : Int)) = true) (hN : N < 0 ∨ 2047 < N) (ha : a % 7 = 5) (h : Blk w x 53 #[.slice AF nF cF, v1, .int .i64 left]) :
    Calls Tryd.prog 9 #[.pointer (some ⟨x, 0, none⟩), .agg #[.int .u8 (a : Int), .int .i64 p, .slice AP nP cP, .slice AK nK cK, .int .i64 N, .int .u32 (k : Int)]] w fun e w' => e = .returned (.tuple #[.pointer (some ⟨x, 0, none⟩), .int .i64 7]) ∧ Below w.heap.size w w' := by
  obtain ⟨b, hb⟩ : ∃ b, w.heap.size = b := ⟨_, rfl⟩
  obtain ⟨W, hW⟩ : ∃ W, w.alloc (.cells #[.int .u8 (a : Int), .int .i64 p, .slice AP nP cP, .slice AK nK cK, .int .i64 N, .int .u32 (k : Int)] 35) = W := ⟨_, rfl⟩
  have hbx := Blk.new w 35 #[.int .u8 (a : Int), .int .i64 p, .slice AP nP cP, .slice AK nK cK, .int .i64 N, .int .u32 (k : Int)]
  have hx := h.alloc (.cells #[.int .u8 (a : Int), .int .i64 p, .slice AP nP cP, .slice AK nK cK, .int .i64 N, .int .u32 (k : Int)] 35)
  have hbl := (Below.refl _ w).alloc (Nat.le_refl _) (.cells #[.int .u8 (a : Int), .int .i64 p, .slice AP nP cP, .slice AK nK cK, .int .i64 N, .int .u32 (k : Int)] 35)
  have hxl := h.lt
  rw [hW] at hbx hx hbl
  rw [hb] at hbx hxl
  have HW := Lib.hid (And.intro hW hb)
  have LP : ∀ W', Below W.heap.size W W' → (Instr.loadAt 3 (.pointer (some ⟨b, 1, none⟩))).run Tryd.prog W' = .ok (.int .i64 p) W' := fun W' hb' => by
    have c0 := (hbx.below hb' hbx.lt).cell 1
    simp at c0
    go_simp
  have LF : ∀ W', Below W.heap.size W W' → (Instr.loadAt 50 (.pointer (some ⟨x, 0, none⟩))).run Tryd.prog W' = .ok (.slice AF nF cF) W' := fun W' hb' => by
    have c0 := (hx.below hb' hx.lt).cell 0
    simp at c0
    go_simp
  have HX := Lib.hid hx
  have HBX := Lib.hid hbx
  have HBL := Lib.hid hbl
  have HXL := Lib.hid hxl
  have hr : ((a : Int)).tmod 7 = 5 := by
    rw [Int.tmod_eq_emod_of_nonneg (by omega)]
    omega
  clear ha
  clear h hbx hx hbl hxl hW hb
  go_enter Tryd.func9, Tryd.ntmps9
  go_wp2_with fail
  rw [HW.out.1, HW.out.2]
  refine wp_region_flow [some 13, some 14, some 15, some 16, some 17, some 18, some 19, some 20, some 21, some 22, some 23, some 24, some 25, some 6] (fun i => ([.is (.pointer (some ⟨b, 1, none⟩)), .is (.int .i64 p), .is (.bool true), .is (.bool true), .is (.pointer (some ⟨b, 1, none⟩)), .is (.int .i64 p), .is (.pointer (some ⟨x, 0, none⟩)), .is (.pointer (some ⟨x, 0, none⟩)), .is (.pointer (some ⟨x, 0, none⟩)), .is (.slice AF nF cF), .is (.int .i64 (nF : Int)), .is (.bool true), .is (.bool true), .is (.bool true)] : List Flw).getD i .any) (by kernel_rfl) (by kernel_rfl) rfl ?_ ?_
  · refine ⟨step_free rfl (fun aF wF hs hb => ?_), ?_⟩
    · obtain ⟨x0, -⟩ := hs
      have e0 : aF.eval (.tmp 3) = .pointer (some ⟨b, 0, none⟩) := x0
      refine opC_value (v := .pointer (some ⟨b, 1, none⟩)) ?_ ⟨rfl, below_same wF⟩
      have t0 := ev_of e0
      simp [execOp, go_sem, t0]
    refine ⟨step_free rfl (fun aF wF hs hb => ?_), ?_⟩
    · obtain ⟨x0, -⟩ := hs
      have e0 : aF.eval (.tmp 13) = .pointer (some ⟨b, 1, none⟩) := x0
      exact opC_load e0 (LP wF hb) ⟨rfl, below_same wF⟩
    refine ⟨step_free rfl (fun aF wF hs hb => ?_), ?_⟩
    · obtain ⟨x0, -⟩ := hs
      have e0 : aF.eval (.tmp 14) = .int .i64 p := x0
      refine opC_value (v := .bool true) ?_ ⟨rfl, below_same wF⟩
      simp [execOp, go_sem, ev_of e0, hp]
    refine ⟨step_free rfl (fun aF wF hs hb => ?_), ?_⟩
    · obtain ⟨x0, -⟩ := hs
      have e0 : aF.eval (.tmp 15) = .bool true := x0
      exact opC_move e0 ⟨rfl, below_same wF⟩
    refine ⟨step_yes 3 16 rfl rfl (fun _ _ h => h) (fun aF wF hs hb => ?_), ?_⟩
    · obtain ⟨x0, -⟩ := hs
      have e0 : aF.eval (.tmp 3) = .pointer (some ⟨b, 0, none⟩) := x0
      refine opC_value (v := .pointer (some ⟨b, 1, none⟩)) ?_ ⟨rfl, below_same wF⟩
      have t0 := ev_of e0
      simp [execOp, go_sem, t0]
    refine ⟨step_yes 3 16 rfl rfl (fun _ _ h => h) (fun aF wF hs hb => ?_), ?_⟩
    · obtain ⟨x0, -⟩ := hs
      have e0 : aF.eval (.tmp 17) = .pointer (some ⟨b, 1, none⟩) := x0
      exact opC_load e0 (LP wF hb) ⟨rfl, below_same wF⟩
    refine ⟨step_yes 3 16 rfl rfl (fun _ _ h => h) (fun aF wF hs hb => ?_), ?_⟩
    · obtain ⟨x0, -⟩ := hs
      have e0 : aF.eval (.tmp 0) = .pointer (some ⟨x, 0, none⟩) := x0
      exact opC_move e0 ⟨rfl, below_same wF⟩
    refine ⟨step_yes 3 16 rfl rfl (fun _ _ h => h) (fun aF wF hs hb => ?_), ?_⟩
    · obtain ⟨x0, -⟩ := hs
      have e0 : aF.eval (.tmp 19) = .pointer (some ⟨x, 0, none⟩) := x0
      refine opC_value (v := .pointer (some ⟨x, 0, none⟩)) ?_ ⟨rfl, below_same wF⟩
      have t0 := ev_of e0
      simp [execOp, go_sem, t0]
    refine ⟨step_yes 3 16 rfl rfl (fun _ _ h => h) (fun aF wF hs hb => ?_), ?_⟩
    · obtain ⟨x0, -⟩ := hs
      have e0 : aF.eval (.tmp 20) = .pointer (some ⟨x, 0, none⟩) := x0
      refine opC_value (v := .pointer (some ⟨x, 0, none⟩)) ?_ ⟨rfl, below_same wF⟩
      have t0 := ev_of e0
      simp [execOp, go_sem, t0]
    refine ⟨step_yes 3 16 rfl rfl (fun _ _ h => h) (fun aF wF hs hb => ?_), ?_⟩
    · obtain ⟨x0, -⟩ := hs
      have e0 : aF.eval (.tmp 21) = .pointer (some ⟨x, 0, none⟩) := x0
      exact opC_load e0 (LF wF hb) ⟨rfl, below_same wF⟩
    refine ⟨step_yes 3 16 rfl rfl (fun _ _ h => h) (fun aF wF hs hb => ?_), ?_⟩
    · obtain ⟨x0, -⟩ := hs
      have e0 : aF.eval (.tmp 22) = .slice AF nF cF := x0
      refine opC_value (v := .int .i64 (nF : Int)) ?_ ⟨rfl, below_same wF⟩
      have t0 := ev_of e0
      simp [execOp, go_sem, t0]
    refine ⟨step_yes 3 16 rfl rfl (fun _ _ h => h) (fun aF wF hs hb => ?_), ?_⟩
    · obtain ⟨x0, x1, -⟩ := hs
      have e0 : aF.eval (.tmp 18) = .int .i64 p := x0
      have e1 : aF.eval (.tmp 23) = .int .i64 (nF : Int) := x1
      refine opC_value (v := .bool true) ?_ ⟨rfl, below_same wF⟩
      simp [execOp, go_sem, ev_of e0, ev_of e1, hth]
    refine ⟨step_free rfl (fun aF wF hs hb => ?_), ?_⟩
    · obtain ⟨x0, x1, -⟩ := hs
      have e0 : aF.eval (.tmp 16) = .bool true := x0
      have e1 : aF.eval (.tmp 24) = .bool true := x1
      refine opC_value (v := .bool true) ?_ ⟨rfl, below_same wF⟩
      have t0 := ev_of e0
      have t1 := ev_of e1
      simp [execOp, go_sem, t0, t1]
    refine ⟨step_free rfl (fun aF wF hs hb => ?_), ?_⟩
    · obtain ⟨x0, -⟩ := hs
      have e0 : aF.eval (.tmp 25) = .bool true := x0
      exact opC_assign e0 ⟨rfl, below_same wF⟩
    exact trivial
  · intro f w6 hf hb6
    have h9 : f 13 = .bool true := hf 13 6 rfl
    simp only [putF, Act.put, List.setIfInBounds_toArray, List.set_cons_zero, List.set_cons_succ]
    rw [h9]
    have HX6 := Lib.hid (HX.out.below hb6 HX.out.lt)
    have HBX6 := Lib.hid (HBX.out.below hb6 HBX.out.lt)
    have HB6 := Lib.hid (HBL.out.trans (hb6.mono HBL.out.size))
    clear hf h9 hb6 LP LF HX HBX HBL HW
    have b0 := HBX6.out.cell 0
    have b1 := HBX6.out.cell 1
    have b4 := HBX6.out.cell 4
    simp at b0 b1 b4
    rcases hN with hN | hN
    · go_wp2_with fail
      all_goals exact bodyPost_ret (v := .tuple #[.pointer (some ⟨x, 0, none⟩), .int .i64 7]) (by simp [results, Tryd.results9, go_sem, Result.andThen]) rfl ⟨rfl, HB6.out⟩
    · have hN0 : ¬ N < 0 := by omega
      go_wp2_with fail
      all_goals exact bodyPost_ret (v := .tuple #[.pointer (some ⟨x, 0, none⟩), .int .i64 7]) (by simp [results, Tryd.results9, go_sem, Result.andThen]) rfl ⟨rfl, HB6.out⟩
set_option maxRecDepth 100000 in
set_option maxHeartbeats 4000000 in
theorem Play_write_long {w : World} {x : Nat} {AF AP AK : Option Addr} {nF cF nP cP nK cK a k : Nat} {p N left : Int} {v1 : Value} (hp : 0 ≤ p) (hth : decide (p < (nF : Int)) = true) (hP : (256 : Int) < (nP : Int)) (ha : a % 7 < 3) (h : Blk w x 53 #[.slice AF nF cF, v1, .int .i64 left]) :
    Calls Tryd.prog 9 #[.pointer (some ⟨x, 0, none⟩), .agg #[.int .u8 (a : Int), .int .i64 p, .slice AP nP cP, .slice AK nK cK, .int .i64 N, .int .u32 (k : Int)]] w fun e w' => e = .returned (.tuple #[.pointer (some ⟨x, 0, none⟩), .int .i64 4]) ∧ Below w.heap.size w w' := by
  obtain ⟨b, hb⟩ : ∃ b, w.heap.size = b := ⟨_, rfl⟩
  obtain ⟨W, hW⟩ : ∃ W, w.alloc (.cells #[.int .u8 (a : Int), .int .i64 p, .slice AP nP cP, .slice AK nK cK, .int .i64 N, .int .u32 (k : Int)] 35) = W := ⟨_, rfl⟩
  have hbx := Blk.new w 35 #[.int .u8 (a : Int), .int .i64 p, .slice AP nP cP, .slice AK nK cK, .int .i64 N, .int .u32 (k : Int)]
  have hx := h.alloc (.cells #[.int .u8 (a : Int), .int .i64 p, .slice AP nP cP, .slice AK nK cK, .int .i64 N, .int .u32 (k : Int)] 35)
  have hbl := (Below.refl _ w).alloc (Nat.le_refl _) (.cells #[.int .u8 (a : Int), .int .i64 p, .slice AP nP cP, .slice AK nK cK, .int .i64 N, .int .u32 (k : Int)] 35)
  have hxl := h.lt
  rw [hW] at hbx hx hbl
  rw [hb] at hbx hxl
  have HW := Lib.hid (And.intro hW hb)
  have LP : ∀ W', Below W.heap.size W W' → (Instr.loadAt 3 (.pointer (some ⟨b, 1, none⟩))).run Tryd.prog W' = .ok (.int .i64 p) W' := fun W' hb' => by
    have c0 := (hbx.below hb' hbx.lt).cell 1
    simp at c0
    go_simp
  have LF : ∀ W', Below W.heap.size W W' → (Instr.loadAt 50 (.pointer (some ⟨x, 0, none⟩))).run Tryd.prog W' = .ok (.slice AF nF cF) W' := fun W' hb' => by
    have c0 := (hx.below hb' hx.lt).cell 0
    simp at c0
    go_simp
  have HX := Lib.hid hx
  have HBX := Lib.hid hbx
  have HBL := Lib.hid hbl
  have HXL := Lib.hid hxl
  obtain ⟨r, hrr⟩ : ∃ r : Int, ((a : Int)).tmod 7 = r := ⟨_, rfl⟩
  have hr9 : r = ((a % 7 : Nat) : Int) := by
    rw [← hrr, Int.tmod_eq_emod_of_nonneg (by omega)]
    omega
  have r3 : ¬ r = 3 := by omega
  have r4 : ¬ r = 4 := by omega
  have r5 : ¬ r = 5 := by omega
  have r6 : ¬ r = 6 := by omega
  clear ha hr9
  clear h hbx hx hbl hxl hW hb
  go_enter Tryd.func9, Tryd.ntmps9
  go_wp2_with fail
  rw [HW.out.1, HW.out.2]
  refine wp_region_flow [some 13, some 14, some 15, some 16, some 17, some 18, some 19, some 20, some 21, some 22, some 23, some 24, some 25, some 6] (fun i => ([.is (.pointer (some ⟨b, 1, none⟩)), .is (.int .i64 p), .is (.bool true), .is (.bool true), .is (.pointer (some ⟨b, 1, none⟩)), .is (.int .i64 p), .is (.pointer (some ⟨x, 0, none⟩)), .is (.pointer (some ⟨x, 0, none⟩)), .is (.pointer (some ⟨x, 0, none⟩)), .is (.slice AF nF cF), .is (.int .i64 (nF : Int)), .is (.bool true), .is (.bool true), .is (.bool true)] : List Flw).getD i .any) (by kernel_rfl) (by kernel_rfl) rfl ?_ ?_
  · refine ⟨step_free rfl (fun aF wF hs hb => ?_), ?_⟩
    · obtain ⟨x0, -⟩ := hs
      have e0 : aF.eval (.tmp 3) = .pointer (some ⟨b, 0, none⟩) := x0
      refine opC_value (v := .pointer (some ⟨b, 1, none⟩)) ?_ ⟨rfl, below_same wF⟩
      have t0 := ev_of e0
      simp [execOp, go_sem, t0]
    refine ⟨step_free rfl (fun aF wF hs hb => ?_), ?_⟩
    · obtain ⟨x0, -⟩ := hs
      have e0 : aF.eval (.tmp 13) = .pointer (some ⟨b, 1, none⟩) := x0
      exact opC_load e0 (LP wF hb) ⟨rfl, below_same wF⟩
    refine ⟨step_free rfl (fun aF wF hs hb => ?_), ?_⟩
    · obtain ⟨x0, -⟩ := hs
      have e0 : aF.eval (.tmp 14) = .int .i64 p := x0
      refine opC_value (v := .bool true) ?_ ⟨rfl, below_same wF⟩
      simp [execOp, go_sem, ev_of e0, hp]
    refine ⟨step_free rfl (fun aF wF hs hb => ?_), ?_⟩
    · obtain ⟨x0, -⟩ := hs
      have e0 : aF.eval (.tmp 15) = .bool true := x0
      exact opC_move e0 ⟨rfl, below_same wF⟩
    refine ⟨step_yes 3 16 rfl rfl (fun _ _ h => h) (fun aF wF hs hb => ?_), ?_⟩
    · obtain ⟨x0, -⟩ := hs
      have e0 : aF.eval (.tmp 3) = .pointer (some ⟨b, 0, none⟩) := x0
      refine opC_value (v := .pointer (some ⟨b, 1, none⟩)) ?_ ⟨rfl, below_same wF⟩
      have t0 := ev_of e0
      simp [execOp, go_sem, t0]
    refine ⟨step_yes 3 16 rfl rfl (fun _ _ h => h) (fun aF wF hs hb => ?_), ?_⟩
    · obtain ⟨x0, -⟩ := hs
      have e0 : aF.eval (.tmp 17) = .pointer (some ⟨b, 1, none⟩) := x0
      exact opC_load e0 (LP wF hb) ⟨rfl, below_same wF⟩
    refine ⟨step_yes 3 16 rfl rfl (fun _ _ h => h) (fun aF wF hs hb => ?_), ?_⟩
    · obtain ⟨x0, -⟩ := hs
      have e0 : aF.eval (.tmp 0) = .pointer (some ⟨x, 0, none⟩) := x0
      exact opC_move e0 ⟨rfl, below_same wF⟩
    refine ⟨step_yes 3 16 rfl rfl (fun _ _ h => h) (fun aF wF hs hb => ?_), ?_⟩
    · obtain ⟨x0, -⟩ := hs
      have e0 : aF.eval (.tmp 19) = .pointer (some ⟨x, 0, none⟩) := x0
      refine opC_value (v := .pointer (some ⟨x, 0, none⟩)) ?_ ⟨rfl, below_same wF⟩
      have t0 := ev_of e0
      simp [execOp, go_sem, t0]
    refine ⟨step_yes 3 16 rfl rfl (fun _ _ h => h) (fun aF wF hs hb => ?_), ?_⟩
    · obtain ⟨x0, -⟩ := hs
      have e0 : aF.eval (.tmp 20) = .pointer (some ⟨x, 0, none⟩) := x0
      refine opC_value (v := .pointer (some ⟨x, 0, none⟩)) ?_ ⟨rfl, below_same wF⟩
      have t0 := ev_of e0
      simp [execOp, go_sem, t0]
    refine ⟨step_yes 3 16 rfl rfl (fun _ _ h => h) (fun aF wF hs hb => ?_), ?_⟩
    · obtain ⟨x0, -⟩ := hs
      have e0 : aF.eval (.tmp 21) = .pointer (some ⟨x, 0, none⟩) := x0
      exact opC_load e0 (LF wF hb) ⟨rfl, below_same wF⟩
    refine ⟨step_yes 3 16 rfl rfl (fun _ _ h => h) (fun aF wF hs hb => ?_), ?_⟩
    · obtain ⟨x0, -⟩ := hs
      have e0 : aF.eval (.tmp 22) = .slice AF nF cF := x0
      refine opC_value (v := .int .i64 (nF : Int)) ?_ ⟨rfl, below_same wF⟩
      have t0 := ev_of e0
      simp [execOp, go_sem, t0]
    refine ⟨step_yes 3 16 rfl rfl (fun _ _ h => h) (fun aF wF hs hb => ?_), ?_⟩
    · obtain ⟨x0, x1, -⟩ := hs
      have e0 : aF.eval (.tmp 18) = .int .i64 p := x0
      have e1 : aF.eval (.tmp 23) = .int .i64 (nF : Int) := x1
      refine opC_value (v := .bool true) ?_ ⟨rfl, below_same wF⟩
      simp [execOp, go_sem, ev_of e0, ev_of e1, hth]
    refine ⟨step_free rfl (fun aF wF hs hb => ?_), ?_⟩
    · obtain ⟨x0, x1, -⟩ := hs
      have e0 : aF.eval (.tmp 16) = .bool true := x0
      have e1 : aF.eval (.tmp 24) = .bool true := x1
      refine opC_value (v := .bool true) ?_ ⟨rfl, below_same wF⟩
      have t0 := ev_of e0
      have t1 := ev_of e1
      simp [execOp, go_sem, t0, t1]
    refine ⟨step_free rfl (fun aF wF hs hb => ?_), ?_⟩
    · obtain ⟨x0, -⟩ := hs
      have e0 : aF.eval (.tmp 25) = .bool true := x0
      exact opC_assign e0 ⟨rfl, below_same wF⟩
    exact trivial
  · intro f w6 hf hb6
    have h9 : f 13 = .bool true := hf 13 6 rfl
    simp only [putF, Act.put, List.setIfInBounds_toArray, List.set_cons_zero, List.set_cons_succ]
    rw [h9]
    have HX6 := Lib.hid (HX.out.below hb6 HX.out.lt)
    have HBX6 := Lib.hid (HBX.out.below hb6 HBX.out.lt)
    have HB6 := Lib.hid (HBL.out.trans (hb6.mono HBL.out.size))
    clear hf h9 hb6 LP LF HX HBX HBL HW
    have b0 := HBX6.out.cell 0
    have b1 := HBX6.out.cell 1
    have b4 := HBX6.out.cell 4
    simp at b0 b1 b4
    have b2 := HBX6.out.cell 2
    simp at b2
    go_wp2_with fail
    all_goals exact bodyPost_ret (v := .tuple #[.pointer (some ⟨x, 0, none⟩), .int .i64 4]) (by simp [results, Tryd.results9, go_sem, Result.andThen]) rfl ⟨rfl, HB6.out⟩
set_option maxRecDepth 100000 in
set_option maxHeartbeats 4000000 in
theorem Play_write_off {w : World} {x : Nat} {AF AP AK : Option Addr} {nF cF nP cP nK cK a k : Nat} {p N left : Int} {v1 : Value} (hp : 0 ≤ p) (hth : decide (p < (nF : Int)) = true) (hP : (nP : Int) ≤ 256) (hl : left = 0) (ha : a % 7 < 3) (h : Blk w x 53 #[.slice AF nF cF, v1, .int .i64 left]) :
    Calls Tryd.prog 9 #[.pointer (some ⟨x, 0, none⟩), .agg #[.int .u8 (a : Int), .int .i64 p, .slice AP nP cP, .slice AK nK cK, .int .i64 N, .int .u32 (k : Int)]] w fun e w' => e = .returned (.tuple #[.pointer (some ⟨x, 0, none⟩), .int .i64 8]) ∧ Below w.heap.size w w' := by
  obtain ⟨b, hb⟩ : ∃ b, w.heap.size = b := ⟨_, rfl⟩
  obtain ⟨W, hW⟩ : ∃ W, w.alloc (.cells #[.int .u8 (a : Int), .int .i64 p, .slice AP nP cP, .slice AK nK cK, .int .i64 N, .int .u32 (k : Int)] 35) = W := ⟨_, rfl⟩
  have hbx := Blk.new w 35 #[.int .u8 (a : Int), .int .i64 p, .slice AP nP cP, .slice AK nK cK, .int .i64 N, .int .u32 (k : Int)]
  have hx := h.alloc (.cells #[.int .u8 (a : Int), .int .i64 p, .slice AP nP cP, .slice AK nK cK, .int .i64 N, .int .u32 (k : Int)] 35)
  have hbl := (Below.refl _ w).alloc (Nat.le_refl _) (.cells #[.int .u8 (a : Int), .int .i64 p, .slice AP nP cP, .slice AK nK cK, .int .i64 N, .int .u32 (k : Int)] 35)
  have hxl := h.lt
  rw [hW] at hbx hx hbl
  rw [hb] at hbx hxl
  have HW := Lib.hid (And.intro hW hb)
  have LP : ∀ W', Below W.heap.size W W' → (Instr.loadAt 3 (.pointer (some ⟨b, 1, none⟩))).run Tryd.prog W' = .ok (.int .i64 p) W' := fun W' hb' => by
    have c0 := (hbx.below hb' hbx.lt).cell 1
    simp at c0
    go_simp
  have LF : ∀ W', Below W.heap.size W W' → (Instr.loadAt 50 (.pointer (some ⟨x, 0, none⟩))).run Tryd.prog W' = .ok (.slice AF nF cF) W' := fun W' hb' => by
    have c0 := (hx.below hb' hx.lt).cell 0
    simp at c0
    go_simp
  have HX := Lib.hid hx
  have HBX := Lib.hid hbx
  have HBL := Lib.hid hbl
  have HXL := Lib.hid hxl
  obtain ⟨r, hrr⟩ : ∃ r : Int, ((a : Int)).tmod 7 = r := ⟨_, rfl⟩
  have hr9 : r = ((a % 7 : Nat) : Int) := by
    rw [← hrr, Int.tmod_eq_emod_of_nonneg (by omega)]
    omega
  have r3 : ¬ r = 3 := by omega
  have r4 : ¬ r = 4 := by omega
  have r5 : ¬ r = 5 := by omega
  have r6 : ¬ r = 6 := by omega
  clear ha hr9
  subst hl
  clear h hbx hx hbl hxl hW hb
  go_enter Tryd.func9, Tryd.ntmps9
  go_wp2_with fail
  rw [HW.out.1, HW.out.2]
  refine wp_region_flow [some 13, some 14, some 15, some 16, some 17, some 18, some 19, some 20, some 21, some 22, some 23, some 24, some 25, some 6] (fun i => ([.is (.pointer (some ⟨b, 1, none⟩)), .is (.int .i64 p), .is (.bool true), .is (.bool true), .is (.pointer (some ⟨b, 1, none⟩)), .is (.int .i64 p), .is (.pointer (some ⟨x, 0, none⟩)), .is (.pointer (some ⟨x, 0, none⟩)), .is (.pointer (some ⟨x, 0, none⟩)), .is (.slice AF nF cF), .is (.int .i64 (nF : Int)), .is (.bool true), .is (.bool true), .is (.bool true)] : List Flw).getD i .any) (by kernel_rfl) (by kernel_rfl) rfl ?_ ?_
  · refine ⟨step_free rfl (fun aF wF hs hb => ?_), ?_⟩
    · obtain ⟨x0, -⟩ := hs
      have e0 : aF.eval (.tmp 3) = .pointer (some ⟨b, 0, none⟩) := x0
      refine opC_value (v := .pointer (some ⟨b, 1, none⟩)) ?_ ⟨rfl, below_same wF⟩
      have t0 := ev_of e0
      simp [execOp, go_sem, t0]
    refine ⟨step_free rfl (fun aF wF hs hb => ?_), ?_⟩
    · obtain ⟨x0, -⟩ := hs
      have e0 : aF.eval (.tmp 13) = .pointer (some ⟨b, 1, none⟩) := x0
      exact opC_load e0 (LP wF hb) ⟨rfl, below_same wF⟩
    refine ⟨step_free rfl (fun aF wF hs hb => ?_), ?_⟩
    · obtain ⟨x0, -⟩ := hs
      have e0 : aF.eval (.tmp 14) = .int .i64 p := x0
      refine opC_value (v := .bool true) ?_ ⟨rfl, below_same wF⟩
      simp [execOp, go_sem, ev_of e0, hp]
    refine ⟨step_free rfl (fun aF wF hs hb => ?_), ?_⟩
    · obtain ⟨x0, -⟩ := hs
      have e0 : aF.eval (.tmp 15) = .bool true := x0
      exact opC_move e0 ⟨rfl, below_same wF⟩
    refine ⟨step_yes 3 16 rfl rfl (fun _ _ h => h) (fun aF wF hs hb => ?_), ?_⟩
    · obtain ⟨x0, -⟩ := hs
      have e0 : aF.eval (.tmp 3) = .pointer (some ⟨b, 0, none⟩) := x0
      refine opC_value (v := .pointer (some ⟨b, 1, none⟩)) ?_ ⟨rfl, below_same wF⟩
      have t0 := ev_of e0
      simp [execOp, go_sem, t0]
    refine ⟨step_yes 3 16 rfl rfl (fun _ _ h => h) (fun aF wF hs hb => ?_), ?_⟩
    · obtain ⟨x0, -⟩ := hs
      have e0 : aF.eval (.tmp 17) = .pointer (some ⟨b, 1, none⟩) := x0
      exact opC_load e0 (LP wF hb) ⟨rfl, below_same wF⟩
    refine ⟨step_yes 3 16 rfl rfl (fun _ _ h => h) (fun aF wF hs hb => ?_), ?_⟩
    · obtain ⟨x0, -⟩ := hs
      have e0 : aF.eval (.tmp 0) = .pointer (some ⟨x, 0, none⟩) := x0
      exact opC_move e0 ⟨rfl, below_same wF⟩
    refine ⟨step_yes 3 16 rfl rfl (fun _ _ h => h) (fun aF wF hs hb => ?_), ?_⟩
    · obtain ⟨x0, -⟩ := hs
      have e0 : aF.eval (.tmp 19) = .pointer (some ⟨x, 0, none⟩) := x0
      refine opC_value (v := .pointer (some ⟨x, 0, none⟩)) ?_ ⟨rfl, below_same wF⟩
      have t0 := ev_of e0
      simp [execOp, go_sem, t0]
    refine ⟨step_yes 3 16 rfl rfl (fun _ _ h => h) (fun aF wF hs hb => ?_), ?_⟩
    · obtain ⟨x0, -⟩ := hs
      have e0 : aF.eval (.tmp 20) = .pointer (some ⟨x, 0, none⟩) := x0
      refine opC_value (v := .pointer (some ⟨x, 0, none⟩)) ?_ ⟨rfl, below_same wF⟩
      have t0 := ev_of e0
      simp [execOp, go_sem, t0]
    refine ⟨step_yes 3 16 rfl rfl (fun _ _ h => h) (fun aF wF hs hb => ?_), ?_⟩
    · obtain ⟨x0, -⟩ := hs
      have e0 : aF.eval (.tmp 21) = .pointer (some ⟨x, 0, none⟩) := x0
      exact opC_load e0 (LF wF hb) ⟨rfl, below_same wF⟩
    refine ⟨step_yes 3 16 rfl rfl (fun _ _ h => h) (fun aF wF hs hb => ?_), ?_⟩
    · obtain ⟨x0, -⟩ := hs
      have e0 : aF.eval (.tmp 22) = .slice AF nF cF := x0
      refine opC_value (v := .int .i64 (nF : Int)) ?_ ⟨rfl, below_same wF⟩
      have t0 := ev_of e0
      simp [execOp, go_sem, t0]
    refine ⟨step_yes 3 16 rfl rfl (fun _ _ h => h) (fun aF wF hs hb => ?_), ?_⟩
    · obtain ⟨x0, x1, -⟩ := hs
      have e0 : aF.eval (.tmp 18) = .int .i64 p := x0
      have e1 : aF.eval (.tmp 23) = .int .i64 (nF : Int) := x1
      refine opC_value (v := .bool true) ?_ ⟨rfl, below_same wF⟩
      simp [execOp, go_sem, ev_of e0, ev_of e1, hth]
    refine ⟨step_free rfl (fun aF wF hs hb => ?_), ?_⟩
    · obtain ⟨x0, x1, -⟩ := hs
      have e0 : aF.eval (.tmp 16) = .bool true := x0
      have e1 : aF.eval (.tmp 24) = .bool true := x1
      refine opC_value (v := .bool true) ?_ ⟨rfl, below_same wF⟩
      have t0 := ev_of e0
      have t1 := ev_of e1
      simp [execOp, go_sem, t0, t1]
    refine ⟨step_free rfl (fun aF wF hs hb => ?_), ?_⟩
    · obtain ⟨x0, -⟩ := hs
      have e0 : aF.eval (.tmp 25) = .bool true := x0
      exact opC_assign e0 ⟨rfl, below_same wF⟩
    exact trivial
  · intro f w6 hf hb6
    have h9 : f 13 = .bool true := hf 13 6 rfl
    simp only [putF, Act.put, List.setIfInBounds_toArray, List.set_cons_zero, List.set_cons_succ]
    rw [h9]
    have HX6 := Lib.hid (HX.out.below hb6 HX.out.lt)
    have HBX6 := Lib.hid (HBX.out.below hb6 HBX.out.lt)
    have HB6 := Lib.hid (HBL.out.trans (hb6.mono HBL.out.size))
    clear hf h9 hb6 LP LF HX HBX HBL HW
    have b0 := HBX6.out.cell 0
    have b1 := HBX6.out.cell 1
    have b4 := HBX6.out.cell 4
    simp at b0 b1 b4
    have b2 := HBX6.out.cell 2
    simp at b2
    have hP2 : ¬ (256 : Int) < (nP : Int) := by omega
    go_wp2_with fail
    refine (off_zero HX6.out).mono ?_
    rintro e w7 ⟨rfl, rfl⟩
    go_wp2_with fail
    all_goals exact bodyPost_ret (v := .tuple #[.pointer (some ⟨x, 0, none⟩), .int .i64 8]) (by simp [results, Tryd.results9, go_sem, Result.andThen]) rfl ⟨rfl, HB6.out⟩
set_option maxRecDepth 100000 in
set_option maxHeartbeats 4000000 in
theorem Play_flush_off_neg {w : World} {x : Nat} {AF AP AK : Option Addr} {nF cF nP cP nK cK a k : Nat} {p N left : Int} {v1 : Value} (hp : ¬ 0 ≤ p) (hl : left = 0) (ha : a % 7 = 3) (h : Blk w x 53 #[.slice AF nF cF, v1, .int .i64 left]) :
    Calls Tryd.prog 9 #[.pointer (some ⟨x, 0, none⟩), .agg #[.int .u8 (a : Int), .int .i64 p, .slice AP nP cP, .slice AK nK cK, .int .i64 N, .int .u32 (k : Int)]] w fun e w' => e = .returned (.tuple #[.pointer (some ⟨x, 0, none⟩), .int .i64 8]) ∧ Below w.heap.size w w' := by
  obtain ⟨b, hb⟩ : ∃ b, w.heap.size = b := ⟨_, rfl⟩
  obtain ⟨W, hW⟩ : ∃ W, w.alloc (.cells #[.int .u8 (a : Int), .int .i64 p, .slice AP nP cP, .slice AK nK cK, .int .i64 N, .int .u32 (k : Int)] 35) = W := ⟨_, rfl⟩
  have hbx := Blk.new w 35 #[.int .u8 (a : Int), .int .i64 p, .slice AP nP cP, .slice AK nK cK, .int .i64 N, .int .u32 (k : Int)]
  have hx := h.alloc (.cells #[.int .u8 (a : Int), .int .i64 p, .slice AP nP cP, .slice AK nK cK, .int .i64 N, .int .u32 (k : Int)] 35)
  have hbl := (Below.refl _ w).alloc (Nat.le_refl _) (.cells #[.int .u8 (a : Int), .int .i64 p, .slice AP nP cP, .slice AK nK cK, .int .i64 N, .int .u32 (k : Int)] 35)
  have hxl := h.lt
  rw [hW] at hbx hx hbl
  rw [hb] at hbx hxl
  have HW := Lib.hid (And.intro hW hb)
  have LP : ∀ W', Below W.heap.size W W' → (Instr.loadAt 3 (.pointer (some ⟨b, 1, none⟩))).run Tryd.prog W' = .ok (.int .i64 p) W' := fun W' hb' => by
    have c0 := (hbx.below hb' hbx.lt).cell 1
    simp at c0
    go_simp
  have LF : ∀ W', Below W.heap.size W W' → (Instr.loadAt 50 (.pointer (some ⟨x, 0, none⟩))).run Tryd.prog W' = .ok (.slice AF nF cF) W' := fun W' hb' => by
    have c0 := (hx.below hb' hx.lt).cell 0
    simp at c0
    go_simp
  have HX := Lib.hid hx
  have HBX := Lib.hid hbx
  have HBL := Lib.hid hbl
  have HXL := Lib.hid hxl
  have hr : ((a : Int)).tmod 7 = 3 := by
    rw [Int.tmod_eq_emod_of_nonneg (by omega)]
    omega
  clear ha
  subst hl
  clear h hbx hx hbl hxl hW hb
  go_enter Tryd.func9, Tryd.ntmps9
  go_wp2_with fail
  rw [HW.out.1, HW.out.2]
  refine wp_region_flow [some 13, some 14, some 15, some 16, some 17, some 18, some 19, some 20, some 21, some 22, some 23, some 24, some 25, some 6] (fun i => ([.is (.pointer (some ⟨b, 1, none⟩)), .is (.int .i64 p), .is (.bool false), .is (.bool false), .is undef, .is undef, .is undef, .is undef, .is undef, .is undef, .is undef, .is undef, .is (.bool false), .is (.bool false)] : List Flw).getD i .any) (by kernel_rfl) (by kernel_rfl) rfl ?_ ?_
  · refine ⟨step_free rfl (fun aF wF hs hb => ?_), ?_⟩
    · obtain ⟨x0, -⟩ := hs
      have e0 : aF.eval (.tmp 3) = .pointer (some ⟨b, 0, none⟩) := x0
      refine opC_value (v := .pointer (some ⟨b, 1, none⟩)) ?_ ⟨rfl, below_same wF⟩
      have t0 := ev_of e0
      simp [execOp, go_sem, t0]
    refine ⟨step_free rfl (fun aF wF hs hb => ?_), ?_⟩
    · obtain ⟨x0, -⟩ := hs
      have e0 : aF.eval (.tmp 13) = .pointer (some ⟨b, 1, none⟩) := x0
      exact opC_load e0 (LP wF hb) ⟨rfl, below_same wF⟩
    refine ⟨step_free rfl (fun aF wF hs hb => ?_), ?_⟩
    · obtain ⟨x0, -⟩ := hs
      have e0 : aF.eval (.tmp 14) = .int .i64 p := x0
      refine opC_value (v := .bool false) ?_ ⟨rfl, below_same wF⟩
      simp [execOp, go_sem, ev_of e0, hp]
    refine ⟨step_free rfl (fun aF wF hs hb => ?_), ?_⟩
    · obtain ⟨x0, -⟩ := hs
      have e0 : aF.eval (.tmp 15) = .bool false := x0
      exact opC_move e0 ⟨rfl, below_same wF⟩
    refine ⟨step_no 3 16 rfl rfl (fun _ _ h => h) (fun _ => rfl), ?_⟩
    refine ⟨step_no 3 16 rfl rfl (fun _ _ h => h) (fun _ => rfl), ?_⟩
    refine ⟨step_no 3 16 rfl rfl (fun _ _ h => h) (fun _ => rfl), ?_⟩
    refine ⟨step_no 3 16 rfl rfl (fun _ _ h => h) (fun _ => rfl), ?_⟩
    refine ⟨step_no 3 16 rfl rfl (fun _ _ h => h) (fun _ => rfl), ?_⟩
    refine ⟨step_no 3 16 rfl rfl (fun _ _ h => h) (fun _ => rfl), ?_⟩
    refine ⟨step_no 3 16 rfl rfl (fun _ _ h => h) (fun _ => rfl), ?_⟩
    refine ⟨step_no 3 16 rfl rfl (fun _ _ h => h) (fun _ => rfl), ?_⟩
    refine ⟨step_free rfl (fun aF wF hs hb => ?_), ?_⟩
    · obtain ⟨x0, x1, -⟩ := hs
      have e0 : aF.eval (.tmp 16) = .bool false := x0
      have e1 : aF.eval (.tmp 24) = undef := x1
      refine opC_value (v := .bool false) ?_ ⟨rfl, below_same wF⟩
      have t0 := ev_of e0
      have t1 := ev_of e1
      simp [execOp, go_sem, t0, t1]
    refine ⟨step_free rfl (fun aF wF hs hb => ?_), ?_⟩
    · obtain ⟨x0, -⟩ := hs
      have e0 : aF.eval (.tmp 25) = .bool false := x0
      exact opC_assign e0 ⟨rfl, below_same wF⟩
    exact trivial
  · intro f w6 hf hb6
    have h9 : f 13 = .bool false := hf 13 6 rfl
    simp only [putF, Act.put, List.setIfInBounds_toArray, List.set_cons_zero, List.set_cons_succ]
    rw [h9]
    have HX6 := Lib.hid (HX.out.below hb6 HX.out.lt)
    have HBX6 := Lib.hid (HBX.out.below hb6 HBX.out.lt)
    have HB6 := Lib.hid (HBL.out.trans (hb6.mono HBL.out.size))
    clear hf h9 hb6 LP LF HX HBX HBL HW
    have b0 := HBX6.out.cell 0
    have b1 := HBX6.out.cell 1
    have b4 := HBX6.out.cell 4
    simp at b0 b1 b4
    go_wp2_with fail
    refine (off_zero HX6.out).mono ?_
    rintro e w7 ⟨rfl, rfl⟩
    go_wp2_with fail
    all_goals exact bodyPost_ret (v := .tuple #[.pointer (some ⟨x, 0, none⟩), .int .i64 8]) (by simp [results, Tryd.results9, go_sem, Result.andThen]) rfl ⟨rfl, HB6.out⟩
set_option maxRecDepth 100000 in
set_option maxHeartbeats 4000000 in
theorem Play_flush_off_pos {w : World} {x : Nat} {AF AP AK : Option Addr} {nF cF nP cP nK cK a k : Nat} {p N left : Int} {v1 : Value} (hp : 0 ≤ p) {th : Bool} (hth : decide (p < (nF : Int)) = th) (hl : left = 0) (ha : a % 7 = 3) (h : Blk w x 53 #[.slice AF nF cF, v1, .int .i64 left]) :
    Calls Tryd.prog 9 #[.pointer (some ⟨x, 0, none⟩), .agg #[.int .u8 (a : Int), .int .i64 p, .slice AP nP cP, .slice AK nK cK, .int .i64 N, .int .u32 (k : Int)]] w fun e w' => e = .returned (.tuple #[.pointer (some ⟨x, 0, none⟩), .int .i64 8]) ∧ Below w.heap.size w w' := by
  obtain ⟨b, hb⟩ : ∃ b, w.heap.size = b := ⟨_, rfl⟩
  obtain ⟨W, hW⟩ : ∃ W, w.alloc (.cells #[.int .u8 (a : Int), .int .i64 p, .slice AP nP cP, .slice AK nK cK, .int .i64 N, .int .u32 (k : Int)] 35) = W := ⟨_, rfl⟩
  have hbx := Blk.new w 35 #[.int .u8 (a : Int), .int .i64 p, .slice AP nP cP, .slice AK nK cK, .int .i64 N, .int .u32 (k : Int)]
  have hx := h.alloc (.cells #[.int .u8 (a : Int), .int .i64 p, .slice AP nP cP, .slice AK nK cK, .int .i64 N, .int .u32 (k : Int)] 35)
  have hbl := (Below.refl _ w).alloc (Nat.le_refl _) (.cells #[.int .u8 (a : Int), .int .i64 p, .slice AP nP cP, .slice AK nK cK, .int .i64 N, .int .u32 (k : Int)] 35)
  have hxl := h.lt
  rw [hW] at hbx hx hbl
  rw [hb] at hbx hxl
  have HW := Lib.hid (And.intro hW hb)
  have LP : ∀ W', Below W.heap.size W W' → (Instr.loadAt 3 (.pointer (some ⟨b, 1, none⟩))).run Tryd.prog W' = .ok (.int .i64 p) W' := fun W' hb' => by
    have c0 := (hbx.below hb' hbx.lt).cell 1
    simp at c0
    go_simp
  have LF : ∀ W', Below W.heap.size W W' → (Instr.loadAt 50 (.pointer (some ⟨x, 0, none⟩))).run Tryd.prog W' = .ok (.slice AF nF cF) W' := fun W' hb' => by
    have c0 := (hx.below hb' hx.lt).cell 0
    simp at c0
    go_simp
  have HX := Lib.hid hx
  have HBX := Lib.hid hbx
  have HBL := Lib.hid hbl
  have HXL := Lib.hid hxl
  have hr : ((a : Int)).tmod 7 = 3 := by
    rw [Int.tmod_eq_emod_of_nonneg (by omega)]
    omega
  clear ha
  subst hl
  clear h hbx hx hbl hxl hW hb
  go_enter Tryd.func9, Tryd.ntmps9
  go_wp2_with fail
  rw [HW.out.1, HW.out.2]
  refine wp_region_flow [some 13, some 14, some 15, some 16, some 17, some 18, some 19, some 20, some 21, some 22, some 23, some 24, some 25, some 6] (fun i => ([.is (.pointer (some ⟨b, 1, none⟩)), .is (.int .i64 p), .is (.bool true), .is (.bool true), .is (.pointer (some ⟨b, 1, none⟩)), .is (.int .i64 p), .is (.pointer (some ⟨x, 0, none⟩)), .is (.pointer (some ⟨x, 0, none⟩)), .is (.pointer (some ⟨x, 0, none⟩)), .is (.slice AF nF cF), .is (.int .i64 (nF : Int)), .is (.bool th), .is (.bool th), .is (.bool th)] : List Flw).getD i .any) (by kernel_rfl) (by kernel_rfl) rfl ?_ ?_
  · refine ⟨step_free rfl (fun aF wF hs hb => ?_), ?_⟩
    · obtain ⟨x0, -⟩ := hs
      have e0 : aF.eval (.tmp 3) = .pointer (some ⟨b, 0, none⟩) := x0
      refine opC_value (v := .pointer (some ⟨b, 1, none⟩)) ?_ ⟨rfl, below_same wF⟩
      have t0 := ev_of e0
      simp [execOp, go_sem, t0]
    refine ⟨step_free rfl (fun aF wF hs hb => ?_), ?_⟩
    · obtain ⟨x0, -⟩ := hs
      have e0 : aF.eval (.tmp 13) = .pointer (some ⟨b, 1, none⟩) := x0
      exact opC_load e0 (LP wF hb) ⟨rfl, below_same wF⟩
    refine ⟨step_free rfl (fun aF wF hs hb => ?_), ?_⟩
    · obtain ⟨x0, -⟩ := hs
      have e0 : aF.eval (.tmp 14) = .int .i64 p := x0
      refine opC_value (v := .bool true) ?_ ⟨rfl, below_same wF⟩
      simp [execOp, go_sem, ev_of e0, hp]
    refine ⟨step_free rfl (fun aF wF hs hb => ?_), ?_⟩
    · obtain ⟨x0, -⟩ := hs
      have e0 : aF.eval (.tmp 15) = .bool true := x0
      exact opC_move e0 ⟨rfl, below_same wF⟩
    refine ⟨step_yes 3 16 rfl rfl (fun _ _ h => h) (fun aF wF hs hb => ?_), ?_⟩
    · obtain ⟨x0, -⟩ := hs
      have e0 : aF.eval (.tmp 3) = .pointer (some ⟨b, 0, none⟩) := x0
      refine opC_value (v := .pointer (some ⟨b, 1, none⟩)) ?_ ⟨rfl, below_same wF⟩
      have t0 := ev_of e0
      simp [execOp, go_sem, t0]
    refine ⟨step_yes 3 16 rfl rfl (fun _ _ h => h) (fun aF wF hs hb => ?_), ?_⟩
    · obtain ⟨x0, -⟩ := hs
      have e0 : aF.eval (.tmp 17) = .pointer (some ⟨b, 1, none⟩) := x0
      exact opC_load e0 (LP wF hb) ⟨rfl, below_same wF⟩
    refine ⟨step_yes 3 16 rfl rfl (fun _ _ h => h) (fun aF wF hs hb => ?_), ?_⟩
    · obtain ⟨x0, -⟩ := hs
      have e0 : aF.eval (.tmp 0) = .pointer (some ⟨x, 0, none⟩) := x0
      exact opC_move e0 ⟨rfl, below_same wF⟩
    refine ⟨step_yes 3 16 rfl rfl (fun _ _ h => h) (fun aF wF hs hb => ?_), ?_⟩
    · obtain ⟨x0, -⟩ := hs
      have e0 : aF.eval (.tmp 19) = .pointer (some ⟨x, 0, none⟩) := x0
      refine opC_value (v := .pointer (some ⟨x, 0, none⟩)) ?_ ⟨rfl, below_same wF⟩
      have t0 := ev_of e0
      simp [execOp, go_sem, t0]
    refine ⟨step_yes 3 16 rfl rfl (fun _ _ h => h) (fun aF wF hs hb => ?_), ?_⟩
    · obtain ⟨x0, -⟩ := hs
      have e0 : aF.eval (.tmp 20) = .pointer (some ⟨x, 0, none⟩) := x0
      refine opC_value (v := .pointer (some ⟨x, 0, none⟩)) ?_ ⟨rfl, below_same wF⟩
      have t0 := ev_of e0
      simp [execOp, go_sem, t0]
    refine ⟨step_yes 3 16 rfl rfl (fun _ _ h => h) (fun aF wF hs hb => ?_), ?_⟩
    · obtain ⟨x0, -⟩ := hs
      have e0 : aF.eval (.tmp 21) = .pointer (some ⟨x, 0, none⟩) := x0
      exact opC_load e0 (LF wF hb) ⟨rfl, below_same wF⟩
    refine ⟨step_yes 3 16 rfl rfl (fun _ _ h => h) (fun aF wF hs hb => ?_), ?_⟩
    · obtain ⟨x0, -⟩ := hs
      have e0 : aF.eval (.tmp 22) = .slice AF nF cF := x0
      refine opC_value (v := .int .i64 (nF : Int)) ?_ ⟨rfl, below_same wF⟩
      have t0 := ev_of e0
      simp [execOp, go_sem, t0]
    refine ⟨step_yes 3 16 rfl rfl (fun _ _ h => h) (fun aF wF hs hb => ?_), ?_⟩
    · obtain ⟨x0, x1, -⟩ := hs
      have e0 : aF.eval (.tmp 18) = .int .i64 p := x0
      have e1 : aF.eval (.tmp 23) = .int .i64 (nF : Int) := x1
      refine opC_value (v := .bool th) ?_ ⟨rfl, below_same wF⟩
      simp [execOp, go_sem, ev_of e0, ev_of e1, hth]
    refine ⟨step_free rfl (fun aF wF hs hb => ?_), ?_⟩
    · obtain ⟨x0, x1, -⟩ := hs
      have e0 : aF.eval (.tmp 16) = .bool true := x0
      have e1 : aF.eval (.tmp 24) = .bool th := x1
      refine opC_value (v := .bool th) ?_ ⟨rfl, below_same wF⟩
      have t0 := ev_of e0
      have t1 := ev_of e1
      simp [execOp, go_sem, t0, t1]
    refine ⟨step_free rfl (fun aF wF hs hb => ?_), ?_⟩
    · obtain ⟨x0, -⟩ := hs
      have e0 : aF.eval (.tmp 25) = .bool th := x0
      exact opC_assign e0 ⟨rfl, below_same wF⟩
    exact trivial
  · intro f w6 hf hb6
    have h9 : f 13 = .bool th := hf 13 6 rfl
    simp only [putF, Act.put, List.setIfInBounds_toArray, List.set_cons_zero, List.set_cons_succ]
    rw [h9]
    have HX6 := Lib.hid (HX.out.below hb6 HX.out.lt)
    have HBX6 := Lib.hid (HBX.out.below hb6 HBX.out.lt)
    have HB6 := Lib.hid (HBL.out.trans (hb6.mono HBL.out.size))
    clear hf h9 hb6 LP LF HX HBX HBL HW
    have b0 := HBX6.out.cell 0
    have b1 := HBX6.out.cell 1
    have b4 := HBX6.out.cell 4
    simp at b0 b1 b4
    go_wp2_with fail
    refine (off_zero HX6.out).mono ?_
    rintro e w7 ⟨rfl, rfl⟩
    go_wp2_with fail
    all_goals exact bodyPost_ret (v := .tuple #[.pointer (some ⟨x, 0, none⟩), .int .i64 8]) (by simp [results, Tryd.results9, go_sem, Result.andThen]) rfl ⟨rfl, HB6.out⟩
end Go.Proofs.YthljcekodlbplaaDoor
