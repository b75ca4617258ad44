/-
story.Event.Right, order.named, order.Right. No condition.
order.Right: which orders may be. No condition but the numbers' kinds.
-/
import Derived.Test.YtjlajnackecfgaaGreatDoorOdAW9
import Derived.Test.YtjlajnackecfgaaGreatDoorFlowW9
import Derived.Test.YtjlajnackecfgaaGreatDoorTrmBW9
import Derived.Lib.SmallJoins
import Derived.Test.YtjlajnackecfgaaGreatDoorOdCW9
import Derived.Shelf.Abstract
namespace Go.Proofs.YtjlajnackecfgaaGreatDoor
open Go.ChangeShapes Go.WideShapes Go.ChangeAt Go.RowKit
def Evt.rightB (e : Evt) : Bool := dayB e.d && (decide (4 ≤ e.k ∧ e.k ≤ 6 ∧ e.m ≠ 0 ∧ 0 ≤ e.m ∧ e.m ≤ 1000000000000) || decide (e.k = 7 ∧ e.m = 0))
set_option maxRecDepth 20000 in
set_option maxHeartbeats 2000000 in
theorem ERight_any (e : Evt) (w : World) : Calls Tryz.prog 30 #[e.v] w (Ret (.bool e.rightB) w) := by
  obtain ⟨s, d, k, m⟩ := e
  unfold Evt.v Evt.rightB
  dsimp only
  have HK := Lib.hid (Blk.new w 30 #[.int .u32 (s : Int), .int .i32 d, .int .u8 (k : Int), .int .i64 m])
  have HB := Lib.hid (b_alloc w (.cells #[.int .u32 (s : Int), .int .i32 d, .int .u8 (k : Int), .int .i64 m] 30))
  obtain ⟨W0, hW⟩ : ∃ W, w.alloc (.cells #[.int .u32 (s : Int), .int .i32 d, .int .u8 (k : Int), .int .i64 m] 30) = W := ⟨_, rfl⟩
  rw [hW] at HK HB
  have HW := Lib.hid hW
  clear hW
  have c1 := HK.out.cell 1
  have c2 := HK.out.cell 2
  have c3 := HK.out.cell 3
  simp at c1 c2 c3
  have hD := fun W => DRight_any d W
  have hC := fun W => Right_any m W
  by_cases hd : 0 ≤ d ∧ d ≤ 3652058
  · rw [day_yes hd.1 hd.2] at hD ⊢
    rcases (show k = 4 ∨ k = 5 ∨ k = 6 ∨ k = 7 ∨ (k ≠ 4 ∧ k ≠ 5 ∧ k ≠ 6 ∧ k ≠ 7) by omega) with hk | hk | hk | hk | hk
    · skip
      have j4 : ((k : Int) == 4) = true := by rw [beq_iff_eq]; omega
      rw [show decide (k = 7 ∧ m = 0) = false by rw [decide_eq_false_iff_not]; omega]
      by_cases hm : m = 0
      · rw [show decide (4 ≤ k ∧ k ≤ 6 ∧ m ≠ 0 ∧ 0 ≤ m ∧ m ≤ 1000000000000) = false by rw [decide_eq_false_iff_not]; omega]
        have jm : (m == 0) = true := by rw [beq_iff_eq]; exact hm
        have jn : (m != 0) = false := by rw [bne, jm]; rfl
        clear hm
        clear hk
        go_enter Tryz.func30, Tryz.ntmps30
        go_upto_region 1 with (fail)
        rw [HW.out]
        go_wp2_with fail
        refine (hD _).mono ?_
        rintro e w1 ⟨rfl, rfl⟩
        go_wp2_with fail
        refine bodyPost_ret (results_tmp rfl _ _ _) rfl ?_
        exact ⟨rfl, HB.out⟩
      · obtain ⟨b, hb⟩ : ∃ b : Bool, decide (0 ≤ m ∧ m ≤ 1000000000000) = b := ⟨_, rfl⟩
        rw [show decide (4 ≤ k ∧ k ≤ 6 ∧ m ≠ 0 ∧ 0 ≤ m ∧ m ≤ 1000000000000) = b by rw [← hb, decide_eq_decide]; omega]
        have jm : (m == 0) = false := by rw [beq_eq_false_iff_ne]; exact hm
        have jn : (m != 0) = true := by rw [bne, jm]; rfl
        clear hm
        simp only [hb] at hC
        rw [show (true && (b || false)) = b by simp]
        clear hb hk
        go_enter Tryz.func30, Tryz.ntmps30
        go_upto_region 1 with (fail)
        rw [HW.out]
        go_wp2_with fail
        refine (hD _).mono ?_
        rintro e w1 ⟨rfl, rfl⟩
        go_wp2_with fail
        refine (hC _).mono ?_
        rintro e w1 ⟨rfl, rfl⟩
        go_wp2_with fail
        refine bodyPost_ret (results_tmp rfl _ _ _) rfl ?_
        exact ⟨rfl, HB.out⟩
    · skip
      have j4 : ((k : Int) == 4) = false := by rw [beq_eq_false_iff_ne]; omega
      have j5 : ((k : Int) == 5) = true := by rw [beq_iff_eq]; omega
      rw [show decide (k = 7 ∧ m = 0) = false by rw [decide_eq_false_iff_not]; omega]
      by_cases hm : m = 0
      · rw [show decide (4 ≤ k ∧ k ≤ 6 ∧ m ≠ 0 ∧ 0 ≤ m ∧ m ≤ 1000000000000) = false by rw [decide_eq_false_iff_not]; omega]
        have jm : (m == 0) = true := by rw [beq_iff_eq]; exact hm
        have jn : (m != 0) = false := by rw [bne, jm]; rfl
        clear hm
        clear hk
        go_enter Tryz.func30, Tryz.ntmps30
        go_upto_region 1 with (fail)
        rw [HW.out]
        go_wp2_with fail
        refine (hD _).mono ?_
        rintro e w1 ⟨rfl, rfl⟩
        go_wp2_with fail
        refine bodyPost_ret (results_tmp rfl _ _ _) rfl ?_
        exact ⟨rfl, HB.out⟩
      · obtain ⟨b, hb⟩ : ∃ b : Bool, decide (0 ≤ m ∧ m ≤ 1000000000000) = b := ⟨_, rfl⟩
        rw [show decide (4 ≤ k ∧ k ≤ 6 ∧ m ≠ 0 ∧ 0 ≤ m ∧ m ≤ 1000000000000) = b by rw [← hb, decide_eq_decide]; omega]
        have jm : (m == 0) = false := by rw [beq_eq_false_iff_ne]; exact hm
        have jn : (m != 0) = true := by rw [bne, jm]; rfl
        clear hm
        simp only [hb] at hC
        rw [show (true && (b || false)) = b by simp]
        clear hb hk
        go_enter Tryz.func30, Tryz.ntmps30
        go_upto_region 1 with (fail)
        rw [HW.out]
        go_wp2_with fail
        refine (hD _).mono ?_
        rintro e w1 ⟨rfl, rfl⟩
        go_wp2_with fail
        refine (hC _).mono ?_
        rintro e w1 ⟨rfl, rfl⟩
        go_wp2_with fail
        refine bodyPost_ret (results_tmp rfl _ _ _) rfl ?_
        exact ⟨rfl, HB.out⟩
    · skip
      have j4 : ((k : Int) == 4) = false := by rw [beq_eq_false_iff_ne]; omega
      have j5 : ((k : Int) == 5) = false := by rw [beq_eq_false_iff_ne]; omega
      have j6 : ((k : Int) == 6) = true := by rw [beq_iff_eq]; omega
      rw [show decide (k = 7 ∧ m = 0) = false by rw [decide_eq_false_iff_not]; omega]
      by_cases hm : m = 0
      · rw [show decide (4 ≤ k ∧ k ≤ 6 ∧ m ≠ 0 ∧ 0 ≤ m ∧ m ≤ 1000000000000) = false by rw [decide_eq_false_iff_not]; omega]
        have jm : (m == 0) = true := by rw [beq_iff_eq]; exact hm
        have jn : (m != 0) = false := by rw [bne, jm]; rfl
        clear hm
        clear hk
        go_enter Tryz.func30, Tryz.ntmps30
        go_upto_region 1 with (fail)
        rw [HW.out]
        go_wp2_with fail
        refine (hD _).mono ?_
        rintro e w1 ⟨rfl, rfl⟩
        go_wp2_with fail
        refine bodyPost_ret (results_tmp rfl _ _ _) rfl ?_
        exact ⟨rfl, HB.out⟩
      · obtain ⟨b, hb⟩ : ∃ b : Bool, decide (0 ≤ m ∧ m ≤ 1000000000000) = b := ⟨_, rfl⟩
        rw [show decide (4 ≤ k ∧ k ≤ 6 ∧ m ≠ 0 ∧ 0 ≤ m ∧ m ≤ 1000000000000) = b by rw [← hb, decide_eq_decide]; omega]
        have jm : (m == 0) = false := by rw [beq_eq_false_iff_ne]; exact hm
        have jn : (m != 0) = true := by rw [bne, jm]; rfl
        clear hm
        simp only [hb] at hC
        rw [show (true && (b || false)) = b by simp]
        clear hb hk
        go_enter Tryz.func30, Tryz.ntmps30
        go_upto_region 1 with (fail)
        rw [HW.out]
        go_wp2_with fail
        refine (hD _).mono ?_
        rintro e w1 ⟨rfl, rfl⟩
        go_wp2_with fail
        refine (hC _).mono ?_
        rintro e w1 ⟨rfl, rfl⟩
        go_wp2_with fail
        refine bodyPost_ret (results_tmp rfl _ _ _) rfl ?_
        exact ⟨rfl, HB.out⟩
    · skip
      have j4 : ((k : Int) == 4) = false := by rw [beq_eq_false_iff_ne]; omega
      have j5 : ((k : Int) == 5) = false := by rw [beq_eq_false_iff_ne]; omega
      have j6 : ((k : Int) == 6) = false := by rw [beq_eq_false_iff_ne]; omega
      have j7 : ((k : Int) == 7) = true := by rw [beq_iff_eq]; omega
      rw [show decide (4 ≤ k ∧ k ≤ 6 ∧ m ≠ 0 ∧ 0 ≤ m ∧ m ≤ 1000000000000) = false by rw [decide_eq_false_iff_not]; omega]
      by_cases hm : m = 0
      · rw [show decide (k = 7 ∧ m = 0) = true by rw [decide_eq_true_eq]; omega]
        have jm : (m == 0) = true := by rw [beq_iff_eq]; exact hm
        have jn : (m != 0) = false := by rw [bne, jm]; rfl
        clear hm
        clear hk
        go_enter Tryz.func30, Tryz.ntmps30
        go_upto_region 1 with (fail)
        rw [HW.out]
        go_wp2_with fail
        refine (hD _).mono ?_
        rintro e w1 ⟨rfl, rfl⟩
        go_wp2_with fail
        refine bodyPost_ret (results_tmp rfl _ _ _) rfl ?_
        exact ⟨rfl, HB.out⟩
      · rw [show decide (k = 7 ∧ m = 0) = false by rw [decide_eq_false_iff_not]; omega]
        have jm : (m == 0) = false := by rw [beq_eq_false_iff_ne]; exact hm
        have jn : (m != 0) = true := by rw [bne, jm]; rfl
        clear hm
        clear hk
        go_enter Tryz.func30, Tryz.ntmps30
        go_upto_region 1 with (fail)
        rw [HW.out]
        go_wp2_with fail
        refine (hD _).mono ?_
        rintro e w1 ⟨rfl, rfl⟩
        go_wp2_with fail
        refine bodyPost_ret (results_tmp rfl _ _ _) rfl ?_
        exact ⟨rfl, HB.out⟩
    · skip
      have j4 : ((k : Int) == 4) = false := by rw [beq_eq_false_iff_ne]; omega
      have j5 : ((k : Int) == 5) = false := by rw [beq_eq_false_iff_ne]; omega
      have j6 : ((k : Int) == 6) = false := by rw [beq_eq_false_iff_ne]; omega
      have j7 : ((k : Int) == 7) = false := by rw [beq_eq_false_iff_ne]; omega
      rw [show decide (4 ≤ k ∧ k ≤ 6 ∧ m ≠ 0 ∧ 0 ≤ m ∧ m ≤ 1000000000000) = false by rw [decide_eq_false_iff_not]; omega]
      rw [show decide (k = 7 ∧ m = 0) = false by rw [decide_eq_false_iff_not]; omega]
      clear hk
      go_enter Tryz.func30, Tryz.ntmps30
      go_upto_region 1 with (fail)
      rw [HW.out]
      go_wp2_with fail
      refine (hD _).mono ?_
      rintro e w1 ⟨rfl, rfl⟩
      go_wp2_with fail
      refine bodyPost_ret (results_tmp rfl _ _ _) rfl ?_
      exact ⟨rfl, HB.out⟩
  · have hdn : dayB d = false := day_no (by omega)
    rw [hdn] at hD ⊢
    go_enter Tryz.func30, Tryz.ntmps30
    go_upto_region 1 with (fail)
    rw [HW.out]
    go_wp2_with fail
    refine (hD _).mono ?_
    rintro e w1 ⟨rfl, rfl⟩
    go_wp2_with fail
    refine bodyPost_ret (results_tmp rfl _ _ _) rfl ?_
    exact ⟨rfl, HB.out⟩
end Go.Proofs.YtjlajnackecfgaaGreatDoor
namespace Go.Proofs.YtjlajnackecfgaaGreatDoor
open Go.ChangeShapes Go.WideShapes Go.ChangeAt Go.RowKit Go.Shelf
theorem named_any (o : Ord) (w : World) : Calls Tryz.prog 28 #[o.v] w (Ret o.named.v w) := by
  by_cases h1 : o.k = 1
  · have := named_1 o h1 w
    rwa [show (⟨o.k, o.a, o.t, Evt.zero⟩ : Ord) = o.named by unfold Ord.named; rw [if_pos h1, h1]] at this
  by_cases h2 : o.k = 2
  · have := named_2 o h2 w
    rwa [show (⟨o.k, o.a, Trm.zero, o.e⟩ : Ord) = o.named by unfold Ord.named; rw [if_neg h1, if_pos h2, h2]] at this
  by_cases h3 : o.k = 3
  · have := named_3 o h3 w
    rwa [show (⟨o.k, o.a, Trm.zero, ⟨o.e.s, 0, 0, 0⟩⟩ : Ord) = o.named by unfold Ord.named; rw [if_neg h1, if_neg h2, if_pos h3, h3]] at this
  have := named_4 o h1 h2 h3 w
  rwa [show (⟨o.k, 0, Trm.zero, Evt.zero⟩ : Ord) = o.named by unfold Ord.named; rw [if_neg h1, if_neg h2, if_neg h3]] at this
theorem ev_right {e : Evt} : e.rightB = true ↔ e.Right := by
  unfold Evt.rightB
  constructor
  · intro h
    rw [Bool.and_eq_true] at h
    obtain ⟨h1, h2⟩ := h
    rw [Bool.or_eq_true, decide_eq_true_eq, decide_eq_true_eq] at h2
    have h3 : 0 ≤ e.d ∧ e.d ≤ 3652058 := by unfold dayB at h1; simpa using h1
    exact ⟨h3, by omega⟩
  · rintro ⟨h1, h2⟩
    rw [day_yes h1.1 h1.2, Bool.true_and, Bool.or_eq_true, decide_eq_true_eq, decide_eq_true_eq]
    omega
set_option maxRecDepth 100000 in
set_option maxHeartbeats 4000000 in
theorem ORight_0 (o : Ord) (h0 : o ≠ o.named) (w : World) : Calls Tryz.prog 12 #[o.v] w (Ret (.bool false) w) := by
  have HN := fun W => named_any o W
  have HEQ : ∀ W, (Op.equalIn 10000 32 o.v o.named.v).run Tryz.prog W = .ok false W := fun W => by
    haveI := Classical.propDecidable (o = o.named)
    rw [eqO o o.named W, decide_eq_false h0]
  obtain ⟨N, hN⟩ : ∃ N, o.named.v = .agg N := ⟨_, rfl⟩
  rw [hN] at HN HEQ
  clear hN
  obtain ⟨k, a, ⟨K, P, R, B, M, S, F, G⟩, s, d, ek, m⟩ := o
  try dsimp only at h0
  try dsimp only at h
  clear h0 
  change ∀ W, Calls Tryz.prog _ #[.agg #[.int .u8 (k : Int), .int .u32 (a : Int), .int .u8 (K : Int), .int .i64 P, .int .u32 (R : Int), .int .u8 (B : Int), .int .i64 M, .int .i32 S, .int .i64 F, .int .i64 G, .int .u32 (s : Int), .int .i32 d, .int .u8 (ek : Int), .int .i64 m]] W _ at HN
  change ∀ W, (Op.equalIn 10000 32 (.agg #[.int .u8 (k : Int), .int .u32 (a : Int), .int .u8 (K : Int), .int .i64 P, .int .u32 (R : Int), .int .u8 (B : Int), .int .i64 M, .int .i32 S, .int .i64 F, .int .i64 G, .int .u32 (s : Int), .int .i32 d, .int .u8 (ek : Int), .int .i64 m]) (.agg N)).run Tryz.prog W = _ at HEQ
  show Calls Tryz.prog 12 #[.agg #[.int .u8 (k : Int), .int .u32 (a : Int), .int .u8 (K : Int), .int .i64 P, .int .u32 (R : Int), .int .u8 (B : Int), .int .i64 M, .int .i32 S, .int .i64 F, .int .i64 G, .int .u32 (s : Int), .int .i32 d, .int .u8 (ek : Int), .int .i64 m]] w _
  obtain ⟨Z, hZ⟩ : ∃ Z : Array Value, Z = #[.int .u8 (k : Int), .int .u32 (a : Int), .int .u8 (K : Int), .int .i64 P, .int .u32 (R : Int), .int .u8 (B : Int), .int .i64 M, .int .i32 S, .int .i64 F, .int .i64 G, .int .u32 (s : Int), .int .i32 d, .int .u8 (ek : Int), .int .i64 m] := ⟨_, rfl⟩
  have hQ := Blk.new w 32 Z
  have hB := b_alloc w (.cells Z 32)
  obtain ⟨W0, hW⟩ : ∃ W, w.alloc (.cells Z 32) = W := ⟨_, rfl⟩
  rw [hW] at hQ hB
  subst hZ
  obtain ⟨p, hp⟩ : ∃ p, w.heap.size = p := ⟨_, rfl⟩
  rw [hp] at hQ hB
  have HQ := Lib.hid hQ
  have HB := Lib.hid hB
  have HW := Lib.hid (And.intro hW hp)
  clear hQ hB hW hp
  have LD : ∀ W, Below W0.heap.size W0 W → (Instr.loadAt 32 (.pointer (some ⟨p, 0, none⟩))).run Tryz.prog W = .ok (.agg #[.int .u8 (k : Int), .int .u32 (a : Int), .int .u8 (K : Int), .int .i64 P, .int .u32 (R : Int), .int .u8 (B : Int), .int .i64 M, .int .i32 S, .int .i64 F, .int .i64 G, .int .u32 (s : Int), .int .i32 d, .int .u8 (ek : Int), .int .i64 m]) W := fun W hb => run_loadB (HQ.out.below hb HQ.out.lt) _ 0 #[.int .u8 (k : Int), .int .u32 (a : Int), .int .u8 (K : Int), .int .i64 P, .int .u32 (R : Int), .int .u8 (B : Int), .int .i64 M, .int .i32 S, .int .i64 F, .int .i64 G, .int .u32 (s : Int), .int .i32 d, .int .u8 (ek : Int), .int .i64 m] (part_of (by rfl)) rowOr
  go_enter Tryz.func12, Tryz.ntmps12
  go_upto_region 1 with (fail)
  rw [HW.out.1, HW.out.2]
  refine wp_region_flow [some 3, some 4, some 5, some 6] (fun i => ([.is (.agg #[.int .u8 (k : Int), .int .u32 (a : Int), .int .u8 (K : Int), .int .i64 P, .int .u32 (R : Int), .int .u8 (B : Int), .int .i64 M, .int .i32 S, .int .i64 F, .int .i64 G, .int .u32 (s : Int), .int .i32 d, .int .u8 (ek : Int), .int .i64 m]), .is (.agg #[.int .u8 (k : Int), .int .u32 (a : Int), .int .u8 (K : Int), .int .i64 P, .int .u32 (R : Int), .int .u8 (B : Int), .int .i64 M, .int .i32 S, .int .i64 F, .int .i64 G, .int .u32 (s : Int), .int .i32 d, .int .u8 (ek : Int), .int .i64 m]), .is (.agg N), .is (.bool true)] : List Flw).getD i .any) (by kernel_rfl) (by kernel_rfl) rfl ?_ ?_
  · skip
    refine ⟨step_free rfl (fun aF wF hs hb => ?_), ?_⟩
    · obtain ⟨x0, -⟩ := hs
      have e0 : aF.eval (.tmp 1) = .pointer (some ⟨p, 0, none⟩) := x0
      exact opC_load e0 (LD wF hb) ⟨rfl, below_same wF⟩
    refine ⟨step_free rfl (fun aF wF hs hb => ?_), ?_⟩
    · obtain ⟨x0, -⟩ := hs
      have e0 : aF.eval (.tmp 1) = .pointer (some ⟨p, 0, none⟩) := x0
      exact opC_load e0 (LD wF hb) ⟨rfl, below_same wF⟩
    refine ⟨step_free rfl (fun aF wF hs hb => ?_), ?_⟩
    · obtain ⟨x0, -⟩ := hs
      have e0 : aF.eval (.tmp 4) = .agg #[.int .u8 (k : Int), .int .u32 (a : Int), .int .u8 (K : Int), .int .i64 P, .int .u32 (R : Int), .int .u8 (B : Int), .int .i64 M, .int .i32 S, .int .i64 F, .int .i64 G, .int .u32 (s : Int), .int .i32 d, .int .u8 (ek : Int), .int .i64 m] := x0
      exact opC_call (args := #[.agg #[.int .u8 (k : Int), .int .u32 (a : Int), .int .u8 (K : Int), .int .i64 P, .int .u32 (R : Int), .int .u8 (B : Int), .int .i64 M, .int .i32 S, .int .i64 F, .int .i64 G, .int .u32 (s : Int), .int .i32 d, .int .u8 (ek : Int), .int .i64 m]]) (enters_of Tryz.func28 (by kernel_rfl) rfl) (by simp [e0]) (HN wF) (fun _ h => ⟨rfl, h⟩)
    refine ⟨step_free rfl (fun aF wF hs hb => ?_), ?_⟩
    · obtain ⟨x0, x1, -⟩ := hs
      have e0 : aF.eval (.tmp 3) = .agg #[.int .u8 (k : Int), .int .u32 (a : Int), .int .u8 (K : Int), .int .i64 P, .int .u32 (R : Int), .int .u8 (B : Int), .int .i64 M, .int .i32 S, .int .i64 F, .int .i64 G, .int .u32 (s : Int), .int .i32 d, .int .u8 (ek : Int), .int .i64 m] := x0
      have e1 : aF.eval (.tmp 5) = .agg N := x1
      refine opC_value (v := .bool true) ?_ ⟨rfl, below_same wF⟩
      have t0 := ev_of e0
      have t1 := ev_of e1
      simp [execOp, go_sem, t0, t1, HEQ]
    exact trivial
  · intro fv w6 hf hb6
    have hp6 : fv 3 = _ := hf 3 6 rfl
    have HQ6 := Lib.hid (HQ.out.below hb6 HQ.out.lt)
    have HB6 := Lib.hid (HB.out.trans (hb6.mono (by have := HQ.out.lt; omega)))
    simp only [putF, Act.put, List.setIfInBounds_toArray, List.set_cons_zero, List.set_cons_succ]
    rw [hp6]
    clear hp6 hf hb6 LD HN HEQ HQ HB
    go_wp2_with fail
    go_ret
    exact ⟨rfl, by rw [HW.out.2]; exact HB6.out⟩
set_option maxRecDepth 100000 in
set_option maxHeartbeats 4000000 in
theorem ORight_1true (o : Ord) (h0 : o = o.named) (h : o.k = 1) (ht : o.t.Right) (w : World) : Calls Tryz.prog 12 #[o.v] w (Ret (.bool true) w) := by
  have HN := fun W => named_any o W
  have HEQ : ∀ W, (Op.equalIn 10000 32 o.v o.named.v).run Tryz.prog W = .ok true W := fun W => by
    haveI := Classical.propDecidable (o = o.named)
    rw [eqO o o.named W, decide_eq_true h0]
  obtain ⟨N, hN⟩ : ∃ N, o.named.v = .agg N := ⟨_, rfl⟩
  rw [hN] at HN HEQ
  clear hN
  have HC := fun W => TRight_true ht W
  obtain ⟨k, a, ⟨K, P, R, B, M, S, F, G⟩, s, d, ek, m⟩ := o
  try dsimp only at h0
  try dsimp only at h
  have j1 : ((k : Int) == 1) = true := by rw [beq_iff_eq]; omega
  clear h0 h ht
  change ∀ W, Calls Tryz.prog _ #[.agg #[.int .u8 (k : Int), .int .u32 (a : Int), .int .u8 (K : Int), .int .i64 P, .int .u32 (R : Int), .int .u8 (B : Int), .int .i64 M, .int .i32 S, .int .i64 F, .int .i64 G, .int .u32 (s : Int), .int .i32 d, .int .u8 (ek : Int), .int .i64 m]] W _ at HN
  change ∀ W, (Op.equalIn 10000 32 (.agg #[.int .u8 (k : Int), .int .u32 (a : Int), .int .u8 (K : Int), .int .i64 P, .int .u32 (R : Int), .int .u8 (B : Int), .int .i64 M, .int .i32 S, .int .i64 F, .int .i64 G, .int .u32 (s : Int), .int .i32 d, .int .u8 (ek : Int), .int .i64 m]) (.agg N)).run Tryz.prog W = _ at HEQ
  show Calls Tryz.prog 12 #[.agg #[.int .u8 (k : Int), .int .u32 (a : Int), .int .u8 (K : Int), .int .i64 P, .int .u32 (R : Int), .int .u8 (B : Int), .int .i64 M, .int .i32 S, .int .i64 F, .int .i64 G, .int .u32 (s : Int), .int .i32 d, .int .u8 (ek : Int), .int .i64 m]] w _
  obtain ⟨Z, hZ⟩ : ∃ Z : Array Value, Z = #[.int .u8 (k : Int), .int .u32 (a : Int), .int .u8 (K : Int), .int .i64 P, .int .u32 (R : Int), .int .u8 (B : Int), .int .i64 M, .int .i32 S, .int .i64 F, .int .i64 G, .int .u32 (s : Int), .int .i32 d, .int .u8 (ek : Int), .int .i64 m] := ⟨_, rfl⟩
  have hQ := Blk.new w 32 Z
  have hB := b_alloc w (.cells Z 32)
  obtain ⟨W0, hW⟩ : ∃ W, w.alloc (.cells Z 32) = W := ⟨_, rfl⟩
  rw [hW] at hQ hB
  subst hZ
  obtain ⟨p, hp⟩ : ∃ p, w.heap.size = p := ⟨_, rfl⟩
  rw [hp] at hQ hB
  have HQ := Lib.hid hQ
  have HB := Lib.hid hB
  have HW := Lib.hid (And.intro hW hp)
  clear hQ hB hW hp
  have LD : ∀ W, Below W0.heap.size W0 W → (Instr.loadAt 32 (.pointer (some ⟨p, 0, none⟩))).run Tryz.prog W = .ok (.agg #[.int .u8 (k : Int), .int .u32 (a : Int), .int .u8 (K : Int), .int .i64 P, .int .u32 (R : Int), .int .u8 (B : Int), .int .i64 M, .int .i32 S, .int .i64 F, .int .i64 G, .int .u32 (s : Int), .int .i32 d, .int .u8 (ek : Int), .int .i64 m]) W := fun W hb => run_loadB (HQ.out.below hb HQ.out.lt) _ 0 #[.int .u8 (k : Int), .int .u32 (a : Int), .int .u8 (K : Int), .int .i64 P, .int .u32 (R : Int), .int .u8 (B : Int), .int .i64 M, .int .i32 S, .int .i64 F, .int .i64 G, .int .u32 (s : Int), .int .i32 d, .int .u8 (ek : Int), .int .i64 m] (part_of (by rfl)) rowOr
  go_enter Tryz.func12, Tryz.ntmps12
  go_upto_region 1 with (fail)
  rw [HW.out.1, HW.out.2]
  refine wp_region_flow [some 3, some 4, some 5, some 6] (fun i => ([.is (.agg #[.int .u8 (k : Int), .int .u32 (a : Int), .int .u8 (K : Int), .int .i64 P, .int .u32 (R : Int), .int .u8 (B : Int), .int .i64 M, .int .i32 S, .int .i64 F, .int .i64 G, .int .u32 (s : Int), .int .i32 d, .int .u8 (ek : Int), .int .i64 m]), .is (.agg #[.int .u8 (k : Int), .int .u32 (a : Int), .int .u8 (K : Int), .int .i64 P, .int .u32 (R : Int), .int .u8 (B : Int), .int .i64 M, .int .i32 S, .int .i64 F, .int .i64 G, .int .u32 (s : Int), .int .i32 d, .int .u8 (ek : Int), .int .i64 m]), .is (.agg N), .is (.bool false)] : List Flw).getD i .any) (by kernel_rfl) (by kernel_rfl) rfl ?_ ?_
  · skip
    refine ⟨step_free rfl (fun aF wF hs hb => ?_), ?_⟩
    · obtain ⟨x0, -⟩ := hs
      have e0 : aF.eval (.tmp 1) = .pointer (some ⟨p, 0, none⟩) := x0
      exact opC_load e0 (LD wF hb) ⟨rfl, below_same wF⟩
    refine ⟨step_free rfl (fun aF wF hs hb => ?_), ?_⟩
    · obtain ⟨x0, -⟩ := hs
      have e0 : aF.eval (.tmp 1) = .pointer (some ⟨p, 0, none⟩) := x0
      exact opC_load e0 (LD wF hb) ⟨rfl, below_same wF⟩
    refine ⟨step_free rfl (fun aF wF hs hb => ?_), ?_⟩
    · obtain ⟨x0, -⟩ := hs
      have e0 : aF.eval (.tmp 4) = .agg #[.int .u8 (k : Int), .int .u32 (a : Int), .int .u8 (K : Int), .int .i64 P, .int .u32 (R : Int), .int .u8 (B : Int), .int .i64 M, .int .i32 S, .int .i64 F, .int .i64 G, .int .u32 (s : Int), .int .i32 d, .int .u8 (ek : Int), .int .i64 m] := x0
      exact opC_call (args := #[.agg #[.int .u8 (k : Int), .int .u32 (a : Int), .int .u8 (K : Int), .int .i64 P, .int .u32 (R : Int), .int .u8 (B : Int), .int .i64 M, .int .i32 S, .int .i64 F, .int .i64 G, .int .u32 (s : Int), .int .i32 d, .int .u8 (ek : Int), .int .i64 m]]) (enters_of Tryz.func28 (by kernel_rfl) rfl) (by simp [e0]) (HN wF) (fun _ h => ⟨rfl, h⟩)
    refine ⟨step_free rfl (fun aF wF hs hb => ?_), ?_⟩
    · obtain ⟨x0, x1, -⟩ := hs
      have e0 : aF.eval (.tmp 3) = .agg #[.int .u8 (k : Int), .int .u32 (a : Int), .int .u8 (K : Int), .int .i64 P, .int .u32 (R : Int), .int .u8 (B : Int), .int .i64 M, .int .i32 S, .int .i64 F, .int .i64 G, .int .u32 (s : Int), .int .i32 d, .int .u8 (ek : Int), .int .i64 m] := x0
      have e1 : aF.eval (.tmp 5) = .agg N := x1
      refine opC_value (v := .bool false) ?_ ⟨rfl, below_same wF⟩
      have t0 := ev_of e0
      have t1 := ev_of e1
      simp [execOp, go_sem, t0, t1, HEQ]
    exact trivial
  · intro fv w6 hf hb6
    have hp6 : fv 3 = _ := hf 3 6 rfl
    have HQ6 := Lib.hid (HQ.out.below hb6 HQ.out.lt)
    have HB6 := Lib.hid (HB.out.trans (hb6.mono (by have := HQ.out.lt; omega)))
    simp only [putF, Act.put, List.setIfInBounds_toArray, List.set_cons_zero, List.set_cons_succ]
    rw [hp6]
    clear hp6 hf hb6 LD HN HEQ HQ HB
    change ∀ W, Calls Tryz.prog _ #[.agg #[.int .u8 (K : Int), .int .i64 P, .int .u32 (R : Int), .int .u8 (B : Int), .int .i64 M, .int .i32 S, .int .i64 F, .int .i64 G]] W _ at HC
    have z0 := HQ6.out.cell 0
    simp at z0
    go_wp2_with (with_reducible refine wpl_loadB (o := ⟨some 12, _, _, _, _, _⟩) rfl 28 (.tmp 11) rfl p 2 rfl HQ6.out #[.int .u8 (K : Int), .int .i64 P, .int .u32 (R : Int), .int .u8 (B : Int), .int .i64 M, .int .i32 S, .int .i64 F, .int .i64 G] ?g1 ?g2 ?_)
    case g1 => exact part_of (by rfl)
    case g2 => exact rowTm
    go_wp2_with fail
    refine (HC _).mono ?_
    rintro e w7 ⟨rfl, hb7⟩
    have HB7 := Lib.hid (HB6.out.trans (hb7.mono (by have := HB6.out.size; have := HW.out.2; omega)))
    clear hb7 HC
    go_wp2_with fail
    go_ret
    exact ⟨rfl, by rw [HW.out.2]; exact HB7.out⟩
set_option maxRecDepth 100000 in
set_option maxHeartbeats 4000000 in
theorem ORight_2true (o : Ord) (h0 : o = o.named) (h : o.k = 2) (ht : o.e.Right) (w : World) : Calls Tryz.prog 12 #[o.v] w (Ret (.bool true) w) := by
  have HN := fun W => named_any o W
  have HEQ : ∀ W, (Op.equalIn 10000 32 o.v o.named.v).run Tryz.prog W = .ok true W := fun W => by
    haveI := Classical.propDecidable (o = o.named)
    rw [eqO o o.named W, decide_eq_true h0]
  obtain ⟨N, hN⟩ : ∃ N, o.named.v = .agg N := ⟨_, rfl⟩
  rw [hN] at HN HEQ
  clear hN
  have HC := fun W => ERight_any o.e W
  rw [show o.e.rightB = true by exact ev_right.2 ht] at HC
  obtain ⟨k, a, ⟨K, P, R, B, M, S, F, G⟩, s, d, ek, m⟩ := o
  try dsimp only at h0
  try dsimp only at h
  have j1 : ((k : Int) == 1) = false := by rw [beq_eq_false_iff_ne]; omega
  have j2 : ((k : Int) == 2) = true := by rw [beq_iff_eq]; omega
  clear h0 h ht
  change ∀ W, Calls Tryz.prog _ #[.agg #[.int .u8 (k : Int), .int .u32 (a : Int), .int .u8 (K : Int), .int .i64 P, .int .u32 (R : Int), .int .u8 (B : Int), .int .i64 M, .int .i32 S, .int .i64 F, .int .i64 G, .int .u32 (s : Int), .int .i32 d, .int .u8 (ek : Int), .int .i64 m]] W _ at HN
  change ∀ W, (Op.equalIn 10000 32 (.agg #[.int .u8 (k : Int), .int .u32 (a : Int), .int .u8 (K : Int), .int .i64 P, .int .u32 (R : Int), .int .u8 (B : Int), .int .i64 M, .int .i32 S, .int .i64 F, .int .i64 G, .int .u32 (s : Int), .int .i32 d, .int .u8 (ek : Int), .int .i64 m]) (.agg N)).run Tryz.prog W = _ at HEQ
  show Calls Tryz.prog 12 #[.agg #[.int .u8 (k : Int), .int .u32 (a : Int), .int .u8 (K : Int), .int .i64 P, .int .u32 (R : Int), .int .u8 (B : Int), .int .i64 M, .int .i32 S, .int .i64 F, .int .i64 G, .int .u32 (s : Int), .int .i32 d, .int .u8 (ek : Int), .int .i64 m]] w _
  obtain ⟨Z, hZ⟩ : ∃ Z : Array Value, Z = #[.int .u8 (k : Int), .int .u32 (a : Int), .int .u8 (K : Int), .int .i64 P, .int .u32 (R : Int), .int .u8 (B : Int), .int .i64 M, .int .i32 S, .int .i64 F, .int .i64 G, .int .u32 (s : Int), .int .i32 d, .int .u8 (ek : Int), .int .i64 m] := ⟨_, rfl⟩
  have hQ := Blk.new w 32 Z
  have hB := b_alloc w (.cells Z 32)
  obtain ⟨W0, hW⟩ : ∃ W, w.alloc (.cells Z 32) = W := ⟨_, rfl⟩
  rw [hW] at hQ hB
  subst hZ
  obtain ⟨p, hp⟩ : ∃ p, w.heap.size = p := ⟨_, rfl⟩
  rw [hp] at hQ hB
  have HQ := Lib.hid hQ
  have HB := Lib.hid hB
  have HW := Lib.hid (And.intro hW hp)
  clear hQ hB hW hp
  have LD : ∀ W, Below W0.heap.size W0 W → (Instr.loadAt 32 (.pointer (some ⟨p, 0, none⟩))).run Tryz.prog W = .ok (.agg #[.int .u8 (k : Int), .int .u32 (a : Int), .int .u8 (K : Int), .int .i64 P, .int .u32 (R : Int), .int .u8 (B : Int), .int .i64 M, .int .i32 S, .int .i64 F, .int .i64 G, .int .u32 (s : Int), .int .i32 d, .int .u8 (ek : Int), .int .i64 m]) W := fun W hb => run_loadB (HQ.out.below hb HQ.out.lt) _ 0 #[.int .u8 (k : Int), .int .u32 (a : Int), .int .u8 (K : Int), .int .i64 P, .int .u32 (R : Int), .int .u8 (B : Int), .int .i64 M, .int .i32 S, .int .i64 F, .int .i64 G, .int .u32 (s : Int), .int .i32 d, .int .u8 (ek : Int), .int .i64 m] (part_of (by rfl)) rowOr
  go_enter Tryz.func12, Tryz.ntmps12
  go_upto_region 1 with (fail)
  rw [HW.out.1, HW.out.2]
  refine wp_region_flow [some 3, some 4, some 5, some 6] (fun i => ([.is (.agg #[.int .u8 (k : Int), .int .u32 (a : Int), .int .u8 (K : Int), .int .i64 P, .int .u32 (R : Int), .int .u8 (B : Int), .int .i64 M, .int .i32 S, .int .i64 F, .int .i64 G, .int .u32 (s : Int), .int .i32 d, .int .u8 (ek : Int), .int .i64 m]), .is (.agg #[.int .u8 (k : Int), .int .u32 (a : Int), .int .u8 (K : Int), .int .i64 P, .int .u32 (R : Int), .int .u8 (B : Int), .int .i64 M, .int .i32 S, .int .i64 F, .int .i64 G, .int .u32 (s : Int), .int .i32 d, .int .u8 (ek : Int), .int .i64 m]), .is (.agg N), .is (.bool false)] : List Flw).getD i .any) (by kernel_rfl) (by kernel_rfl) rfl ?_ ?_
  · skip
    refine ⟨step_free rfl (fun aF wF hs hb => ?_), ?_⟩
    · obtain ⟨x0, -⟩ := hs
      have e0 : aF.eval (.tmp 1) = .pointer (some ⟨p, 0, none⟩) := x0
      exact opC_load e0 (LD wF hb) ⟨rfl, below_same wF⟩
    refine ⟨step_free rfl (fun aF wF hs hb => ?_), ?_⟩
    · obtain ⟨x0, -⟩ := hs
      have e0 : aF.eval (.tmp 1) = .pointer (some ⟨p, 0, none⟩) := x0
      exact opC_load e0 (LD wF hb) ⟨rfl, below_same wF⟩
    refine ⟨step_free rfl (fun aF wF hs hb => ?_), ?_⟩
    · obtain ⟨x0, -⟩ := hs
      have e0 : aF.eval (.tmp 4) = .agg #[.int .u8 (k : Int), .int .u32 (a : Int), .int .u8 (K : Int), .int .i64 P, .int .u32 (R : Int), .int .u8 (B : Int), .int .i64 M, .int .i32 S, .int .i64 F, .int .i64 G, .int .u32 (s : Int), .int .i32 d, .int .u8 (ek : Int), .int .i64 m] := x0
      exact opC_call (args := #[.agg #[.int .u8 (k : Int), .int .u32 (a : Int), .int .u8 (K : Int), .int .i64 P, .int .u32 (R : Int), .int .u8 (B : Int), .int .i64 M, .int .i32 S, .int .i64 F, .int .i64 G, .int .u32 (s : Int), .int .i32 d, .int .u8 (ek : Int), .int .i64 m]]) (enters_of Tryz.func28 (by kernel_rfl) rfl) (by simp [e0]) (HN wF) (fun _ h => ⟨rfl, h⟩)
    refine ⟨step_free rfl (fun aF wF hs hb => ?_), ?_⟩
    · obtain ⟨x0, x1, -⟩ := hs
      have e0 : aF.eval (.tmp 3) = .agg #[.int .u8 (k : Int), .int .u32 (a : Int), .int .u8 (K : Int), .int .i64 P, .int .u32 (R : Int), .int .u8 (B : Int), .int .i64 M, .int .i32 S, .int .i64 F, .int .i64 G, .int .u32 (s : Int), .int .i32 d, .int .u8 (ek : Int), .int .i64 m] := x0
      have e1 : aF.eval (.tmp 5) = .agg N := x1
      refine opC_value (v := .bool false) ?_ ⟨rfl, below_same wF⟩
      have t0 := ev_of e0
      have t1 := ev_of e1
      simp [execOp, go_sem, t0, t1, HEQ]
    exact trivial
  · intro fv w6 hf hb6
    have hp6 : fv 3 = _ := hf 3 6 rfl
    have HQ6 := Lib.hid (HQ.out.below hb6 HQ.out.lt)
    have HB6 := Lib.hid (HB.out.trans (hb6.mono (by have := HQ.out.lt; omega)))
    simp only [putF, Act.put, List.setIfInBounds_toArray, List.set_cons_zero, List.set_cons_succ]
    rw [hp6]
    clear hp6 hf hb6 LD HN HEQ HQ HB
    change ∀ W, Calls Tryz.prog _ #[.agg #[.int .u32 (s : Int), .int .i32 d, .int .u8 (ek : Int), .int .i64 m]] W _ at HC
    have z0 := HQ6.out.cell 0
    simp at z0
    go_wp2_with (with_reducible refine wpl_loadB (o := ⟨some 17, _, _, _, _, _⟩) rfl 30 (.tmp 16) rfl p 10 rfl HQ6.out #[.int .u32 (s : Int), .int .i32 d, .int .u8 (ek : Int), .int .i64 m] ?g1 ?g2 ?_)
    case g1 => exact part_of (by rfl)
    case g2 => exact rowEv
    go_wp2_with fail
    refine (HC _).mono ?_
    rintro e w7 ⟨rfl, hb7⟩
    have HB7 := Lib.hid (HB6.out.trans (hb7.mono (by have := HB6.out.size; have := HW.out.2; omega)))
    clear hb7 HC
    go_wp2_with fail
    go_ret
    exact ⟨rfl, by rw [HW.out.2]; exact HB7.out⟩
set_option maxRecDepth 100000 in
set_option maxHeartbeats 4000000 in
theorem ORight_1false (o : Ord) (h0 : o = o.named) (h : o.k = 1) (ht : ¬ o.t.Right) (w : World) : Calls Tryz.prog 12 #[o.v] w (Ret (.bool false) w) := by
  have HN := fun W => named_any o W
  have HEQ : ∀ W, (Op.equalIn 10000 32 o.v o.named.v).run Tryz.prog W = .ok true W := fun W => by
    haveI := Classical.propDecidable (o = o.named)
    rw [eqO o o.named W, decide_eq_true h0]
  obtain ⟨N, hN⟩ : ∃ N, o.named.v = .agg N := ⟨_, rfl⟩
  rw [hN] at HN HEQ
  clear hN
  have HC := fun W => TRight_false ht W
  obtain ⟨k, a, ⟨K, P, R, B, M, S, F, G⟩, s, d, ek, m⟩ := o
  try dsimp only at h0
  try dsimp only at h
  have j1 : ((k : Int) == 1) = true := by rw [beq_iff_eq]; omega
  clear h0 h ht
  change ∀ W, Calls Tryz.prog _ #[.agg #[.int .u8 (k : Int), .int .u32 (a : Int), .int .u8 (K : Int), .int .i64 P, .int .u32 (R : Int), .int .u8 (B : Int), .int .i64 M, .int .i32 S, .int .i64 F, .int .i64 G, .int .u32 (s : Int), .int .i32 d, .int .u8 (ek : Int), .int .i64 m]] W _ at HN
  change ∀ W, (Op.equalIn 10000 32 (.agg #[.int .u8 (k : Int), .int .u32 (a : Int), .int .u8 (K : Int), .int .i64 P, .int .u32 (R : Int), .int .u8 (B : Int), .int .i64 M, .int .i32 S, .int .i64 F, .int .i64 G, .int .u32 (s : Int), .int .i32 d, .int .u8 (ek : Int), .int .i64 m]) (.agg N)).run Tryz.prog W = _ at HEQ
  show Calls Tryz.prog 12 #[.agg #[.int .u8 (k : Int), .int .u32 (a : Int), .int .u8 (K : Int), .int .i64 P, .int .u32 (R : Int), .int .u8 (B : Int), .int .i64 M, .int .i32 S, .int .i64 F, .int .i64 G, .int .u32 (s : Int), .int .i32 d, .int .u8 (ek : Int), .int .i64 m]] w _
  obtain ⟨Z, hZ⟩ : ∃ Z : Array Value, Z = #[.int .u8 (k : Int), .int .u32 (a : Int), .int .u8 (K : Int), .int .i64 P, .int .u32 (R : Int), .int .u8 (B : Int), .int .i64 M, .int .i32 S, .int .i64 F, .int .i64 G, .int .u32 (s : Int), .int .i32 d, .int .u8 (ek : Int), .int .i64 m] := ⟨_, rfl⟩
  have hQ := Blk.new w 32 Z
  have hB := b_alloc w (.cells Z 32)
  obtain ⟨W0, hW⟩ : ∃ W, w.alloc (.cells Z 32) = W := ⟨_, rfl⟩
  rw [hW] at hQ hB
  subst hZ
  obtain ⟨p, hp⟩ : ∃ p, w.heap.size = p := ⟨_, rfl⟩
  rw [hp] at hQ hB
  have HQ := Lib.hid hQ
  have HB := Lib.hid hB
  have HW := Lib.hid (And.intro hW hp)
  clear hQ hB hW hp
  have LD : ∀ W, Below W0.heap.size W0 W → (Instr.loadAt 32 (.pointer (some ⟨p, 0, none⟩))).run Tryz.prog W = .ok (.agg #[.int .u8 (k : Int), .int .u32 (a : Int), .int .u8 (K : Int), .int .i64 P, .int .u32 (R : Int), .int .u8 (B : Int), .int .i64 M, .int .i32 S, .int .i64 F, .int .i64 G, .int .u32 (s : Int), .int .i32 d, .int .u8 (ek : Int), .int .i64 m]) W := fun W hb => run_loadB (HQ.out.below hb HQ.out.lt) _ 0 #[.int .u8 (k : Int), .int .u32 (a : Int), .int .u8 (K : Int), .int .i64 P, .int .u32 (R : Int), .int .u8 (B : Int), .int .i64 M, .int .i32 S, .int .i64 F, .int .i64 G, .int .u32 (s : Int), .int .i32 d, .int .u8 (ek : Int), .int .i64 m] (part_of (by rfl)) rowOr
  go_enter Tryz.func12, Tryz.ntmps12
  go_upto_region 1 with (fail)
  rw [HW.out.1, HW.out.2]
  refine wp_region_flow [some 3, some 4, some 5, some 6] (fun i => ([.is (.agg #[.int .u8 (k : Int), .int .u32 (a : Int), .int .u8 (K : Int), .int .i64 P, .int .u32 (R : Int), .int .u8 (B : Int), .int .i64 M, .int .i32 S, .int .i64 F, .int .i64 G, .int .u32 (s : Int), .int .i32 d, .int .u8 (ek : Int), .int .i64 m]), .is (.agg #[.int .u8 (k : Int), .int .u32 (a : Int), .int .u8 (K : Int), .int .i64 P, .int .u32 (R : Int), .int .u8 (B : Int), .int .i64 M, .int .i32 S, .int .i64 F, .int .i64 G, .int .u32 (s : Int), .int .i32 d, .int .u8 (ek : Int), .int .i64 m]), .is (.agg N), .is (.bool false)] : List Flw).getD i .any) (by kernel_rfl) (by kernel_rfl) rfl ?_ ?_
  · skip
    refine ⟨step_free rfl (fun aF wF hs hb => ?_), ?_⟩
    · obtain ⟨x0, -⟩ := hs
      have e0 : aF.eval (.tmp 1) = .pointer (some ⟨p, 0, none⟩) := x0
      exact opC_load e0 (LD wF hb) ⟨rfl, below_same wF⟩
    refine ⟨step_free rfl (fun aF wF hs hb => ?_), ?_⟩
    · obtain ⟨x0, -⟩ := hs
      have e0 : aF.eval (.tmp 1) = .pointer (some ⟨p, 0, none⟩) := x0
      exact opC_load e0 (LD wF hb) ⟨rfl, below_same wF⟩
    refine ⟨step_free rfl (fun aF wF hs hb => ?_), ?_⟩
    · obtain ⟨x0, -⟩ := hs
      have e0 : aF.eval (.tmp 4) = .agg #[.int .u8 (k : Int), .int .u32 (a : Int), .int .u8 (K : Int), .int .i64 P, .int .u32 (R : Int), .int .u8 (B : Int), .int .i64 M, .int .i32 S, .int .i64 F, .int .i64 G, .int .u32 (s : Int), .int .i32 d, .int .u8 (ek : Int), .int .i64 m] := x0
      exact opC_call (args := #[.agg #[.int .u8 (k : Int), .int .u32 (a : Int), .int .u8 (K : Int), .int .i64 P, .int .u32 (R : Int), .int .u8 (B : Int), .int .i64 M, .int .i32 S, .int .i64 F, .int .i64 G, .int .u32 (s : Int), .int .i32 d, .int .u8 (ek : Int), .int .i64 m]]) (enters_of Tryz.func28 (by kernel_rfl) rfl) (by simp [e0]) (HN wF) (fun _ h => ⟨rfl, h⟩)
    refine ⟨step_free rfl (fun aF wF hs hb => ?_), ?_⟩
    · obtain ⟨x0, x1, -⟩ := hs
      have e0 : aF.eval (.tmp 3) = .agg #[.int .u8 (k : Int), .int .u32 (a : Int), .int .u8 (K : Int), .int .i64 P, .int .u32 (R : Int), .int .u8 (B : Int), .int .i64 M, .int .i32 S, .int .i64 F, .int .i64 G, .int .u32 (s : Int), .int .i32 d, .int .u8 (ek : Int), .int .i64 m] := x0
      have e1 : aF.eval (.tmp 5) = .agg N := x1
      refine opC_value (v := .bool false) ?_ ⟨rfl, below_same wF⟩
      have t0 := ev_of e0
      have t1 := ev_of e1
      simp [execOp, go_sem, t0, t1, HEQ]
    exact trivial
  · intro fv w6 hf hb6
    have hp6 : fv 3 = _ := hf 3 6 rfl
    have HQ6 := Lib.hid (HQ.out.below hb6 HQ.out.lt)
    have HB6 := Lib.hid (HB.out.trans (hb6.mono (by have := HQ.out.lt; omega)))
    simp only [putF, Act.put, List.setIfInBounds_toArray, List.set_cons_zero, List.set_cons_succ]
    rw [hp6]
    clear hp6 hf hb6 LD HN HEQ HQ HB
    change ∀ W, Calls Tryz.prog _ #[.agg #[.int .u8 (K : Int), .int .i64 P, .int .u32 (R : Int), .int .u8 (B : Int), .int .i64 M, .int .i32 S, .int .i64 F, .int .i64 G]] W _ at HC
    have z0 := HQ6.out.cell 0
    simp at z0
    go_wp2_with (with_reducible refine wpl_loadB (o := ⟨some 12, _, _, _, _, _⟩) rfl 28 (.tmp 11) rfl p 2 rfl HQ6.out #[.int .u8 (K : Int), .int .i64 P, .int .u32 (R : Int), .int .u8 (B : Int), .int .i64 M, .int .i32 S, .int .i64 F, .int .i64 G] ?g1 ?g2 ?_)
    case g1 => exact part_of (by rfl)
    case g2 => exact rowTm
    go_wp2_with fail
    refine (HC _).mono ?_
    rintro e w7 ⟨rfl, hb7⟩
    have HB7 := Lib.hid (HB6.out.trans (hb7.mono (by have := HB6.out.size; have := HW.out.2; omega)))
    clear hb7 HC
    go_wp2_with fail
    go_ret
    exact ⟨rfl, by rw [HW.out.2]; exact HB7.out⟩
set_option maxRecDepth 100000 in
set_option maxHeartbeats 4000000 in
theorem ORight_2false (o : Ord) (h0 : o = o.named) (h : o.k = 2) (ht : ¬ o.e.Right) (w : World) : Calls Tryz.prog 12 #[o.v] w (Ret (.bool false) w) := by
  have HN := fun W => named_any o W
  have HEQ : ∀ W, (Op.equalIn 10000 32 o.v o.named.v).run Tryz.prog W = .ok true W := fun W => by
    haveI := Classical.propDecidable (o = o.named)
    rw [eqO o o.named W, decide_eq_true h0]
  obtain ⟨N, hN⟩ : ∃ N, o.named.v = .agg N := ⟨_, rfl⟩
  rw [hN] at HN HEQ
  clear hN
  have HC := fun W => ERight_any o.e W
  rw [show o.e.rightB = false by exact Bool.eq_false_iff.2 (fun hh => ht (ev_right.1 hh))] at HC
  obtain ⟨k, a, ⟨K, P, R, B, M, S, F, G⟩, s, d, ek, m⟩ := o
  try dsimp only at h0
  try dsimp only at h
  have j1 : ((k : Int) == 1) = false := by rw [beq_eq_false_iff_ne]; omega
  have j2 : ((k : Int) == 2) = true := by rw [beq_iff_eq]; omega
  clear h0 h ht
  change ∀ W, Calls Tryz.prog _ #[.agg #[.int .u8 (k : Int), .int .u32 (a : Int), .int .u8 (K : Int), .int .i64 P, .int .u32 (R : Int), .int .u8 (B : Int), .int .i64 M, .int .i32 S, .int .i64 F, .int .i64 G, .int .u32 (s : Int), .int .i32 d, .int .u8 (ek : Int), .int .i64 m]] W _ at HN
  change ∀ W, (Op.equalIn 10000 32 (.agg #[.int .u8 (k : Int), .int .u32 (a : Int), .int .u8 (K : Int), .int .i64 P, .int .u32 (R : Int), .int .u8 (B : Int), .int .i64 M, .int .i32 S, .int .i64 F, .int .i64 G, .int .u32 (s : Int), .int .i32 d, .int .u8 (ek : Int), .int .i64 m]) (.agg N)).run Tryz.prog W = _ at HEQ
  show Calls Tryz.prog 12 #[.agg #[.int .u8 (k : Int), .int .u32 (a : Int), .int .u8 (K : Int), .int .i64 P, .int .u32 (R : Int), .int .u8 (B : Int), .int .i64 M, .int .i32 S, .int .i64 F, .int .i64 G, .int .u32 (s : Int), .int .i32 d, .int .u8 (ek : Int), .int .i64 m]] w _
  obtain ⟨Z, hZ⟩ : ∃ Z : Array Value, Z = #[.int .u8 (k : Int), .int .u32 (a : Int), .int .u8 (K : Int), .int .i64 P, .int .u32 (R : Int), .int .u8 (B : Int), .int .i64 M, .int .i32 S, .int .i64 F, .int .i64 G, .int .u32 (s : Int), .int .i32 d, .int .u8 (ek : Int), .int .i64 m] := ⟨_, rfl⟩
  have hQ := Blk.new w 32 Z
  have hB := b_alloc w (.cells Z 32)
  obtain ⟨W0, hW⟩ : ∃ W, w.alloc (.cells Z 32) = W := ⟨_, rfl⟩
  rw [hW] at hQ hB
  subst hZ
  obtain ⟨p, hp⟩ : ∃ p, w.heap.size = p := ⟨_, rfl⟩
  rw [hp] at hQ hB
  have HQ := Lib.hid hQ
  have HB := Lib.hid hB
  have HW := Lib.hid (And.intro hW hp)
  clear hQ hB hW hp
  have LD : ∀ W, Below W0.heap.size W0 W → (Instr.loadAt 32 (.pointer (some ⟨p, 0, none⟩))).run Tryz.prog W = .ok (.agg #[.int .u8 (k : Int), .int .u32 (a : Int), .int .u8 (K : Int), .int .i64 P, .int .u32 (R : Int), .int .u8 (B : Int), .int .i64 M, .int .i32 S, .int .i64 F, .int .i64 G, .int .u32 (s : Int), .int .i32 d, .int .u8 (ek : Int), .int .i64 m]) W := fun W hb => run_loadB (HQ.out.below hb HQ.out.lt) _ 0 #[.int .u8 (k : Int), .int .u32 (a : Int), .int .u8 (K : Int), .int .i64 P, .int .u32 (R : Int), .int .u8 (B : Int), .int .i64 M, .int .i32 S, .int .i64 F, .int .i64 G, .int .u32 (s : Int), .int .i32 d, .int .u8 (ek : Int), .int .i64 m] (part_of (by rfl)) rowOr
  go_enter Tryz.func12, Tryz.ntmps12
  go_upto_region 1 with (fail)
  rw [HW.out.1, HW.out.2]
  refine wp_region_flow [some 3, some 4, some 5, some 6] (fun i => ([.is (.agg #[.int .u8 (k : Int), .int .u32 (a : Int), .int .u8 (K : Int), .int .i64 P, .int .u32 (R : Int), .int .u8 (B : Int), .int .i64 M, .int .i32 S, .int .i64 F, .int .i64 G, .int .u32 (s : Int), .int .i32 d, .int .u8 (ek : Int), .int .i64 m]), .is (.agg #[.int .u8 (k : Int), .int .u32 (a : Int), .int .u8 (K : Int), .int .i64 P, .int .u32 (R : Int), .int .u8 (B : Int), .int .i64 M, .int .i32 S, .int .i64 F, .int .i64 G, .int .u32 (s : Int), .int .i32 d, .int .u8 (ek : Int), .int .i64 m]), .is (.agg N), .is (.bool false)] : List Flw).getD i .any) (by kernel_rfl) (by kernel_rfl) rfl ?_ ?_
  · skip
    refine ⟨step_free rfl (fun aF wF hs hb => ?_), ?_⟩
    · obtain ⟨x0, -⟩ := hs
      have e0 : aF.eval (.tmp 1) = .pointer (some ⟨p, 0, none⟩) := x0
      exact opC_load e0 (LD wF hb) ⟨rfl, below_same wF⟩
    refine ⟨step_free rfl (fun aF wF hs hb => ?_), ?_⟩
    · obtain ⟨x0, -⟩ := hs
      have e0 : aF.eval (.tmp 1) = .pointer (some ⟨p, 0, none⟩) := x0
      exact opC_load e0 (LD wF hb) ⟨rfl, below_same wF⟩
    refine ⟨step_free rfl (fun aF wF hs hb => ?_), ?_⟩
    · obtain ⟨x0, -⟩ := hs
      have e0 : aF.eval (.tmp 4) = .agg #[.int .u8 (k : Int), .int .u32 (a : Int), .int .u8 (K : Int), .int .i64 P, .int .u32 (R : Int), .int .u8 (B : Int), .int .i64 M, .int .i32 S, .int .i64 F, .int .i64 G, .int .u32 (s : Int), .int .i32 d, .int .u8 (ek : Int), .int .i64 m] := x0
      exact opC_call (args := #[.agg #[.int .u8 (k : Int), .int .u32 (a : Int), .int .u8 (K : Int), .int .i64 P, .int .u32 (R : Int), .int .u8 (B : Int), .int .i64 M, .int .i32 S, .int .i64 F, .int .i64 G, .int .u32 (s : Int), .int .i32 d, .int .u8 (ek : Int), .int .i64 m]]) (enters_of Tryz.func28 (by kernel_rfl) rfl) (by simp [e0]) (HN wF) (fun _ h => ⟨rfl, h⟩)
    refine ⟨step_free rfl (fun aF wF hs hb => ?_), ?_⟩
    · obtain ⟨x0, x1, -⟩ := hs
      have e0 : aF.eval (.tmp 3) = .agg #[.int .u8 (k : Int), .int .u32 (a : Int), .int .u8 (K : Int), .int .i64 P, .int .u32 (R : Int), .int .u8 (B : Int), .int .i64 M, .int .i32 S, .int .i64 F, .int .i64 G, .int .u32 (s : Int), .int .i32 d, .int .u8 (ek : Int), .int .i64 m] := x0
      have e1 : aF.eval (.tmp 5) = .agg N := x1
      refine opC_value (v := .bool false) ?_ ⟨rfl, below_same wF⟩
      have t0 := ev_of e0
      have t1 := ev_of e1
      simp [execOp, go_sem, t0, t1, HEQ]
    exact trivial
  · intro fv w6 hf hb6
    have hp6 : fv 3 = _ := hf 3 6 rfl
    have HQ6 := Lib.hid (HQ.out.below hb6 HQ.out.lt)
    have HB6 := Lib.hid (HB.out.trans (hb6.mono (by have := HQ.out.lt; omega)))
    simp only [putF, Act.put, List.setIfInBounds_toArray, List.set_cons_zero, List.set_cons_succ]
    rw [hp6]
    clear hp6 hf hb6 LD HN HEQ HQ HB
    change ∀ W, Calls Tryz.prog _ #[.agg #[.int .u32 (s : Int), .int .i32 d, .int .u8 (ek : Int), .int .i64 m]] W _ at HC
    have z0 := HQ6.out.cell 0
    simp at z0
    go_wp2_with (with_reducible refine wpl_loadB (o := ⟨some 17, _, _, _, _, _⟩) rfl 30 (.tmp 16) rfl p 10 rfl HQ6.out #[.int .u32 (s : Int), .int .i32 d, .int .u8 (ek : Int), .int .i64 m] ?g1 ?g2 ?_)
    case g1 => exact part_of (by rfl)
    case g2 => exact rowEv
    go_wp2_with fail
    refine (HC _).mono ?_
    rintro e w7 ⟨rfl, hb7⟩
    have HB7 := Lib.hid (HB6.out.trans (hb7.mono (by have := HB6.out.size; have := HW.out.2; omega)))
    clear hb7 HC
    go_wp2_with fail
    go_ret
    exact ⟨rfl, by rw [HW.out.2]; exact HB7.out⟩
set_option maxRecDepth 100000 in
set_option maxHeartbeats 4000000 in
theorem ORight_3 (o : Ord) (h0 : o = o.named) (h : o.k = 3) (w : World) : Calls Tryz.prog 12 #[o.v] w (Ret (.bool true) w) := by
  have HN := fun W => named_any o W
  have HEQ : ∀ W, (Op.equalIn 10000 32 o.v o.named.v).run Tryz.prog W = .ok true W := fun W => by
    haveI := Classical.propDecidable (o = o.named)
    rw [eqO o o.named W, decide_eq_true h0]
  obtain ⟨N, hN⟩ : ∃ N, o.named.v = .agg N := ⟨_, rfl⟩
  rw [hN] at HN HEQ
  clear hN
  obtain ⟨k, a, ⟨K, P, R, B, M, S, F, G⟩, s, d, ek, m⟩ := o
  try dsimp only at h0
  try dsimp only at h
  have j1 : ((k : Int) == 1) = false := by rw [beq_eq_false_iff_ne]; omega
  have j2 : ((k : Int) == 2) = false := by rw [beq_eq_false_iff_ne]; omega
  have j3 : ((k : Int) == 3) = true := by rw [beq_iff_eq]; omega
  clear h0 h
  change ∀ W, Calls Tryz.prog _ #[.agg #[.int .u8 (k : Int), .int .u32 (a : Int), .int .u8 (K : Int), .int .i64 P, .int .u32 (R : Int), .int .u8 (B : Int), .int .i64 M, .int .i32 S, .int .i64 F, .int .i64 G, .int .u32 (s : Int), .int .i32 d, .int .u8 (ek : Int), .int .i64 m]] W _ at HN
  change ∀ W, (Op.equalIn 10000 32 (.agg #[.int .u8 (k : Int), .int .u32 (a : Int), .int .u8 (K : Int), .int .i64 P, .int .u32 (R : Int), .int .u8 (B : Int), .int .i64 M, .int .i32 S, .int .i64 F, .int .i64 G, .int .u32 (s : Int), .int .i32 d, .int .u8 (ek : Int), .int .i64 m]) (.agg N)).run Tryz.prog W = _ at HEQ
  show Calls Tryz.prog 12 #[.agg #[.int .u8 (k : Int), .int .u32 (a : Int), .int .u8 (K : Int), .int .i64 P, .int .u32 (R : Int), .int .u8 (B : Int), .int .i64 M, .int .i32 S, .int .i64 F, .int .i64 G, .int .u32 (s : Int), .int .i32 d, .int .u8 (ek : Int), .int .i64 m]] w _
  obtain ⟨Z, hZ⟩ : ∃ Z : Array Value, Z = #[.int .u8 (k : Int), .int .u32 (a : Int), .int .u8 (K : Int), .int .i64 P, .int .u32 (R : Int), .int .u8 (B : Int), .int .i64 M, .int .i32 S, .int .i64 F, .int .i64 G, .int .u32 (s : Int), .int .i32 d, .int .u8 (ek : Int), .int .i64 m] := ⟨_, rfl⟩
  have hQ := Blk.new w 32 Z
  have hB := b_alloc w (.cells Z 32)
  obtain ⟨W0, hW⟩ : ∃ W, w.alloc (.cells Z 32) = W := ⟨_, rfl⟩
  rw [hW] at hQ hB
  subst hZ
  obtain ⟨p, hp⟩ : ∃ p, w.heap.size = p := ⟨_, rfl⟩
  rw [hp] at hQ hB
  have HQ := Lib.hid hQ
  have HB := Lib.hid hB
  have HW := Lib.hid (And.intro hW hp)
  clear hQ hB hW hp
  have LD : ∀ W, Below W0.heap.size W0 W → (Instr.loadAt 32 (.pointer (some ⟨p, 0, none⟩))).run Tryz.prog W = .ok (.agg #[.int .u8 (k : Int), .int .u32 (a : Int), .int .u8 (K : Int), .int .i64 P, .int .u32 (R : Int), .int .u8 (B : Int), .int .i64 M, .int .i32 S, .int .i64 F, .int .i64 G, .int .u32 (s : Int), .int .i32 d, .int .u8 (ek : Int), .int .i64 m]) W := fun W hb => run_loadB (HQ.out.below hb HQ.out.lt) _ 0 #[.int .u8 (k : Int), .int .u32 (a : Int), .int .u8 (K : Int), .int .i64 P, .int .u32 (R : Int), .int .u8 (B : Int), .int .i64 M, .int .i32 S, .int .i64 F, .int .i64 G, .int .u32 (s : Int), .int .i32 d, .int .u8 (ek : Int), .int .i64 m] (part_of (by rfl)) rowOr
  go_enter Tryz.func12, Tryz.ntmps12
  go_upto_region 1 with (fail)
  rw [HW.out.1, HW.out.2]
  refine wp_region_flow [some 3, some 4, some 5, some 6] (fun i => ([.is (.agg #[.int .u8 (k : Int), .int .u32 (a : Int), .int .u8 (K : Int), .int .i64 P, .int .u32 (R : Int), .int .u8 (B : Int), .int .i64 M, .int .i32 S, .int .i64 F, .int .i64 G, .int .u32 (s : Int), .int .i32 d, .int .u8 (ek : Int), .int .i64 m]), .is (.agg #[.int .u8 (k : Int), .int .u32 (a : Int), .int .u8 (K : Int), .int .i64 P, .int .u32 (R : Int), .int .u8 (B : Int), .int .i64 M, .int .i32 S, .int .i64 F, .int .i64 G, .int .u32 (s : Int), .int .i32 d, .int .u8 (ek : Int), .int .i64 m]), .is (.agg N), .is (.bool false)] : List Flw).getD i .any) (by kernel_rfl) (by kernel_rfl) rfl ?_ ?_
  · skip
    refine ⟨step_free rfl (fun aF wF hs hb => ?_), ?_⟩
    · obtain ⟨x0, -⟩ := hs
      have e0 : aF.eval (.tmp 1) = .pointer (some ⟨p, 0, none⟩) := x0
      exact opC_load e0 (LD wF hb) ⟨rfl, below_same wF⟩
    refine ⟨step_free rfl (fun aF wF hs hb => ?_), ?_⟩
    · obtain ⟨x0, -⟩ := hs
      have e0 : aF.eval (.tmp 1) = .pointer (some ⟨p, 0, none⟩) := x0
      exact opC_load e0 (LD wF hb) ⟨rfl, below_same wF⟩
    refine ⟨step_free rfl (fun aF wF hs hb => ?_), ?_⟩
    · obtain ⟨x0, -⟩ := hs
      have e0 : aF.eval (.tmp 4) = .agg #[.int .u8 (k : Int), .int .u32 (a : Int), .int .u8 (K : Int), .int .i64 P, .int .u32 (R : Int), .int .u8 (B : Int), .int .i64 M, .int .i32 S, .int .i64 F, .int .i64 G, .int .u32 (s : Int), .int .i32 d, .int .u8 (ek : Int), .int .i64 m] := x0
      exact opC_call (args := #[.agg #[.int .u8 (k : Int), .int .u32 (a : Int), .int .u8 (K : Int), .int .i64 P, .int .u32 (R : Int), .int .u8 (B : Int), .int .i64 M, .int .i32 S, .int .i64 F, .int .i64 G, .int .u32 (s : Int), .int .i32 d, .int .u8 (ek : Int), .int .i64 m]]) (enters_of Tryz.func28 (by kernel_rfl) rfl) (by simp [e0]) (HN wF) (fun _ h => ⟨rfl, h⟩)
    refine ⟨step_free rfl (fun aF wF hs hb => ?_), ?_⟩
    · obtain ⟨x0, x1, -⟩ := hs
      have e0 : aF.eval (.tmp 3) = .agg #[.int .u8 (k : Int), .int .u32 (a : Int), .int .u8 (K : Int), .int .i64 P, .int .u32 (R : Int), .int .u8 (B : Int), .int .i64 M, .int .i32 S, .int .i64 F, .int .i64 G, .int .u32 (s : Int), .int .i32 d, .int .u8 (ek : Int), .int .i64 m] := x0
      have e1 : aF.eval (.tmp 5) = .agg N := x1
      refine opC_value (v := .bool false) ?_ ⟨rfl, below_same wF⟩
      have t0 := ev_of e0
      have t1 := ev_of e1
      simp [execOp, go_sem, t0, t1, HEQ]
    exact trivial
  · intro fv w6 hf hb6
    have hp6 : fv 3 = _ := hf 3 6 rfl
    have HQ6 := Lib.hid (HQ.out.below hb6 HQ.out.lt)
    have HB6 := Lib.hid (HB.out.trans (hb6.mono (by have := HQ.out.lt; omega)))
    simp only [putF, Act.put, List.setIfInBounds_toArray, List.set_cons_zero, List.set_cons_succ]
    rw [hp6]
    clear hp6 hf hb6 LD HN HEQ HQ HB
    have z0 := HQ6.out.cell 0
    simp at z0
    go_wp2_with fail
    go_ret
    exact ⟨rfl, by rw [HW.out.2]; exact HB6.out⟩
set_option maxRecDepth 100000 in
set_option maxHeartbeats 4000000 in
theorem ORight_4 (o : Ord) (h0 : o = o.named) (h : o.k = 4) (w : World) : Calls Tryz.prog 12 #[o.v] w (Ret (.bool true) w) := by
  have HN := fun W => named_any o W
  have HEQ : ∀ W, (Op.equalIn 10000 32 o.v o.named.v).run Tryz.prog W = .ok true W := fun W => by
    haveI := Classical.propDecidable (o = o.named)
    rw [eqO o o.named W, decide_eq_true h0]
  obtain ⟨N, hN⟩ : ∃ N, o.named.v = .agg N := ⟨_, rfl⟩
  rw [hN] at HN HEQ
  clear hN
  obtain ⟨k, a, ⟨K, P, R, B, M, S, F, G⟩, s, d, ek, m⟩ := o
  try dsimp only at h0
  try dsimp only at h
  have j1 : ((k : Int) == 1) = false := by rw [beq_eq_false_iff_ne]; omega
  have j2 : ((k : Int) == 2) = false := by rw [beq_eq_false_iff_ne]; omega
  have j3 : ((k : Int) == 3) = false := by rw [beq_eq_false_iff_ne]; omega
  have j4 : ((k : Int) == 4) = true := by rw [beq_iff_eq]; omega
  clear h0 h
  change ∀ W, Calls Tryz.prog _ #[.agg #[.int .u8 (k : Int), .int .u32 (a : Int), .int .u8 (K : Int), .int .i64 P, .int .u32 (R : Int), .int .u8 (B : Int), .int .i64 M, .int .i32 S, .int .i64 F, .int .i64 G, .int .u32 (s : Int), .int .i32 d, .int .u8 (ek : Int), .int .i64 m]] W _ at HN
  change ∀ W, (Op.equalIn 10000 32 (.agg #[.int .u8 (k : Int), .int .u32 (a : Int), .int .u8 (K : Int), .int .i64 P, .int .u32 (R : Int), .int .u8 (B : Int), .int .i64 M, .int .i32 S, .int .i64 F, .int .i64 G, .int .u32 (s : Int), .int .i32 d, .int .u8 (ek : Int), .int .i64 m]) (.agg N)).run Tryz.prog W = _ at HEQ
  show Calls Tryz.prog 12 #[.agg #[.int .u8 (k : Int), .int .u32 (a : Int), .int .u8 (K : Int), .int .i64 P, .int .u32 (R : Int), .int .u8 (B : Int), .int .i64 M, .int .i32 S, .int .i64 F, .int .i64 G, .int .u32 (s : Int), .int .i32 d, .int .u8 (ek : Int), .int .i64 m]] w _
  obtain ⟨Z, hZ⟩ : ∃ Z : Array Value, Z = #[.int .u8 (k : Int), .int .u32 (a : Int), .int .u8 (K : Int), .int .i64 P, .int .u32 (R : Int), .int .u8 (B : Int), .int .i64 M, .int .i32 S, .int .i64 F, .int .i64 G, .int .u32 (s : Int), .int .i32 d, .int .u8 (ek : Int), .int .i64 m] := ⟨_, rfl⟩
  have hQ := Blk.new w 32 Z
  have hB := b_alloc w (.cells Z 32)
  obtain ⟨W0, hW⟩ : ∃ W, w.alloc (.cells Z 32) = W := ⟨_, rfl⟩
  rw [hW] at hQ hB
  subst hZ
  obtain ⟨p, hp⟩ : ∃ p, w.heap.size = p := ⟨_, rfl⟩
  rw [hp] at hQ hB
  have HQ := Lib.hid hQ
  have HB := Lib.hid hB
  have HW := Lib.hid (And.intro hW hp)
  clear hQ hB hW hp
  have LD : ∀ W, Below W0.heap.size W0 W → (Instr.loadAt 32 (.pointer (some ⟨p, 0, none⟩))).run Tryz.prog W = .ok (.agg #[.int .u8 (k : Int), .int .u32 (a : Int), .int .u8 (K : Int), .int .i64 P, .int .u32 (R : Int), .int .u8 (B : Int), .int .i64 M, .int .i32 S, .int .i64 F, .int .i64 G, .int .u32 (s : Int), .int .i32 d, .int .u8 (ek : Int), .int .i64 m]) W := fun W hb => run_loadB (HQ.out.below hb HQ.out.lt) _ 0 #[.int .u8 (k : Int), .int .u32 (a : Int), .int .u8 (K : Int), .int .i64 P, .int .u32 (R : Int), .int .u8 (B : Int), .int .i64 M, .int .i32 S, .int .i64 F, .int .i64 G, .int .u32 (s : Int), .int .i32 d, .int .u8 (ek : Int), .int .i64 m] (part_of (by rfl)) rowOr
  go_enter Tryz.func12, Tryz.ntmps12
  go_upto_region 1 with (fail)
  rw [HW.out.1, HW.out.2]
  refine wp_region_flow [some 3, some 4, some 5, some 6] (fun i => ([.is (.agg #[.int .u8 (k : Int), .int .u32 (a : Int), .int .u8 (K : Int), .int .i64 P, .int .u32 (R : Int), .int .u8 (B : Int), .int .i64 M, .int .i32 S, .int .i64 F, .int .i64 G, .int .u32 (s : Int), .int .i32 d, .int .u8 (ek : Int), .int .i64 m]), .is (.agg #[.int .u8 (k : Int), .int .u32 (a : Int), .int .u8 (K : Int), .int .i64 P, .int .u32 (R : Int), .int .u8 (B : Int), .int .i64 M, .int .i32 S, .int .i64 F, .int .i64 G, .int .u32 (s : Int), .int .i32 d, .int .u8 (ek : Int), .int .i64 m]), .is (.agg N), .is (.bool false)] : List Flw).getD i .any) (by kernel_rfl) (by kernel_rfl) rfl ?_ ?_
  · skip
    refine ⟨step_free rfl (fun aF wF hs hb => ?_), ?_⟩
    · obtain ⟨x0, -⟩ := hs
      have e0 : aF.eval (.tmp 1) = .pointer (some ⟨p, 0, none⟩) := x0
      exact opC_load e0 (LD wF hb) ⟨rfl, below_same wF⟩
    refine ⟨step_free rfl (fun aF wF hs hb => ?_), ?_⟩
    · obtain ⟨x0, -⟩ := hs
      have e0 : aF.eval (.tmp 1) = .pointer (some ⟨p, 0, none⟩) := x0
      exact opC_load e0 (LD wF hb) ⟨rfl, below_same wF⟩
    refine ⟨step_free rfl (fun aF wF hs hb => ?_), ?_⟩
    · obtain ⟨x0, -⟩ := hs
      have e0 : aF.eval (.tmp 4) = .agg #[.int .u8 (k : Int), .int .u32 (a : Int), .int .u8 (K : Int), .int .i64 P, .int .u32 (R : Int), .int .u8 (B : Int), .int .i64 M, .int .i32 S, .int .i64 F, .int .i64 G, .int .u32 (s : Int), .int .i32 d, .int .u8 (ek : Int), .int .i64 m] := x0
      exact opC_call (args := #[.agg #[.int .u8 (k : Int), .int .u32 (a : Int), .int .u8 (K : Int), .int .i64 P, .int .u32 (R : Int), .int .u8 (B : Int), .int .i64 M, .int .i32 S, .int .i64 F, .int .i64 G, .int .u32 (s : Int), .int .i32 d, .int .u8 (ek : Int), .int .i64 m]]) (enters_of Tryz.func28 (by kernel_rfl) rfl) (by simp [e0]) (HN wF) (fun _ h => ⟨rfl, h⟩)
    refine ⟨step_free rfl (fun aF wF hs hb => ?_), ?_⟩
    · obtain ⟨x0, x1, -⟩ := hs
      have e0 : aF.eval (.tmp 3) = .agg #[.int .u8 (k : Int), .int .u32 (a : Int), .int .u8 (K : Int), .int .i64 P, .int .u32 (R : Int), .int .u8 (B : Int), .int .i64 M, .int .i32 S, .int .i64 F, .int .i64 G, .int .u32 (s : Int), .int .i32 d, .int .u8 (ek : Int), .int .i64 m] := x0
      have e1 : aF.eval (.tmp 5) = .agg N := x1
      refine opC_value (v := .bool false) ?_ ⟨rfl, below_same wF⟩
      have t0 := ev_of e0
      have t1 := ev_of e1
      simp [execOp, go_sem, t0, t1, HEQ]
    exact trivial
  · intro fv w6 hf hb6
    have hp6 : fv 3 = _ := hf 3 6 rfl
    have HQ6 := Lib.hid (HQ.out.below hb6 HQ.out.lt)
    have HB6 := Lib.hid (HB.out.trans (hb6.mono (by have := HQ.out.lt; omega)))
    simp only [putF, Act.put, List.setIfInBounds_toArray, List.set_cons_zero, List.set_cons_succ]
    rw [hp6]
    clear hp6 hf hb6 LD HN HEQ HQ HB
    have z0 := HQ6.out.cell 0
    simp at z0
    go_wp2_with fail
    go_ret
    exact ⟨rfl, by rw [HW.out.2]; exact HB6.out⟩
set_option maxRecDepth 100000 in
set_option maxHeartbeats 4000000 in
theorem ORight_5 (o : Ord) (h0 : o = o.named) (h : o.k = 0 ∨ 4 < o.k) (w : World) : Calls Tryz.prog 12 #[o.v] w (Ret (.bool false) w) := by
  have HN := fun W => named_any o W
  have HEQ : ∀ W, (Op.equalIn 10000 32 o.v o.named.v).run Tryz.prog W = .ok true W := fun W => by
    haveI := Classical.propDecidable (o = o.named)
    rw [eqO o o.named W, decide_eq_true h0]
  obtain ⟨N, hN⟩ : ∃ N, o.named.v = .agg N := ⟨_, rfl⟩
  rw [hN] at HN HEQ
  clear hN
  obtain ⟨k, a, ⟨K, P, R, B, M, S, F, G⟩, s, d, ek, m⟩ := o
  try dsimp only at h0
  try dsimp only at h
  have j1 : ((k : Int) == 1) = false := by rw [beq_eq_false_iff_ne]; omega
  have j2 : ((k : Int) == 2) = false := by rw [beq_eq_false_iff_ne]; omega
  have j3 : ((k : Int) == 3) = false := by rw [beq_eq_false_iff_ne]; omega
  have j4 : ((k : Int) == 4) = false := by rw [beq_eq_false_iff_ne]; omega
  clear h0 h
  change ∀ W, Calls Tryz.prog _ #[.agg #[.int .u8 (k : Int), .int .u32 (a : Int), .int .u8 (K : Int), .int .i64 P, .int .u32 (R : Int), .int .u8 (B : Int), .int .i64 M, .int .i32 S, .int .i64 F, .int .i64 G, .int .u32 (s : Int), .int .i32 d, .int .u8 (ek : Int), .int .i64 m]] W _ at HN
  change ∀ W, (Op.equalIn 10000 32 (.agg #[.int .u8 (k : Int), .int .u32 (a : Int), .int .u8 (K : Int), .int .i64 P, .int .u32 (R : Int), .int .u8 (B : Int), .int .i64 M, .int .i32 S, .int .i64 F, .int .i64 G, .int .u32 (s : Int), .int .i32 d, .int .u8 (ek : Int), .int .i64 m]) (.agg N)).run Tryz.prog W = _ at HEQ
  show Calls Tryz.prog 12 #[.agg #[.int .u8 (k : Int), .int .u32 (a : Int), .int .u8 (K : Int), .int .i64 P, .int .u32 (R : Int), .int .u8 (B : Int), .int .i64 M, .int .i32 S, .int .i64 F, .int .i64 G, .int .u32 (s : Int), .int .i32 d, .int .u8 (ek : Int), .int .i64 m]] w _
  obtain ⟨Z, hZ⟩ : ∃ Z : Array Value, Z = #[.int .u8 (k : Int), .int .u32 (a : Int), .int .u8 (K : Int), .int .i64 P, .int .u32 (R : Int), .int .u8 (B : Int), .int .i64 M, .int .i32 S, .int .i64 F, .int .i64 G, .int .u32 (s : Int), .int .i32 d, .int .u8 (ek : Int), .int .i64 m] := ⟨_, rfl⟩
  have hQ := Blk.new w 32 Z
  have hB := b_alloc w (.cells Z 32)
  obtain ⟨W0, hW⟩ : ∃ W, w.alloc (.cells Z 32) = W := ⟨_, rfl⟩
  rw [hW] at hQ hB
  subst hZ
  obtain ⟨p, hp⟩ : ∃ p, w.heap.size = p := ⟨_, rfl⟩
  rw [hp] at hQ hB
  have HQ := Lib.hid hQ
  have HB := Lib.hid hB
  have HW := Lib.hid (And.intro hW hp)
  clear hQ hB hW hp
  have LD : ∀ W, Below W0.heap.size W0 W → (Instr.loadAt 32 (.pointer (some ⟨p, 0, none⟩))).run Tryz.prog W = .ok (.agg #[.int .u8 (k : Int), .int .u32 (a : Int), .int .u8 (K : Int), .int .i64 P, .int .u32 (R : Int), .int .u8 (B : Int), .int .i64 M, .int .i32 S, .int .i64 F, .int .i64 G, .int .u32 (s : Int), .int .i32 d, .int .u8 (ek : Int), .int .i64 m]) W := fun W hb => run_loadB (HQ.out.below hb HQ.out.lt) _ 0 #[.int .u8 (k : Int), .int .u32 (a : Int), .int .u8 (K : Int), .int .i64 P, .int .u32 (R : Int), .int .u8 (B : Int), .int .i64 M, .int .i32 S, .int .i64 F, .int .i64 G, .int .u32 (s : Int), .int .i32 d, .int .u8 (ek : Int), .int .i64 m] (part_of (by rfl)) rowOr
  go_enter Tryz.func12, Tryz.ntmps12
  go_upto_region 1 with (fail)
  rw [HW.out.1, HW.out.2]
  refine wp_region_flow [some 3, some 4, some 5, some 6] (fun i => ([.is (.agg #[.int .u8 (k : Int), .int .u32 (a : Int), .int .u8 (K : Int), .int .i64 P, .int .u32 (R : Int), .int .u8 (B : Int), .int .i64 M, .int .i32 S, .int .i64 F, .int .i64 G, .int .u32 (s : Int), .int .i32 d, .int .u8 (ek : Int), .int .i64 m]), .is (.agg #[.int .u8 (k : Int), .int .u32 (a : Int), .int .u8 (K : Int), .int .i64 P, .int .u32 (R : Int), .int .u8 (B : Int), .int .i64 M, .int .i32 S, .int .i64 F, .int .i64 G, .int .u32 (s : Int), .int .i32 d, .int .u8 (ek : Int), .int .i64 m]), .is (.agg N), .is (.bool false)] : List Flw).getD i .any) (by kernel_rfl) (by kernel_rfl) rfl ?_ ?_
  · skip
    refine ⟨step_free rfl (fun aF wF hs hb => ?_), ?_⟩
    · obtain ⟨x0, -⟩ := hs
      have e0 : aF.eval (.tmp 1) = .pointer (some ⟨p, 0, none⟩) := x0
      exact opC_load e0 (LD wF hb) ⟨rfl, below_same wF⟩
    refine ⟨step_free rfl (fun aF wF hs hb => ?_), ?_⟩
    · obtain ⟨x0, -⟩ := hs
      have e0 : aF.eval (.tmp 1) = .pointer (some ⟨p, 0, none⟩) := x0
      exact opC_load e0 (LD wF hb) ⟨rfl, below_same wF⟩
    refine ⟨step_free rfl (fun aF wF hs hb => ?_), ?_⟩
    · obtain ⟨x0, -⟩ := hs
      have e0 : aF.eval (.tmp 4) = .agg #[.int .u8 (k : Int), .int .u32 (a : Int), .int .u8 (K : Int), .int .i64 P, .int .u32 (R : Int), .int .u8 (B : Int), .int .i64 M, .int .i32 S, .int .i64 F, .int .i64 G, .int .u32 (s : Int), .int .i32 d, .int .u8 (ek : Int), .int .i64 m] := x0
      exact opC_call (args := #[.agg #[.int .u8 (k : Int), .int .u32 (a : Int), .int .u8 (K : Int), .int .i64 P, .int .u32 (R : Int), .int .u8 (B : Int), .int .i64 M, .int .i32 S, .int .i64 F, .int .i64 G, .int .u32 (s : Int), .int .i32 d, .int .u8 (ek : Int), .int .i64 m]]) (enters_of Tryz.func28 (by kernel_rfl) rfl) (by simp [e0]) (HN wF) (fun _ h => ⟨rfl, h⟩)
    refine ⟨step_free rfl (fun aF wF hs hb => ?_), ?_⟩
    · obtain ⟨x0, x1, -⟩ := hs
      have e0 : aF.eval (.tmp 3) = .agg #[.int .u8 (k : Int), .int .u32 (a : Int), .int .u8 (K : Int), .int .i64 P, .int .u32 (R : Int), .int .u8 (B : Int), .int .i64 M, .int .i32 S, .int .i64 F, .int .i64 G, .int .u32 (s : Int), .int .i32 d, .int .u8 (ek : Int), .int .i64 m] := x0
      have e1 : aF.eval (.tmp 5) = .agg N := x1
      refine opC_value (v := .bool false) ?_ ⟨rfl, below_same wF⟩
      have t0 := ev_of e0
      have t1 := ev_of e1
      simp [execOp, go_sem, t0, t1, HEQ]
    exact trivial
  · intro fv w6 hf hb6
    have hp6 : fv 3 = _ := hf 3 6 rfl
    have HQ6 := Lib.hid (HQ.out.below hb6 HQ.out.lt)
    have HB6 := Lib.hid (HB.out.trans (hb6.mono (by have := HQ.out.lt; omega)))
    simp only [putF, Act.put, List.setIfInBounds_toArray, List.set_cons_zero, List.set_cons_succ]
    rw [hp6]
    clear hp6 hf hb6 LD HN HEQ HQ HB
    have z0 := HQ6.out.cell 0
    simp at z0
    go_wp2_with fail
    go_ret
    exact ⟨rfl, by rw [HW.out.2]; exact HB6.out⟩
theorem ORight_true {o : Ord} (h : o.Right) (w : World) : Calls Tryz.prog 12 #[o.v] w (Ret (.bool true) w) := by
  obtain ⟨h0, h1, h2, h3, h4⟩ := h
  by_cases k1 : o.k = 1
  · exact ORight_1true o h0 k1 (h1 k1) w
  by_cases k2 : o.k = 2
  · exact ORight_2true o h0 k2 (h2 k2) w
  by_cases k3 : o.k = 3
  · exact ORight_3 o h0 k3 w
  · exact ORight_4 o h0 (by omega) w
theorem ORight_false {o : Ord} (h : ¬ o.Right) (w : World) : Calls Tryz.prog 12 #[o.v] w (Ret (.bool false) w) := by
  by_cases h0 : o = o.named
  · by_cases k1 : o.k = 1
    · exact ORight_1false o h0 k1 (fun ht => h ⟨h0, fun _ => ht, fun k2 => by omega, by omega, by omega⟩) w
    by_cases k2 : o.k = 2
    · exact ORight_2false o h0 k2 (fun ht => h ⟨h0, fun k1 => by omega, fun _ => ht, by omega, by omega⟩) w
    by_cases k5 : o.k = 0 ∨ 4 < o.k
    · exact ORight_5 o h0 k5 w
    · exact absurd ⟨h0, fun k1 => by omega, fun k2 => by omega, by omega, by omega⟩ h
  · exact ORight_0 o h0 w
end Go.Proofs.YtjlajnackecfgaaGreatDoor
