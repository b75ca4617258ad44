/-
order.Text. Conditions: what is laid.
-/
import Derived.Test.YtjlajnackecfgaaGreatDoorOdGW9
namespace Go.Proofs.YtjlajnackecfgaaGreatDoor
open Go.ChangeShapes Go.WideShapes Go.ChangeAt Go.RowKit Go.Shelf
set_option maxRecDepth 100000 in
set_option maxHeartbeats 4000000 in
theorem OText_no {o : Ord} (h : ¬ o.Right) (w : World) : Calls Tryz.prog 20 #[o.v] w (Ret (.string ⟨#[]⟩) w) := by
  have hT := fun W => ORight_false h W
  obtain ⟨k, a, ⟨K, P, R, B, M, S, F, G⟩, s, d, ek, m⟩ := o
  clear h
  change ∀ W, Calls Tryz.prog _ #[.agg #[.int .u8 (k : Int), .int .u32 (a : Int), .int .u8 (K : Int), .int .i64 P, .int .u32 (R : Int), .int .u8 (B : Int), .int .i64 M, .int .i32 S, .int .i64 F, .int .i64 G, .int .u32 (s : Int), .int .i32 d, .int .u8 (ek : Int), .int .i64 m]] W _ at hT
  show Calls Tryz.prog 20 #[.agg #[.int .u8 (k : Int), .int .u32 (a : Int), .int .u8 (K : Int), .int .i64 P, .int .u32 (R : Int), .int .u8 (B : Int), .int .i64 M, .int .i32 S, .int .i64 F, .int .i64 G, .int .u32 (s : Int), .int .i32 d, .int .u8 (ek : Int), .int .i64 m]] w _
  have HQ := Lib.hid (Blk.new w 32 #[.int .u8 (k : Int), .int .u32 (a : Int), .int .u8 (K : Int), .int .i64 P, .int .u32 (R : Int), .int .u8 (B : Int), .int .i64 M, .int .i32 S, .int .i64 F, .int .i64 G, .int .u32 (s : Int), .int .i32 d, .int .u8 (ek : Int), .int .i64 m])
  have HB0 := Lib.hid (b_alloc w (.cells #[.int .u8 (k : Int), .int .u32 (a : Int), .int .u8 (K : Int), .int .i64 P, .int .u32 (R : Int), .int .u8 (B : Int), .int .i64 M, .int .i32 S, .int .i64 F, .int .i64 G, .int .u32 (s : Int), .int .i32 d, .int .u8 (ek : Int), .int .i64 m] 32))
  go_enter Tryz.func20, Tryz.ntmps20
  go_wp2_with (with_reducible refine wpl_loadB (o := ⟨some 6, _, _, _, _, _⟩) rfl 32 (.tmp 1) rfl w.heap.size 0 rfl HQ.out #[.int .u8 (k : Int), .int .u32 (a : Int), .int .u8 (K : Int), .int .i64 P, .int .u32 (R : Int), .int .u8 (B : Int), .int .i64 M, .int .i32 S, .int .i64 F, .int .i64 G, .int .u32 (s : Int), .int .i32 d, .int .u8 (ek : Int), .int .i64 m] ?g1 ?g2 ?_)
  case g1 => exact part_of (by rfl)
  case g2 => exact rowOr
  go_wp2_with fail
  refine (hT _).mono ?_
  rintro e w1 ⟨rfl, hb1⟩
  have HB1 := Lib.hid (HB0.out.trans (hb1.mono HB0.out.size))
  clear hb1 HQ HB0 hT
  go_wp2_with fail
  go_ret
  exact ⟨by first | rfl | simp, HB1.out⟩
set_option maxRecDepth 100000 in
set_option maxHeartbeats 4000000 in
theorem OText_1 {k a K R B s ek : Nat} {P M S F G d m : Int} {tx : ByteArray} (htx : tx.data.toList.length ≤ 300) (cT : ∀ W, TLd W → Calls Tryz.prog 44 #[.agg #[.int .u8 (K : Int), .int .i64 P, .int .u32 (R : Int), .int .u8 (B : Int), .int .i64 M, .int .i32 S, .int .i64 F, .int .i64 G]] W (Ret (.string tx) W)) (ha : a < 4294967296) (hs : s < 4294967296) (j : k = 1) (hT : ∀ W, Calls Tryz.prog 12 #[.agg #[.int .u8 (k : Int), .int .u32 (a : Int), .int .u8 (K : Int), .int .i64 P, .int .u32 (R : Int), .int .u8 (B : Int), .int .i64 M, .int .i32 S, .int .i64 F, .int .i64 G, .int .u32 (s : Int), .int .i32 d, .int .u8 (ek : Int), .int .i64 m]] W (Ret (.bool true) W)) (w : World) (hl : TLd w) : Calls Tryz.prog 20 #[.agg #[.int .u8 (k : Int), .int .u32 (a : Int), .int .u8 (K : Int), .int .i64 P, .int .u32 (R : Int), .int .u8 (B : Int), .int .i64 M, .int .i32 S, .int .i64 F, .int .i64 G, .int .u32 (s : Int), .int .i32 d, .int .u8 (ek : Int), .int .i64 m]] w (Ret (.string (sps [boardS, dec a, tx])) w) := by
  have j1 : ((k : Int) == 1) = true := by rw [beq_iff_eq]; omega
  clear j
  have HQ := Lib.hid (Blk.new w 32 #[.int .u8 (k : Int), .int .u32 (a : Int), .int .u8 (K : Int), .int .i64 P, .int .u32 (R : Int), .int .u8 (B : Int), .int .i64 M, .int .i32 S, .int .i64 F, .int .i64 G, .int .u32 (s : Int), .int .i32 d, .int .u8 (ek : Int), .int .i64 m])
  have HB0 := Lib.hid (b_alloc w (.cells #[.int .u8 (k : Int), .int .u32 (a : Int), .int .u8 (K : Int), .int .i64 P, .int .u32 (R : Int), .int .u8 (B : Int), .int .i64 M, .int .i32 S, .int .i64 F, .int .i64 G, .int .u32 (s : Int), .int .i32 d, .int .u8 (ek : Int), .int .i64 m] 32))
  go_enter Tryz.func20, Tryz.ntmps20
  go_wp2_with (with_reducible refine wpl_loadB (o := ⟨some 6, _, _, _, _, _⟩) rfl 32 (.tmp 1) rfl w.heap.size 0 rfl HQ.out #[.int .u8 (k : Int), .int .u32 (a : Int), .int .u8 (K : Int), .int .i64 P, .int .u32 (R : Int), .int .u8 (B : Int), .int .i64 M, .int .i32 S, .int .i64 F, .int .i64 G, .int .u32 (s : Int), .int .i32 d, .int .u8 (ek : Int), .int .i64 m] ?g1 ?g2 ?_)
  case g1 => exact part_of (by rfl)
  case g2 => exact rowOr
  go_wp2_with fail
  refine (hT _).mono ?_
  rintro e w1 ⟨rfl, hb1⟩
  have HB1 := Lib.hid (HB0.out.trans (hb1.mono HB0.out.size))
  have HQ1 := Lib.hid (HQ.out.below hb1 HQ.out.lt)
  have HL1 := Lib.hid (hl.below HB1.out)
  obtain ⟨b, hb⟩ : ∃ b, w.heap.size = b := ⟨_, rfl⟩
  rw [hb] at HQ1
  clear hb1 HQ HB0 hT hl
  rw [hb]
  have HWB := Lib.hid hb
  clear hb
  go_upto_region 3 with (fail)
  have LDa : ∀ W, Below w1.heap.size w1 W → (Instr.loadAt 22 (.pointer (some ⟨b, 1, none⟩))).run Tryz.prog W = .ok (.int .u32 (a : Int)) W := fun W hb => by
    obtain ⟨_, c1, -⟩ := blk14 (HQ1.out.below hb HQ1.out.lt)
    go_simp
  have LDs : ∀ W, Below w1.heap.size w1 W → (Instr.loadAt 22 (.pointer (some ⟨b, 10, none⟩))).run Tryz.prog W = .ok (.int .u32 (s : Int)) W := fun W hb => by
    obtain ⟨_, _, _, _, _, _, _, _, _, _, c1, -⟩ := blk14 (HQ1.out.below hb HQ1.out.lt)
    go_simp
  have CA : ∀ W, Below w1.heap.size w1 W → Calls Tryz.prog 42 #[.int .u32 (a : Int)] W (Ret (.string (dec a)) W) := fun W hb => decimal_any a ha W (HL1.out.below hb).po
  have CB : ∀ W, Below w1.heap.size w1 W → Calls Tryz.prog 42 #[.int .u32 (s : Int)] W (Ret (.string (dec s)) W) := fun W hb => decimal_any s hs W (HL1.out.below hb).po
  refine wp_region_flow [some 9, some 10, some 11, some 12, some 13, some 14, some 15, some 3, some 4] (fun i => ([.is (.pointer (some ⟨b, 1, none⟩)), .is (.int .u32 (a : Int)), .is (.string (dec a)), .is (.pointer (some ⟨b, 10, none⟩)), .is (.pointer (some ⟨b, 10, none⟩)), .is (.int .u32 (s : Int)), .is (.string (dec s)), .is (.string (dec a)), .is (.string (dec s))] : List Flw).getD i .any) (by kernel_rfl) (by kernel_rfl) rfl ?_ ?_
  · skip
    refine ⟨step_free rfl (fun aF wF hs hb => ?_), ?_⟩
    · obtain ⟨x0, -⟩ := hs
      have e0 : aF.eval (.tmp 1) = .pointer (some ⟨b, 0, none⟩) := x0
      refine opC_value (v := .pointer (some ⟨b, 1, none⟩)) ?_ ⟨rfl, below_same wF⟩
      have t0 := ev_of e0
      simp [execOp, go_sem, t0]
    refine ⟨step_free rfl (fun aF wF hs hb => ?_), ?_⟩
    · obtain ⟨x0, -⟩ := hs
      have e0 : aF.eval (.tmp 9) = .pointer (some ⟨b, 1, none⟩) := x0
      exact opC_load e0 (LDa wF hb) ⟨rfl, below_same wF⟩
    refine ⟨step_free rfl (fun aF wF hs hb => ?_), ?_⟩
    · obtain ⟨x0, -⟩ := hs
      have e0 : aF.eval (.tmp 10) = .int .u32 (a : Int) := x0
      exact opC_call (args := #[.int .u32 (a : Int)]) (enters9 Tryz.func42 (by kernel_rfl) rfl) (by simp [e0]) (CA wF hb) (fun _ h => ⟨rfl, h⟩)
    refine ⟨step_free rfl (fun aF wF hs hb => ?_), ?_⟩
    · obtain ⟨x0, -⟩ := hs
      have e0 : aF.eval (.tmp 1) = .pointer (some ⟨b, 0, none⟩) := x0
      refine opC_value (v := .pointer (some ⟨b, 10, none⟩)) ?_ ⟨rfl, below_same wF⟩
      have t0 := ev_of e0
      simp [execOp, go_sem, t0]
    refine ⟨step_free rfl (fun aF wF hs hb => ?_), ?_⟩
    · obtain ⟨x0, -⟩ := hs
      have e0 : aF.eval (.tmp 12) = .pointer (some ⟨b, 10, none⟩) := x0
      refine opC_value (v := .pointer (some ⟨b, 10, none⟩)) ?_ ⟨rfl, below_same wF⟩
      have t0 := ev_of e0
      simp [execOp, go_sem, t0]
    refine ⟨step_free rfl (fun aF wF hs hb => ?_), ?_⟩
    · obtain ⟨x0, -⟩ := hs
      have e0 : aF.eval (.tmp 13) = .pointer (some ⟨b, 10, none⟩) := x0
      exact opC_load e0 (LDs wF hb) ⟨rfl, below_same wF⟩
    refine ⟨step_free rfl (fun aF wF hs hb => ?_), ?_⟩
    · obtain ⟨x0, -⟩ := hs
      have e0 : aF.eval (.tmp 14) = .int .u32 (s : Int) := x0
      exact opC_call (args := #[.int .u32 (s : Int)]) (enters9 Tryz.func42 (by kernel_rfl) rfl) (by simp [e0]) (CB wF hb) (fun _ h => ⟨rfl, h⟩)
    refine ⟨step_free rfl (fun aF wF hs hb => ?_), ?_⟩
    · obtain ⟨x0, -⟩ := hs
      have e0 : aF.eval (.tmp 11) = .string (dec a) := x0
      exact opC_assign e0 ⟨rfl, below_same wF⟩
    refine ⟨step_free rfl (fun aF wF hs hb => ?_), ?_⟩
    · obtain ⟨x0, -⟩ := hs
      have e0 : aF.eval (.tmp 15) = .string (dec s) := x0
      exact opC_assign e0 ⟨rfl, below_same wF⟩
    exact trivial
  intro fv w6 hf hb6
  have p3 : fv 7 = .string (dec a) := hf 7 3 rfl
  have p4 : fv 8 = .string (dec s) := hf 8 4 rfl
  have HQ6 := Lib.hid (HQ1.out.below hb6 HQ1.out.lt)
  have HL6 := Lib.hid (HL1.out.below hb6)
  have HB6 := Lib.hid (HB1.out.trans (hb6.mono HB1.out.size))
  simp only [putF, Act.put, List.setIfInBounds_toArray, List.set_cons_zero, List.set_cons_succ]
  rw [p3, p4]
  clear p3 p4 hf hb6 LDa LDs CA CB HQ1 HL1 HB1
  obtain ⟨c0, -⟩ := blk14 HQ6.out
  go_wp2_with (with_reducible refine wpl_loadB (o := ⟨some 22, _, _, _, _, _⟩) rfl 28 (.tmp 21) rfl b 2 rfl HQ6.out #[.int .u8 (K : Int), .int .i64 P, .int .u32 (R : Int), .int .u8 (B : Int), .int .i64 M, .int .i32 S, .int .i64 F, .int .i64 G] ?g3 ?g4 ?_)
  case g3 => exact part_of (by rfl)
  case g4 => exact rowTm
  go_wp2_with fail
  refine (cT _ HL6.out).mono ?_
  rintro e w7 ⟨rfl, hb7⟩
  have HB7 := Lib.hid (HB6.out.trans (hb7.mono HB6.out.size))
  clear hb7 cT
  have HW := Lib.hid (Blk.new w7 9 #[.string boardS, .string (dec a), .string tx])
  go_wp2_with (with_reducible refine wpl_strs3 (dst := some 24) (s0 := boardS) rfl rfl rfl ?_)
  have hJ := joined3 (len3 (a := boardS) (b := dec a) (c := tx) (by decide +kernel) (by have := dec_len a (by omega); omega) (by omega)) ⟨_, rfl, HW.out⟩
  have HJ := Lib.hid hJ
  clear hJ
  go_wp2_with fail
  refine HJ.out.mono ?_
  rintro e w8 ⟨rfl, hb8⟩
  have HB8 := Lib.hid ((HB7.out.alloc HB7.out.size _).trans (hb8.mono (by have := HB7.out.size; simp; omega)))
  clear hb8
  go_wp2_with fail
  go_ret
  exact ⟨rfl, HB8.out⟩
set_option maxRecDepth 100000 in
set_option maxHeartbeats 4000000 in
theorem OText_3 {k a K R B s ek : Nat} {P M S F G d m : Int} (ha : a < 4294967296) (hs : s < 4294967296) (j : k = 3) (hT : ∀ W, Calls Tryz.prog 12 #[.agg #[.int .u8 (k : Int), .int .u32 (a : Int), .int .u8 (K : Int), .int .i64 P, .int .u32 (R : Int), .int .u8 (B : Int), .int .i64 M, .int .i32 S, .int .i64 F, .int .i64 G, .int .u32 (s : Int), .int .i32 d, .int .u8 (ek : Int), .int .i64 m]] W (Ret (.bool true) W)) (w : World) (hl : TLd w) : Calls Tryz.prog 20 #[.agg #[.int .u8 (k : Int), .int .u32 (a : Int), .int .u8 (K : Int), .int .i64 P, .int .u32 (R : Int), .int .u8 (B : Int), .int .i64 M, .int .i32 S, .int .i64 F, .int .i64 G, .int .u32 (s : Int), .int .i32 d, .int .u8 (ek : Int), .int .i64 m]] w (Ret (.string (sps [revS, dec a, dec s])) w) := by
  have j1 : ((k : Int) == 1) = false := by rw [beq_eq_false_iff_ne]; omega
  have j3 : ((k : Int) == 3) = true := by rw [beq_iff_eq]; omega
  clear j
  have HQ := Lib.hid (Blk.new w 32 #[.int .u8 (k : Int), .int .u32 (a : Int), .int .u8 (K : Int), .int .i64 P, .int .u32 (R : Int), .int .u8 (B : Int), .int .i64 M, .int .i32 S, .int .i64 F, .int .i64 G, .int .u32 (s : Int), .int .i32 d, .int .u8 (ek : Int), .int .i64 m])
  have HB0 := Lib.hid (b_alloc w (.cells #[.int .u8 (k : Int), .int .u32 (a : Int), .int .u8 (K : Int), .int .i64 P, .int .u32 (R : Int), .int .u8 (B : Int), .int .i64 M, .int .i32 S, .int .i64 F, .int .i64 G, .int .u32 (s : Int), .int .i32 d, .int .u8 (ek : Int), .int .i64 m] 32))
  go_enter Tryz.func20, Tryz.ntmps20
  go_wp2_with (with_reducible refine wpl_loadB (o := ⟨some 6, _, _, _, _, _⟩) rfl 32 (.tmp 1) rfl w.heap.size 0 rfl HQ.out #[.int .u8 (k : Int), .int .u32 (a : Int), .int .u8 (K : Int), .int .i64 P, .int .u32 (R : Int), .int .u8 (B : Int), .int .i64 M, .int .i32 S, .int .i64 F, .int .i64 G, .int .u32 (s : Int), .int .i32 d, .int .u8 (ek : Int), .int .i64 m] ?g1 ?g2 ?_)
  case g1 => exact part_of (by rfl)
  case g2 => exact rowOr
  go_wp2_with fail
  refine (hT _).mono ?_
  rintro e w1 ⟨rfl, hb1⟩
  have HB1 := Lib.hid (HB0.out.trans (hb1.mono HB0.out.size))
  have HQ1 := Lib.hid (HQ.out.below hb1 HQ.out.lt)
  have HL1 := Lib.hid (hl.below HB1.out)
  obtain ⟨b, hb⟩ : ∃ b, w.heap.size = b := ⟨_, rfl⟩
  rw [hb] at HQ1
  clear hb1 HQ HB0 hT hl
  rw [hb]
  have HWB := Lib.hid hb
  clear hb
  go_upto_region 3 with (fail)
  have LDa : ∀ W, Below w1.heap.size w1 W → (Instr.loadAt 22 (.pointer (some ⟨b, 1, none⟩))).run Tryz.prog W = .ok (.int .u32 (a : Int)) W := fun W hb => by
    obtain ⟨_, c1, -⟩ := blk14 (HQ1.out.below hb HQ1.out.lt)
    go_simp
  have LDs : ∀ W, Below w1.heap.size w1 W → (Instr.loadAt 22 (.pointer (some ⟨b, 10, none⟩))).run Tryz.prog W = .ok (.int .u32 (s : Int)) W := fun W hb => by
    obtain ⟨_, _, _, _, _, _, _, _, _, _, c1, -⟩ := blk14 (HQ1.out.below hb HQ1.out.lt)
    go_simp
  have CA : ∀ W, Below w1.heap.size w1 W → Calls Tryz.prog 42 #[.int .u32 (a : Int)] W (Ret (.string (dec a)) W) := fun W hb => decimal_any a ha W (HL1.out.below hb).po
  have CB : ∀ W, Below w1.heap.size w1 W → Calls Tryz.prog 42 #[.int .u32 (s : Int)] W (Ret (.string (dec s)) W) := fun W hb => decimal_any s hs W (HL1.out.below hb).po
  refine wp_region_flow [some 9, some 10, some 11, some 12, some 13, some 14, some 15, some 3, some 4] (fun i => ([.is (.pointer (some ⟨b, 1, none⟩)), .is (.int .u32 (a : Int)), .is (.string (dec a)), .is (.pointer (some ⟨b, 10, none⟩)), .is (.pointer (some ⟨b, 10, none⟩)), .is (.int .u32 (s : Int)), .is (.string (dec s)), .is (.string (dec a)), .is (.string (dec s))] : List Flw).getD i .any) (by kernel_rfl) (by kernel_rfl) rfl ?_ ?_
  · skip
    refine ⟨step_free rfl (fun aF wF hs hb => ?_), ?_⟩
    · obtain ⟨x0, -⟩ := hs
      have e0 : aF.eval (.tmp 1) = .pointer (some ⟨b, 0, none⟩) := x0
      refine opC_value (v := .pointer (some ⟨b, 1, none⟩)) ?_ ⟨rfl, below_same wF⟩
      have t0 := ev_of e0
      simp [execOp, go_sem, t0]
    refine ⟨step_free rfl (fun aF wF hs hb => ?_), ?_⟩
    · obtain ⟨x0, -⟩ := hs
      have e0 : aF.eval (.tmp 9) = .pointer (some ⟨b, 1, none⟩) := x0
      exact opC_load e0 (LDa wF hb) ⟨rfl, below_same wF⟩
    refine ⟨step_free rfl (fun aF wF hs hb => ?_), ?_⟩
    · obtain ⟨x0, -⟩ := hs
      have e0 : aF.eval (.tmp 10) = .int .u32 (a : Int) := x0
      exact opC_call (args := #[.int .u32 (a : Int)]) (enters9 Tryz.func42 (by kernel_rfl) rfl) (by simp [e0]) (CA wF hb) (fun _ h => ⟨rfl, h⟩)
    refine ⟨step_free rfl (fun aF wF hs hb => ?_), ?_⟩
    · obtain ⟨x0, -⟩ := hs
      have e0 : aF.eval (.tmp 1) = .pointer (some ⟨b, 0, none⟩) := x0
      refine opC_value (v := .pointer (some ⟨b, 10, none⟩)) ?_ ⟨rfl, below_same wF⟩
      have t0 := ev_of e0
      simp [execOp, go_sem, t0]
    refine ⟨step_free rfl (fun aF wF hs hb => ?_), ?_⟩
    · obtain ⟨x0, -⟩ := hs
      have e0 : aF.eval (.tmp 12) = .pointer (some ⟨b, 10, none⟩) := x0
      refine opC_value (v := .pointer (some ⟨b, 10, none⟩)) ?_ ⟨rfl, below_same wF⟩
      have t0 := ev_of e0
      simp [execOp, go_sem, t0]
    refine ⟨step_free rfl (fun aF wF hs hb => ?_), ?_⟩
    · obtain ⟨x0, -⟩ := hs
      have e0 : aF.eval (.tmp 13) = .pointer (some ⟨b, 10, none⟩) := x0
      exact opC_load e0 (LDs wF hb) ⟨rfl, below_same wF⟩
    refine ⟨step_free rfl (fun aF wF hs hb => ?_), ?_⟩
    · obtain ⟨x0, -⟩ := hs
      have e0 : aF.eval (.tmp 14) = .int .u32 (s : Int) := x0
      exact opC_call (args := #[.int .u32 (s : Int)]) (enters9 Tryz.func42 (by kernel_rfl) rfl) (by simp [e0]) (CB wF hb) (fun _ h => ⟨rfl, h⟩)
    refine ⟨step_free rfl (fun aF wF hs hb => ?_), ?_⟩
    · obtain ⟨x0, -⟩ := hs
      have e0 : aF.eval (.tmp 11) = .string (dec a) := x0
      exact opC_assign e0 ⟨rfl, below_same wF⟩
    refine ⟨step_free rfl (fun aF wF hs hb => ?_), ?_⟩
    · obtain ⟨x0, -⟩ := hs
      have e0 : aF.eval (.tmp 15) = .string (dec s) := x0
      exact opC_assign e0 ⟨rfl, below_same wF⟩
    exact trivial
  intro fv w6 hf hb6
  have p3 : fv 7 = .string (dec a) := hf 7 3 rfl
  have p4 : fv 8 = .string (dec s) := hf 8 4 rfl
  have HQ6 := Lib.hid (HQ1.out.below hb6 HQ1.out.lt)
  have HL6 := Lib.hid (HL1.out.below hb6)
  have HB6 := Lib.hid (HB1.out.trans (hb6.mono HB1.out.size))
  simp only [putF, Act.put, List.setIfInBounds_toArray, List.set_cons_zero, List.set_cons_succ]
  rw [p3, p4]
  clear p3 p4 hf hb6 LDa LDs CA CB HQ1 HL1 HB1
  obtain ⟨c0, -⟩ := blk14 HQ6.out
  have HW := Lib.hid (Blk.new w6 9 #[.string revS, .string (dec a), .string (dec s)])
  go_wp2_with (with_reducible refine wpl_strs3 (dst := some 30) (s0 := revS) rfl rfl rfl ?_)
  have hJ := joined3 (len3 (a := revS) (b := dec a) (c := dec s) (by decide +kernel) (by have := dec_len a (by omega); omega) (by have := dec_len s (by omega); omega)) ⟨_, rfl, HW.out⟩
  have HJ := Lib.hid hJ
  clear hJ
  go_wp2_with fail
  refine HJ.out.mono ?_
  rintro e w8 ⟨rfl, hb8⟩
  have HB8 := Lib.hid ((HB6.out.alloc HB6.out.size _).trans (hb8.mono (by have := HB6.out.size; simp; omega)))
  clear hb8
  go_wp2_with fail
  go_ret
  exact ⟨rfl, HB8.out⟩
set_option maxRecDepth 100000 in
set_option maxHeartbeats 4000000 in
theorem OText_4 {k a K R B s ek : Nat} {P M S F G d m : Int} (ha : a < 4294967296) (hs : s < 4294967296) (j : k = 4) (hT : ∀ W, Calls Tryz.prog 12 #[.agg #[.int .u8 (k : Int), .int .u32 (a : Int), .int .u8 (K : Int), .int .i64 P, .int .u32 (R : Int), .int .u8 (B : Int), .int .i64 M, .int .i32 S, .int .i64 F, .int .i64 G, .int .u32 (s : Int), .int .i32 d, .int .u8 (ek : Int), .int .i64 m]] W (Ret (.bool true) W)) (w : World) (hl : TLd w) : Calls Tryz.prog 20 #[.agg #[.int .u8 (k : Int), .int .u32 (a : Int), .int .u8 (K : Int), .int .i64 P, .int .u32 (R : Int), .int .u8 (B : Int), .int .i64 M, .int .i32 S, .int .i64 F, .int .i64 G, .int .u32 (s : Int), .int .i32 d, .int .u8 (ek : Int), .int .i64 m]] w (Ret (.string (stepS)) w) := by
  have j1 : ((k : Int) == 1) = false := by rw [beq_eq_false_iff_ne]; omega
  have j3 : ((k : Int) == 3) = false := by rw [beq_eq_false_iff_ne]; omega
  have j4 : ((k : Int) == 4) = true := by rw [beq_iff_eq]; omega
  clear j
  have HQ := Lib.hid (Blk.new w 32 #[.int .u8 (k : Int), .int .u32 (a : Int), .int .u8 (K : Int), .int .i64 P, .int .u32 (R : Int), .int .u8 (B : Int), .int .i64 M, .int .i32 S, .int .i64 F, .int .i64 G, .int .u32 (s : Int), .int .i32 d, .int .u8 (ek : Int), .int .i64 m])
  have HB0 := Lib.hid (b_alloc w (.cells #[.int .u8 (k : Int), .int .u32 (a : Int), .int .u8 (K : Int), .int .i64 P, .int .u32 (R : Int), .int .u8 (B : Int), .int .i64 M, .int .i32 S, .int .i64 F, .int .i64 G, .int .u32 (s : Int), .int .i32 d, .int .u8 (ek : Int), .int .i64 m] 32))
  go_enter Tryz.func20, Tryz.ntmps20
  go_wp2_with (with_reducible refine wpl_loadB (o := ⟨some 6, _, _, _, _, _⟩) rfl 32 (.tmp 1) rfl w.heap.size 0 rfl HQ.out #[.int .u8 (k : Int), .int .u32 (a : Int), .int .u8 (K : Int), .int .i64 P, .int .u32 (R : Int), .int .u8 (B : Int), .int .i64 M, .int .i32 S, .int .i64 F, .int .i64 G, .int .u32 (s : Int), .int .i32 d, .int .u8 (ek : Int), .int .i64 m] ?g1 ?g2 ?_)
  case g1 => exact part_of (by rfl)
  case g2 => exact rowOr
  go_wp2_with fail
  refine (hT _).mono ?_
  rintro e w1 ⟨rfl, hb1⟩
  have HB1 := Lib.hid (HB0.out.trans (hb1.mono HB0.out.size))
  have HQ1 := Lib.hid (HQ.out.below hb1 HQ.out.lt)
  have HL1 := Lib.hid (hl.below HB1.out)
  obtain ⟨b, hb⟩ : ∃ b, w.heap.size = b := ⟨_, rfl⟩
  rw [hb] at HQ1
  clear hb1 HQ HB0 hT hl
  rw [hb]
  have HWB := Lib.hid hb
  clear hb
  go_upto_region 3 with (fail)
  have LDa : ∀ W, Below w1.heap.size w1 W → (Instr.loadAt 22 (.pointer (some ⟨b, 1, none⟩))).run Tryz.prog W = .ok (.int .u32 (a : Int)) W := fun W hb => by
    obtain ⟨_, c1, -⟩ := blk14 (HQ1.out.below hb HQ1.out.lt)
    go_simp
  have LDs : ∀ W, Below w1.heap.size w1 W → (Instr.loadAt 22 (.pointer (some ⟨b, 10, none⟩))).run Tryz.prog W = .ok (.int .u32 (s : Int)) W := fun W hb => by
    obtain ⟨_, _, _, _, _, _, _, _, _, _, c1, -⟩ := blk14 (HQ1.out.below hb HQ1.out.lt)
    go_simp
  have CA : ∀ W, Below w1.heap.size w1 W → Calls Tryz.prog 42 #[.int .u32 (a : Int)] W (Ret (.string (dec a)) W) := fun W hb => decimal_any a ha W (HL1.out.below hb).po
  have CB : ∀ W, Below w1.heap.size w1 W → Calls Tryz.prog 42 #[.int .u32 (s : Int)] W (Ret (.string (dec s)) W) := fun W hb => decimal_any s hs W (HL1.out.below hb).po
  refine wp_region_flow [some 9, some 10, some 11, some 12, some 13, some 14, some 15, some 3, some 4] (fun i => ([.is (.pointer (some ⟨b, 1, none⟩)), .is (.int .u32 (a : Int)), .is (.string (dec a)), .is (.pointer (some ⟨b, 10, none⟩)), .is (.pointer (some ⟨b, 10, none⟩)), .is (.int .u32 (s : Int)), .is (.string (dec s)), .is (.string (dec a)), .is (.string (dec s))] : List Flw).getD i .any) (by kernel_rfl) (by kernel_rfl) rfl ?_ ?_
  · skip
    refine ⟨step_free rfl (fun aF wF hs hb => ?_), ?_⟩
    · obtain ⟨x0, -⟩ := hs
      have e0 : aF.eval (.tmp 1) = .pointer (some ⟨b, 0, none⟩) := x0
      refine opC_value (v := .pointer (some ⟨b, 1, none⟩)) ?_ ⟨rfl, below_same wF⟩
      have t0 := ev_of e0
      simp [execOp, go_sem, t0]
    refine ⟨step_free rfl (fun aF wF hs hb => ?_), ?_⟩
    · obtain ⟨x0, -⟩ := hs
      have e0 : aF.eval (.tmp 9) = .pointer (some ⟨b, 1, none⟩) := x0
      exact opC_load e0 (LDa wF hb) ⟨rfl, below_same wF⟩
    refine ⟨step_free rfl (fun aF wF hs hb => ?_), ?_⟩
    · obtain ⟨x0, -⟩ := hs
      have e0 : aF.eval (.tmp 10) = .int .u32 (a : Int) := x0
      exact opC_call (args := #[.int .u32 (a : Int)]) (enters9 Tryz.func42 (by kernel_rfl) rfl) (by simp [e0]) (CA wF hb) (fun _ h => ⟨rfl, h⟩)
    refine ⟨step_free rfl (fun aF wF hs hb => ?_), ?_⟩
    · obtain ⟨x0, -⟩ := hs
      have e0 : aF.eval (.tmp 1) = .pointer (some ⟨b, 0, none⟩) := x0
      refine opC_value (v := .pointer (some ⟨b, 10, none⟩)) ?_ ⟨rfl, below_same wF⟩
      have t0 := ev_of e0
      simp [execOp, go_sem, t0]
    refine ⟨step_free rfl (fun aF wF hs hb => ?_), ?_⟩
    · obtain ⟨x0, -⟩ := hs
      have e0 : aF.eval (.tmp 12) = .pointer (some ⟨b, 10, none⟩) := x0
      refine opC_value (v := .pointer (some ⟨b, 10, none⟩)) ?_ ⟨rfl, below_same wF⟩
      have t0 := ev_of e0
      simp [execOp, go_sem, t0]
    refine ⟨step_free rfl (fun aF wF hs hb => ?_), ?_⟩
    · obtain ⟨x0, -⟩ := hs
      have e0 : aF.eval (.tmp 13) = .pointer (some ⟨b, 10, none⟩) := x0
      exact opC_load e0 (LDs wF hb) ⟨rfl, below_same wF⟩
    refine ⟨step_free rfl (fun aF wF hs hb => ?_), ?_⟩
    · obtain ⟨x0, -⟩ := hs
      have e0 : aF.eval (.tmp 14) = .int .u32 (s : Int) := x0
      exact opC_call (args := #[.int .u32 (s : Int)]) (enters9 Tryz.func42 (by kernel_rfl) rfl) (by simp [e0]) (CB wF hb) (fun _ h => ⟨rfl, h⟩)
    refine ⟨step_free rfl (fun aF wF hs hb => ?_), ?_⟩
    · obtain ⟨x0, -⟩ := hs
      have e0 : aF.eval (.tmp 11) = .string (dec a) := x0
      exact opC_assign e0 ⟨rfl, below_same wF⟩
    refine ⟨step_free rfl (fun aF wF hs hb => ?_), ?_⟩
    · obtain ⟨x0, -⟩ := hs
      have e0 : aF.eval (.tmp 15) = .string (dec s) := x0
      exact opC_assign e0 ⟨rfl, below_same wF⟩
    exact trivial
  intro fv w6 hf hb6
  have p3 : fv 7 = .string (dec a) := hf 7 3 rfl
  have p4 : fv 8 = .string (dec s) := hf 8 4 rfl
  have HQ6 := Lib.hid (HQ1.out.below hb6 HQ1.out.lt)
  have HL6 := Lib.hid (HL1.out.below hb6)
  have HB6 := Lib.hid (HB1.out.trans (hb6.mono HB1.out.size))
  simp only [putF, Act.put, List.setIfInBounds_toArray, List.set_cons_zero, List.set_cons_succ]
  rw [p3, p4]
  clear p3 p4 hf hb6 LDa LDs CA CB HQ1 HL1 HB1
  obtain ⟨c0, -⟩ := blk14 HQ6.out
  go_wp2_with fail
  go_ret
  exact ⟨rfl, HB6.out⟩
set_option maxRecDepth 100000 in
set_option maxHeartbeats 4000000 in
theorem OText_7 {k a K R B s ek : Nat} {P M S F G d m : Int} (hd : 0 ≤ d ∧ d ≤ 3652058) (h7 : ek = 7) (ha : a < 4294967296) (hs : s < 4294967296) (j : k = 2) (hT : ∀ W, Calls Tryz.prog 12 #[.agg #[.int .u8 (k : Int), .int .u32 (a : Int), .int .u8 (K : Int), .int .i64 P, .int .u32 (R : Int), .int .u8 (B : Int), .int .i64 M, .int .i32 S, .int .i64 F, .int .i64 G, .int .u32 (s : Int), .int .i32 d, .int .u8 (ek : Int), .int .i64 m]] W (Ret (.bool true) W)) (w : World) (hl : TLd w) : Calls Tryz.prog 20 #[.agg #[.int .u8 (k : Int), .int .u32 (a : Int), .int .u8 (K : Int), .int .i64 P, .int .u32 (R : Int), .int .u8 (B : Int), .int .i64 M, .int .i32 S, .int .i64 F, .int .i64 G, .int .u32 (s : Int), .int .i32 d, .int .u8 (ek : Int), .int .i64 m]] w (Ret (.string (sps [kindS ek, dec a, dec s, dayText d])) w) := by
  have j1 : ((k : Int) == 1) = false := by rw [beq_eq_false_iff_ne]; omega
  have j3 : ((k : Int) == 3) = false := by rw [beq_eq_false_iff_ne]; omega
  have j4 : ((k : Int) == 4) = false := by rw [beq_eq_false_iff_ne]; omega
  have j7 : ((ek : Int) == 7) = true := by rw [beq_iff_eq]; omega
  clear h7
  clear j
  have HQ := Lib.hid (Blk.new w 32 #[.int .u8 (k : Int), .int .u32 (a : Int), .int .u8 (K : Int), .int .i64 P, .int .u32 (R : Int), .int .u8 (B : Int), .int .i64 M, .int .i32 S, .int .i64 F, .int .i64 G, .int .u32 (s : Int), .int .i32 d, .int .u8 (ek : Int), .int .i64 m])
  have HB0 := Lib.hid (b_alloc w (.cells #[.int .u8 (k : Int), .int .u32 (a : Int), .int .u8 (K : Int), .int .i64 P, .int .u32 (R : Int), .int .u8 (B : Int), .int .i64 M, .int .i32 S, .int .i64 F, .int .i64 G, .int .u32 (s : Int), .int .i32 d, .int .u8 (ek : Int), .int .i64 m] 32))
  go_enter Tryz.func20, Tryz.ntmps20
  go_wp2_with (with_reducible refine wpl_loadB (o := ⟨some 6, _, _, _, _, _⟩) rfl 32 (.tmp 1) rfl w.heap.size 0 rfl HQ.out #[.int .u8 (k : Int), .int .u32 (a : Int), .int .u8 (K : Int), .int .i64 P, .int .u32 (R : Int), .int .u8 (B : Int), .int .i64 M, .int .i32 S, .int .i64 F, .int .i64 G, .int .u32 (s : Int), .int .i32 d, .int .u8 (ek : Int), .int .i64 m] ?g1 ?g2 ?_)
  case g1 => exact part_of (by rfl)
  case g2 => exact rowOr
  go_wp2_with fail
  refine (hT _).mono ?_
  rintro e w1 ⟨rfl, hb1⟩
  have HB1 := Lib.hid (HB0.out.trans (hb1.mono HB0.out.size))
  have HQ1 := Lib.hid (HQ.out.below hb1 HQ.out.lt)
  have HL1 := Lib.hid (hl.below HB1.out)
  obtain ⟨b, hb⟩ : ∃ b, w.heap.size = b := ⟨_, rfl⟩
  rw [hb] at HQ1
  clear hb1 HQ HB0 hT hl
  rw [hb]
  have HWB := Lib.hid hb
  clear hb
  go_upto_region 3 with (fail)
  have LDa : ∀ W, Below w1.heap.size w1 W → (Instr.loadAt 22 (.pointer (some ⟨b, 1, none⟩))).run Tryz.prog W = .ok (.int .u32 (a : Int)) W := fun W hb => by
    obtain ⟨_, c1, -⟩ := blk14 (HQ1.out.below hb HQ1.out.lt)
    go_simp
  have LDs : ∀ W, Below w1.heap.size w1 W → (Instr.loadAt 22 (.pointer (some ⟨b, 10, none⟩))).run Tryz.prog W = .ok (.int .u32 (s : Int)) W := fun W hb => by
    obtain ⟨_, _, _, _, _, _, _, _, _, _, c1, -⟩ := blk14 (HQ1.out.below hb HQ1.out.lt)
    go_simp
  have CA : ∀ W, Below w1.heap.size w1 W → Calls Tryz.prog 42 #[.int .u32 (a : Int)] W (Ret (.string (dec a)) W) := fun W hb => decimal_any a ha W (HL1.out.below hb).po
  have CB : ∀ W, Below w1.heap.size w1 W → Calls Tryz.prog 42 #[.int .u32 (s : Int)] W (Ret (.string (dec s)) W) := fun W hb => decimal_any s hs W (HL1.out.below hb).po
  refine wp_region_flow [some 9, some 10, some 11, some 12, some 13, some 14, some 15, some 3, some 4] (fun i => ([.is (.pointer (some ⟨b, 1, none⟩)), .is (.int .u32 (a : Int)), .is (.string (dec a)), .is (.pointer (some ⟨b, 10, none⟩)), .is (.pointer (some ⟨b, 10, none⟩)), .is (.int .u32 (s : Int)), .is (.string (dec s)), .is (.string (dec a)), .is (.string (dec s))] : List Flw).getD i .any) (by kernel_rfl) (by kernel_rfl) rfl ?_ ?_
  · skip
    refine ⟨step_free rfl (fun aF wF hs hb => ?_), ?_⟩
    · obtain ⟨x0, -⟩ := hs
      have e0 : aF.eval (.tmp 1) = .pointer (some ⟨b, 0, none⟩) := x0
      refine opC_value (v := .pointer (some ⟨b, 1, none⟩)) ?_ ⟨rfl, below_same wF⟩
      have t0 := ev_of e0
      simp [execOp, go_sem, t0]
    refine ⟨step_free rfl (fun aF wF hs hb => ?_), ?_⟩
    · obtain ⟨x0, -⟩ := hs
      have e0 : aF.eval (.tmp 9) = .pointer (some ⟨b, 1, none⟩) := x0
      exact opC_load e0 (LDa wF hb) ⟨rfl, below_same wF⟩
    refine ⟨step_free rfl (fun aF wF hs hb => ?_), ?_⟩
    · obtain ⟨x0, -⟩ := hs
      have e0 : aF.eval (.tmp 10) = .int .u32 (a : Int) := x0
      exact opC_call (args := #[.int .u32 (a : Int)]) (enters9 Tryz.func42 (by kernel_rfl) rfl) (by simp [e0]) (CA wF hb) (fun _ h => ⟨rfl, h⟩)
    refine ⟨step_free rfl (fun aF wF hs hb => ?_), ?_⟩
    · obtain ⟨x0, -⟩ := hs
      have e0 : aF.eval (.tmp 1) = .pointer (some ⟨b, 0, none⟩) := x0
      refine opC_value (v := .pointer (some ⟨b, 10, none⟩)) ?_ ⟨rfl, below_same wF⟩
      have t0 := ev_of e0
      simp [execOp, go_sem, t0]
    refine ⟨step_free rfl (fun aF wF hs hb => ?_), ?_⟩
    · obtain ⟨x0, -⟩ := hs
      have e0 : aF.eval (.tmp 12) = .pointer (some ⟨b, 10, none⟩) := x0
      refine opC_value (v := .pointer (some ⟨b, 10, none⟩)) ?_ ⟨rfl, below_same wF⟩
      have t0 := ev_of e0
      simp [execOp, go_sem, t0]
    refine ⟨step_free rfl (fun aF wF hs hb => ?_), ?_⟩
    · obtain ⟨x0, -⟩ := hs
      have e0 : aF.eval (.tmp 13) = .pointer (some ⟨b, 10, none⟩) := x0
      exact opC_load e0 (LDs wF hb) ⟨rfl, below_same wF⟩
    refine ⟨step_free rfl (fun aF wF hs hb => ?_), ?_⟩
    · obtain ⟨x0, -⟩ := hs
      have e0 : aF.eval (.tmp 14) = .int .u32 (s : Int) := x0
      exact opC_call (args := #[.int .u32 (s : Int)]) (enters9 Tryz.func42 (by kernel_rfl) rfl) (by simp [e0]) (CB wF hb) (fun _ h => ⟨rfl, h⟩)
    refine ⟨step_free rfl (fun aF wF hs hb => ?_), ?_⟩
    · obtain ⟨x0, -⟩ := hs
      have e0 : aF.eval (.tmp 11) = .string (dec a) := x0
      exact opC_assign e0 ⟨rfl, below_same wF⟩
    refine ⟨step_free rfl (fun aF wF hs hb => ?_), ?_⟩
    · obtain ⟨x0, -⟩ := hs
      have e0 : aF.eval (.tmp 15) = .string (dec s) := x0
      exact opC_assign e0 ⟨rfl, below_same wF⟩
    exact trivial
  intro fv w6 hf hb6
  have p3 : fv 7 = .string (dec a) := hf 7 3 rfl
  have p4 : fv 8 = .string (dec s) := hf 8 4 rfl
  have HQ6 := Lib.hid (HQ1.out.below hb6 HQ1.out.lt)
  have HL6 := Lib.hid (HL1.out.below hb6)
  have HB6 := Lib.hid (HB1.out.trans (hb6.mono HB1.out.size))
  simp only [putF, Act.put, List.setIfInBounds_toArray, List.set_cons_zero, List.set_cons_succ]
  rw [p3, p4]
  clear p3 p4 hf hb6 LDa LDs CA CB HQ1 HL1 HB1
  obtain ⟨c0, -⟩ := blk14 HQ6.out
  go_wp2_with (with_reducible refine wpl_loadB (o := ⟨some 35, _, _, _, _, _⟩) rfl 30 (.tmp 34) rfl b 10 rfl HQ6.out #[.int .u32 (s : Int), .int .i32 d, .int .u8 (ek : Int), .int .i64 m] ?g3 ?g4 ?_)
  case g3 => exact part_of (by rfl)
  case g4 => exact rowEv
  have HE := Lib.hid (Blk.new w6 30 #[.int .u32 (s : Int), .int .i32 d, .int .u8 (ek : Int), .int .i64 m])
  have HB7 := Lib.hid (HB6.out.alloc HB6.out.size (.cells #[.int .u32 (s : Int), .int .i32 d, .int .u8 (ek : Int), .int .i64 m] 30))
  have HL7 := Lib.hid (HL6.out.below (b_alloc w6 (.cells #[.int .u32 (s : Int), .int .i32 d, .int .u8 (ek : Int), .int .i64 m] 30)))
  obtain ⟨w7, hw7⟩ : ∃ W, w6.alloc (.cells #[.int .u32 (s : Int), .int .i32 d, .int .u8 (ek : Int), .int .i64 m] 30) = W := ⟨_, rfl⟩
  obtain ⟨g, hg⟩ : ∃ g, w6.heap.size = g := ⟨_, rfl⟩
  rw [hw7, hg] at HE
  rw [hw7] at HB7 HL7
  rw [hw7, hg]
  clear hw7 hg HQ6 HL6 HB6 c0
  have LE1 : ∀ W, Below w7.heap.size w7 W → (Instr.loadAt 26 (.pointer (some ⟨g, 1, none⟩))).run Tryz.prog W = .ok (.int .i32 d) W := fun W hb => by
    have c1 := (HE.out.below hb HE.out.lt).cell 1
    simp at c1
    go_simp
  have LE2 : ∀ W, Below w7.heap.size w7 W → (Instr.loadAt 5 (.pointer (some ⟨g, 2, none⟩))).run Tryz.prog W = .ok (.int .u8 (ek : Int)) W := fun W hb => by
    have c1 := (HE.out.below hb HE.out.lt).cell 2
    simp at c1
    go_simp
  have LE3 : ∀ W, Below w7.heap.size w7 W → (Instr.loadAt 23 (.pointer (some ⟨g, 3, none⟩))).run Tryz.prog W = .ok (.int .i64 m) W := fun W hb => by
    have c1 := (HE.out.below hb HE.out.lt).cell 3
    simp at c1
    go_simp
  have CK : ∀ W, Calls Tryz.prog 45 #[.int .u8 (ek : Int)] W (Ret (.string (kindS ek)) W) := fun W => (CKind_any ek W).mono fun e w' ⟨h1, h2⟩ => ⟨h1, by rw [← h2]; exact Below.refl _ _⟩
  have CD : ∀ W, Below w7.heap.size w7 W → Calls Tryz.prog 46 #[.int .i32 d] W (Ret (.string (dayText d)) W) := fun W hb => DText_any d hd.1 hd.2 W (HL7.out.below hb).le (HL7.out.below hb).po
  have CJ : ∀ W v, (strsF 4 #[.string (kindS ek), .string (dec a), .string (dec s), .string (dayText d)]).p v W → Calls Tryz.prog 43 #[v] W (Ret (.string (sps [kindS ek, dec a, dec s, dayText d])) W) := fun W v hv => joined4 (len4 (by have := kindS_len ek; omega) (by have := dec_len a (by omega); omega) (by have := dec_len s (by omega); omega) (by have := day_len d; omega)) hv
  obtain ⟨t0, ht0⟩ : ∃ t, kindS ek = t := ⟨_, rfl⟩
  obtain ⟨t1, ht1⟩ : ∃ t, dec a = t := ⟨_, rfl⟩
  obtain ⟨t2, ht2⟩ : ∃ t, dec s = t := ⟨_, rfl⟩
  obtain ⟨t3, ht3⟩ : ∃ t, dayText d = t := ⟨_, rfl⟩
  obtain ⟨tJ, htJ⟩ : ∃ t, sps [kindS ek, dec a, dec s, dayText d] = t := ⟨_, rfl⟩
  rw [htJ] at CJ
  have HTJ := Lib.hid htJ
  simp only [ht0] at CK CJ
  simp only [ht1] at CJ ⊢
  simp only [ht2] at CJ ⊢
  simp only [ht3] at CD CJ
  clear htJ ht0 ht1 ht2 ht3 HE hd
  refine wp_region_flow [some 39, some 40, some 41, some 42, some 43, some 44, some 45, some 46, some 47, some 48, some 2] (fun i => ([.is (.pointer (some ⟨g, 2, none⟩)), .is (.int .u8 (ek : Int)), .is (.string t0), .is (.string t1), .is (.string t2), .is (.pointer (some ⟨g, 1, none⟩)), .is (.int .i32 d), .is (.string t3), strsF 4 #[.string t0, .string t1, .string t2, .string t3], .is (.string tJ), .is (.string tJ)] : List Flw).getD i .any) (by kernel_rfl) (by kernel_rfl) rfl ?_ ?_
  · skip
    refine ⟨step_free rfl (fun aF wF hs hb => ?_), ?_⟩
    · obtain ⟨x0, -⟩ := hs
      have e0 : aF.eval (.tmp 5) = .pointer (some ⟨g, 0, none⟩) := x0
      refine opC_value (v := .pointer (some ⟨g, 2, none⟩)) ?_ ⟨rfl, below_same wF⟩
      have t0 := ev_of e0
      simp [execOp, go_sem, t0]
    refine ⟨step_free rfl (fun aF wF hs hb => ?_), ?_⟩
    · obtain ⟨x0, -⟩ := hs
      have e0 : aF.eval (.tmp 39) = .pointer (some ⟨g, 2, none⟩) := x0
      exact opC_load e0 (LE2 wF hb) ⟨rfl, below_same wF⟩
    refine ⟨step_free rfl (fun aF wF hs hb => ?_), ?_⟩
    · obtain ⟨x0, -⟩ := hs
      have e0 : aF.eval (.tmp 40) = .int .u8 (ek : Int) := x0
      exact opC_call (args := #[.int .u8 (ek : Int)]) (enters9 Tryz.func45 (by kernel_rfl) rfl) (by simp [e0]) (CK wF) (fun _ h => ⟨rfl, h⟩)
    refine ⟨step_free rfl (fun aF wF hs hb => ?_), ?_⟩
    · obtain ⟨x0, -⟩ := hs
      have e0 : aF.eval (.tmp 3) = .string t1 := x0
      exact opC_move e0 ⟨rfl, below_same wF⟩
    refine ⟨step_free rfl (fun aF wF hs hb => ?_), ?_⟩
    · obtain ⟨x0, -⟩ := hs
      have e0 : aF.eval (.tmp 4) = .string t2 := x0
      exact opC_move e0 ⟨rfl, below_same wF⟩
    refine ⟨step_free rfl (fun aF wF hs hb => ?_), ?_⟩
    · obtain ⟨x0, -⟩ := hs
      have e0 : aF.eval (.tmp 5) = .pointer (some ⟨g, 0, none⟩) := x0
      refine opC_value (v := .pointer (some ⟨g, 1, none⟩)) ?_ ⟨rfl, below_same wF⟩
      have t0 := ev_of e0
      simp [execOp, go_sem, t0]
    refine ⟨step_free rfl (fun aF wF hs hb => ?_), ?_⟩
    · obtain ⟨x0, -⟩ := hs
      have e0 : aF.eval (.tmp 44) = .pointer (some ⟨g, 1, none⟩) := x0
      exact opC_load e0 (LE1 wF hb) ⟨rfl, below_same wF⟩
    refine ⟨step_free rfl (fun aF wF hs hb => ?_), ?_⟩
    · obtain ⟨x0, -⟩ := hs
      have e0 : aF.eval (.tmp 45) = .int .i32 d := x0
      exact opC_call (args := #[.int .i32 d]) (enters9 Tryz.func46 (by kernel_rfl) rfl) (by simp [e0]) (CD wF hb) (fun _ h => ⟨rfl, h⟩)
    refine ⟨step_free rfl (fun aF wF hs hb => ?_), ?_⟩
    · obtain ⟨x0, x1, x2, x3, -⟩ := hs
      have e0 : aF.eval (.tmp 41) = .string t0 := x0
      have e1 : aF.eval (.tmp 42) = .string t1 := x1
      have e2 : aF.eval (.tmp 43) = .string t2 := x2
      have e3 : aF.eval (.tmp 46) = .string t3 := x3
      exact opC_strs4 e0 e1 e2 e3 ⟨⟨_, rfl, Blk.new _ _ _⟩, (Below.refl _ wF).alloc (Nat.le_refl _) _⟩
    refine ⟨step_free rfl (fun aF wF hs hb => ?_), ?_⟩
    · obtain ⟨x0, -⟩ := hs
      have y0 : (strsF 4 #[.string t0, .string t1, .string t2, .string t3]).p (aF.eval (.tmp 47)) wF := x0
      exact opC_call (args := #[aF.eval (.tmp 47)]) (enters9 Tryz.func43 (by kernel_rfl) rfl) (by simp) (CJ wF _ y0) (fun _ h => ⟨rfl, h⟩)
    refine ⟨step_free rfl (fun aF wF hs hb => ?_), ?_⟩
    · obtain ⟨x0, -⟩ := hs
      have e0 : aF.eval (.tmp 48) = .string tJ := x0
      exact opC_assign e0 ⟨rfl, below_same wF⟩
    exact trivial
  intro fv w8 hf hb8
  have p2 : fv 10 = .string tJ := hf 10 2 rfl
  have HB8 := Lib.hid (HB7.out.trans (hb8.mono HB7.out.size))
  simp only [putF, Act.put, List.setIfInBounds_toArray, List.set_cons_zero, List.set_cons_succ]
  rw [p2]
  clear p2 hf hb8
  go_wp2_with fail
  go_ret
  exact ⟨by rw [HTJ.out]; rfl, HB8.out⟩
set_option maxRecDepth 100000 in
set_option maxHeartbeats 4000000 in
theorem OText_2 {k a K R B s ek : Nat} {P M S F G d m : Int} (hd : 0 ≤ d ∧ d ≤ 3652058) (hm : -9223372036854775808 ≤ m ∧ m ≤ 9223372036854775807) (h7 : ek ≠ 7) (ha : a < 4294967296) (hs : s < 4294967296) (j : k = 2) (hT : ∀ W, Calls Tryz.prog 12 #[.agg #[.int .u8 (k : Int), .int .u32 (a : Int), .int .u8 (K : Int), .int .i64 P, .int .u32 (R : Int), .int .u8 (B : Int), .int .i64 M, .int .i32 S, .int .i64 F, .int .i64 G, .int .u32 (s : Int), .int .i32 d, .int .u8 (ek : Int), .int .i64 m]] W (Ret (.bool true) W)) (w : World) (hl : TLd w) : Calls Tryz.prog 20 #[.agg #[.int .u8 (k : Int), .int .u32 (a : Int), .int .u8 (K : Int), .int .i64 P, .int .u32 (R : Int), .int .u8 (B : Int), .int .i64 M, .int .i32 S, .int .i64 F, .int .i64 G, .int .u32 (s : Int), .int .i32 d, .int .u8 (ek : Int), .int .i64 m]] w (Ret (.string (sps [kindS ek, dec a, dec s, dayText d, textC m])) w) := by
  have j1 : ((k : Int) == 1) = false := by rw [beq_eq_false_iff_ne]; omega
  have j3 : ((k : Int) == 3) = false := by rw [beq_eq_false_iff_ne]; omega
  have j4 : ((k : Int) == 4) = false := by rw [beq_eq_false_iff_ne]; omega
  have j7 : ((ek : Int) == 7) = false := by rw [beq_eq_false_iff_ne]; omega
  clear h7
  clear j
  have HQ := Lib.hid (Blk.new w 32 #[.int .u8 (k : Int), .int .u32 (a : Int), .int .u8 (K : Int), .int .i64 P, .int .u32 (R : Int), .int .u8 (B : Int), .int .i64 M, .int .i32 S, .int .i64 F, .int .i64 G, .int .u32 (s : Int), .int .i32 d, .int .u8 (ek : Int), .int .i64 m])
  have HB0 := Lib.hid (b_alloc w (.cells #[.int .u8 (k : Int), .int .u32 (a : Int), .int .u8 (K : Int), .int .i64 P, .int .u32 (R : Int), .int .u8 (B : Int), .int .i64 M, .int .i32 S, .int .i64 F, .int .i64 G, .int .u32 (s : Int), .int .i32 d, .int .u8 (ek : Int), .int .i64 m] 32))
  go_enter Tryz.func20, Tryz.ntmps20
  go_wp2_with (with_reducible refine wpl_loadB (o := ⟨some 6, _, _, _, _, _⟩) rfl 32 (.tmp 1) rfl w.heap.size 0 rfl HQ.out #[.int .u8 (k : Int), .int .u32 (a : Int), .int .u8 (K : Int), .int .i64 P, .int .u32 (R : Int), .int .u8 (B : Int), .int .i64 M, .int .i32 S, .int .i64 F, .int .i64 G, .int .u32 (s : Int), .int .i32 d, .int .u8 (ek : Int), .int .i64 m] ?g1 ?g2 ?_)
  case g1 => exact part_of (by rfl)
  case g2 => exact rowOr
  go_wp2_with fail
  refine (hT _).mono ?_
  rintro e w1 ⟨rfl, hb1⟩
  have HB1 := Lib.hid (HB0.out.trans (hb1.mono HB0.out.size))
  have HQ1 := Lib.hid (HQ.out.below hb1 HQ.out.lt)
  have HL1 := Lib.hid (hl.below HB1.out)
  obtain ⟨b, hb⟩ : ∃ b, w.heap.size = b := ⟨_, rfl⟩
  rw [hb] at HQ1
  clear hb1 HQ HB0 hT hl
  rw [hb]
  have HWB := Lib.hid hb
  clear hb
  go_upto_region 3 with (fail)
  have LDa : ∀ W, Below w1.heap.size w1 W → (Instr.loadAt 22 (.pointer (some ⟨b, 1, none⟩))).run Tryz.prog W = .ok (.int .u32 (a : Int)) W := fun W hb => by
    obtain ⟨_, c1, -⟩ := blk14 (HQ1.out.below hb HQ1.out.lt)
    go_simp
  have LDs : ∀ W, Below w1.heap.size w1 W → (Instr.loadAt 22 (.pointer (some ⟨b, 10, none⟩))).run Tryz.prog W = .ok (.int .u32 (s : Int)) W := fun W hb => by
    obtain ⟨_, _, _, _, _, _, _, _, _, _, c1, -⟩ := blk14 (HQ1.out.below hb HQ1.out.lt)
    go_simp
  have CA : ∀ W, Below w1.heap.size w1 W → Calls Tryz.prog 42 #[.int .u32 (a : Int)] W (Ret (.string (dec a)) W) := fun W hb => decimal_any a ha W (HL1.out.below hb).po
  have CB : ∀ W, Below w1.heap.size w1 W → Calls Tryz.prog 42 #[.int .u32 (s : Int)] W (Ret (.string (dec s)) W) := fun W hb => decimal_any s hs W (HL1.out.below hb).po
  refine wp_region_flow [some 9, some 10, some 11, some 12, some 13, some 14, some 15, some 3, some 4] (fun i => ([.is (.pointer (some ⟨b, 1, none⟩)), .is (.int .u32 (a : Int)), .is (.string (dec a)), .is (.pointer (some ⟨b, 10, none⟩)), .is (.pointer (some ⟨b, 10, none⟩)), .is (.int .u32 (s : Int)), .is (.string (dec s)), .is (.string (dec a)), .is (.string (dec s))] : List Flw).getD i .any) (by kernel_rfl) (by kernel_rfl) rfl ?_ ?_
  · skip
    refine ⟨step_free rfl (fun aF wF hs hb => ?_), ?_⟩
    · obtain ⟨x0, -⟩ := hs
      have e0 : aF.eval (.tmp 1) = .pointer (some ⟨b, 0, none⟩) := x0
      refine opC_value (v := .pointer (some ⟨b, 1, none⟩)) ?_ ⟨rfl, below_same wF⟩
      have t0 := ev_of e0
      simp [execOp, go_sem, t0]
    refine ⟨step_free rfl (fun aF wF hs hb => ?_), ?_⟩
    · obtain ⟨x0, -⟩ := hs
      have e0 : aF.eval (.tmp 9) = .pointer (some ⟨b, 1, none⟩) := x0
      exact opC_load e0 (LDa wF hb) ⟨rfl, below_same wF⟩
    refine ⟨step_free rfl (fun aF wF hs hb => ?_), ?_⟩
    · obtain ⟨x0, -⟩ := hs
      have e0 : aF.eval (.tmp 10) = .int .u32 (a : Int) := x0
      exact opC_call (args := #[.int .u32 (a : Int)]) (enters9 Tryz.func42 (by kernel_rfl) rfl) (by simp [e0]) (CA wF hb) (fun _ h => ⟨rfl, h⟩)
    refine ⟨step_free rfl (fun aF wF hs hb => ?_), ?_⟩
    · obtain ⟨x0, -⟩ := hs
      have e0 : aF.eval (.tmp 1) = .pointer (some ⟨b, 0, none⟩) := x0
      refine opC_value (v := .pointer (some ⟨b, 10, none⟩)) ?_ ⟨rfl, below_same wF⟩
      have t0 := ev_of e0
      simp [execOp, go_sem, t0]
    refine ⟨step_free rfl (fun aF wF hs hb => ?_), ?_⟩
    · obtain ⟨x0, -⟩ := hs
      have e0 : aF.eval (.tmp 12) = .pointer (some ⟨b, 10, none⟩) := x0
      refine opC_value (v := .pointer (some ⟨b, 10, none⟩)) ?_ ⟨rfl, below_same wF⟩
      have t0 := ev_of e0
      simp [execOp, go_sem, t0]
    refine ⟨step_free rfl (fun aF wF hs hb => ?_), ?_⟩
    · obtain ⟨x0, -⟩ := hs
      have e0 : aF.eval (.tmp 13) = .pointer (some ⟨b, 10, none⟩) := x0
      exact opC_load e0 (LDs wF hb) ⟨rfl, below_same wF⟩
    refine ⟨step_free rfl (fun aF wF hs hb => ?_), ?_⟩
    · obtain ⟨x0, -⟩ := hs
      have e0 : aF.eval (.tmp 14) = .int .u32 (s : Int) := x0
      exact opC_call (args := #[.int .u32 (s : Int)]) (enters9 Tryz.func42 (by kernel_rfl) rfl) (by simp [e0]) (CB wF hb) (fun _ h => ⟨rfl, h⟩)
    refine ⟨step_free rfl (fun aF wF hs hb => ?_), ?_⟩
    · obtain ⟨x0, -⟩ := hs
      have e0 : aF.eval (.tmp 11) = .string (dec a) := x0
      exact opC_assign e0 ⟨rfl, below_same wF⟩
    refine ⟨step_free rfl (fun aF wF hs hb => ?_), ?_⟩
    · obtain ⟨x0, -⟩ := hs
      have e0 : aF.eval (.tmp 15) = .string (dec s) := x0
      exact opC_assign e0 ⟨rfl, below_same wF⟩
    exact trivial
  intro fv w6 hf hb6
  have p3 : fv 7 = .string (dec a) := hf 7 3 rfl
  have p4 : fv 8 = .string (dec s) := hf 8 4 rfl
  have HQ6 := Lib.hid (HQ1.out.below hb6 HQ1.out.lt)
  have HL6 := Lib.hid (HL1.out.below hb6)
  have HB6 := Lib.hid (HB1.out.trans (hb6.mono HB1.out.size))
  simp only [putF, Act.put, List.setIfInBounds_toArray, List.set_cons_zero, List.set_cons_succ]
  rw [p3, p4]
  clear p3 p4 hf hb6 LDa LDs CA CB HQ1 HL1 HB1
  obtain ⟨c0, -⟩ := blk14 HQ6.out
  go_wp2_with (with_reducible refine wpl_loadB (o := ⟨some 35, _, _, _, _, _⟩) rfl 30 (.tmp 34) rfl b 10 rfl HQ6.out #[.int .u32 (s : Int), .int .i32 d, .int .u8 (ek : Int), .int .i64 m] ?g3 ?g4 ?_)
  case g3 => exact part_of (by rfl)
  case g4 => exact rowEv
  have HE := Lib.hid (Blk.new w6 30 #[.int .u32 (s : Int), .int .i32 d, .int .u8 (ek : Int), .int .i64 m])
  have HB7 := Lib.hid (HB6.out.alloc HB6.out.size (.cells #[.int .u32 (s : Int), .int .i32 d, .int .u8 (ek : Int), .int .i64 m] 30))
  have HL7 := Lib.hid (HL6.out.below (b_alloc w6 (.cells #[.int .u32 (s : Int), .int .i32 d, .int .u8 (ek : Int), .int .i64 m] 30)))
  obtain ⟨w7, hw7⟩ : ∃ W, w6.alloc (.cells #[.int .u32 (s : Int), .int .i32 d, .int .u8 (ek : Int), .int .i64 m] 30) = W := ⟨_, rfl⟩
  obtain ⟨g, hg⟩ : ∃ g, w6.heap.size = g := ⟨_, rfl⟩
  rw [hw7, hg] at HE
  rw [hw7] at HB7 HL7
  rw [hw7, hg]
  clear hw7 hg HQ6 HL6 HB6 c0
  have LE1 : ∀ W, Below w7.heap.size w7 W → (Instr.loadAt 26 (.pointer (some ⟨g, 1, none⟩))).run Tryz.prog W = .ok (.int .i32 d) W := fun W hb => by
    have c1 := (HE.out.below hb HE.out.lt).cell 1
    simp at c1
    go_simp
  have LE2 : ∀ W, Below w7.heap.size w7 W → (Instr.loadAt 5 (.pointer (some ⟨g, 2, none⟩))).run Tryz.prog W = .ok (.int .u8 (ek : Int)) W := fun W hb => by
    have c1 := (HE.out.below hb HE.out.lt).cell 2
    simp at c1
    go_simp
  have LE3 : ∀ W, Below w7.heap.size w7 W → (Instr.loadAt 23 (.pointer (some ⟨g, 3, none⟩))).run Tryz.prog W = .ok (.int .i64 m) W := fun W hb => by
    have c1 := (HE.out.below hb HE.out.lt).cell 3
    simp at c1
    go_simp
  have CK : ∀ W, Calls Tryz.prog 45 #[.int .u8 (ek : Int)] W (Ret (.string (kindS ek)) W) := fun W => (CKind_any ek W).mono fun e w' ⟨h1, h2⟩ => ⟨h1, by rw [← h2]; exact Below.refl _ _⟩
  have CD : ∀ W, Below w7.heap.size w7 W → Calls Tryz.prog 46 #[.int .i32 d] W (Ret (.string (dayText d)) W) := fun W hb => DText_any d hd.1 hd.2 W (HL7.out.below hb).le (HL7.out.below hb).po
  have CC : ∀ W, Below w7.heap.size w7 W → Calls Tryz.prog 47 #[.int .i64 m] W (Ret (.string (textC m)) W) := fun W hb => CText_any m hm W (HL7.out.below hb).po
  have CJ : ∀ W v, (strsF 5 #[.string (kindS ek), .string (dec a), .string (dec s), .string (dayText d), .string (textC m)]).p v W → Calls Tryz.prog 43 #[v] W (Ret (.string (sps [kindS ek, dec a, dec s, dayText d, textC m])) W) := fun W v hv => joined5 (len5 (by have := kindS_len ek; omega) (by have := dec_len a (by omega); omega) (by have := dec_len s (by omega); omega) (by have := day_len d; omega) (by have := textC_len m hm; omega)) hv
  obtain ⟨t0, ht0⟩ : ∃ t, kindS ek = t := ⟨_, rfl⟩
  obtain ⟨t1, ht1⟩ : ∃ t, dec a = t := ⟨_, rfl⟩
  obtain ⟨t2, ht2⟩ : ∃ t, dec s = t := ⟨_, rfl⟩
  obtain ⟨t3, ht3⟩ : ∃ t, dayText d = t := ⟨_, rfl⟩
  obtain ⟨t4, ht4⟩ : ∃ t, textC m = t := ⟨_, rfl⟩
  obtain ⟨tJ, htJ⟩ : ∃ t, sps [kindS ek, dec a, dec s, dayText d, textC m] = t := ⟨_, rfl⟩
  rw [htJ] at CJ
  have HTJ := Lib.hid htJ
  simp only [ht0] at CK CJ
  simp only [ht1] at CJ ⊢
  simp only [ht2] at CJ ⊢
  simp only [ht3] at CD CJ
  simp only [ht4] at CC CJ
  clear htJ ht0 ht1 ht2 ht3 ht4 HE hd hm
  refine wp_region_flow [some 49, some 50, some 51, some 52, some 53, some 54, some 55, some 56, some 57, some 58, some 59, some 60, some 61, some 2] (fun i => ([.is (.pointer (some ⟨g, 2, none⟩)), .is (.int .u8 (ek : Int)), .is (.string t0), .is (.string t1), .is (.string t2), .is (.pointer (some ⟨g, 1, none⟩)), .is (.int .i32 d), .is (.string t3), .is (.pointer (some ⟨g, 3, none⟩)), .is (.int .i64 m), .is (.string t4), strsF 5 #[.string t0, .string t1, .string t2, .string t3, .string t4], .is (.string tJ), .is (.string tJ)] : List Flw).getD i .any) (by kernel_rfl) (by kernel_rfl) rfl ?_ ?_
  · skip
    refine ⟨step_free rfl (fun aF wF hs hb => ?_), ?_⟩
    · obtain ⟨x0, -⟩ := hs
      have e0 : aF.eval (.tmp 5) = .pointer (some ⟨g, 0, none⟩) := x0
      refine opC_value (v := .pointer (some ⟨g, 2, none⟩)) ?_ ⟨rfl, below_same wF⟩
      have t0 := ev_of e0
      simp [execOp, go_sem, t0]
    refine ⟨step_free rfl (fun aF wF hs hb => ?_), ?_⟩
    · obtain ⟨x0, -⟩ := hs
      have e0 : aF.eval (.tmp 49) = .pointer (some ⟨g, 2, none⟩) := x0
      exact opC_load e0 (LE2 wF hb) ⟨rfl, below_same wF⟩
    refine ⟨step_free rfl (fun aF wF hs hb => ?_), ?_⟩
    · obtain ⟨x0, -⟩ := hs
      have e0 : aF.eval (.tmp 50) = .int .u8 (ek : Int) := x0
      exact opC_call (args := #[.int .u8 (ek : Int)]) (enters9 Tryz.func45 (by kernel_rfl) rfl) (by simp [e0]) (CK wF) (fun _ h => ⟨rfl, h⟩)
    refine ⟨step_free rfl (fun aF wF hs hb => ?_), ?_⟩
    · obtain ⟨x0, -⟩ := hs
      have e0 : aF.eval (.tmp 3) = .string t1 := x0
      exact opC_move e0 ⟨rfl, below_same wF⟩
    refine ⟨step_free rfl (fun aF wF hs hb => ?_), ?_⟩
    · obtain ⟨x0, -⟩ := hs
      have e0 : aF.eval (.tmp 4) = .string t2 := x0
      exact opC_move e0 ⟨rfl, below_same wF⟩
    refine ⟨step_free rfl (fun aF wF hs hb => ?_), ?_⟩
    · obtain ⟨x0, -⟩ := hs
      have e0 : aF.eval (.tmp 5) = .pointer (some ⟨g, 0, none⟩) := x0
      refine opC_value (v := .pointer (some ⟨g, 1, none⟩)) ?_ ⟨rfl, below_same wF⟩
      have t0 := ev_of e0
      simp [execOp, go_sem, t0]
    refine ⟨step_free rfl (fun aF wF hs hb => ?_), ?_⟩
    · obtain ⟨x0, -⟩ := hs
      have e0 : aF.eval (.tmp 54) = .pointer (some ⟨g, 1, none⟩) := x0
      exact opC_load e0 (LE1 wF hb) ⟨rfl, below_same wF⟩
    refine ⟨step_free rfl (fun aF wF hs hb => ?_), ?_⟩
    · obtain ⟨x0, -⟩ := hs
      have e0 : aF.eval (.tmp 55) = .int .i32 d := x0
      exact opC_call (args := #[.int .i32 d]) (enters9 Tryz.func46 (by kernel_rfl) rfl) (by simp [e0]) (CD wF hb) (fun _ h => ⟨rfl, h⟩)
    refine ⟨step_free rfl (fun aF wF hs hb => ?_), ?_⟩
    · obtain ⟨x0, -⟩ := hs
      have e0 : aF.eval (.tmp 5) = .pointer (some ⟨g, 0, none⟩) := x0
      refine opC_value (v := .pointer (some ⟨g, 3, none⟩)) ?_ ⟨rfl, below_same wF⟩
      have t0 := ev_of e0
      simp [execOp, go_sem, t0]
    refine ⟨step_free rfl (fun aF wF hs hb => ?_), ?_⟩
    · obtain ⟨x0, -⟩ := hs
      have e0 : aF.eval (.tmp 57) = .pointer (some ⟨g, 3, none⟩) := x0
      exact opC_load e0 (LE3 wF hb) ⟨rfl, below_same wF⟩
    refine ⟨step_free rfl (fun aF wF hs hb => ?_), ?_⟩
    · obtain ⟨x0, -⟩ := hs
      have e0 : aF.eval (.tmp 58) = .int .i64 m := x0
      exact opC_call (args := #[.int .i64 m]) (enters9 Tryz.func47 (by kernel_rfl) rfl) (by simp [e0]) (CC wF hb) (fun _ h => ⟨rfl, h⟩)
    refine ⟨step_free rfl (fun aF wF hs hb => ?_), ?_⟩
    · obtain ⟨x0, x1, x2, x3, x4, -⟩ := hs
      have e0 : aF.eval (.tmp 51) = .string t0 := x0
      have e1 : aF.eval (.tmp 52) = .string t1 := x1
      have e2 : aF.eval (.tmp 53) = .string t2 := x2
      have e3 : aF.eval (.tmp 56) = .string t3 := x3
      have e4 : aF.eval (.tmp 59) = .string t4 := x4
      exact opC_strs5 e0 e1 e2 e3 e4 ⟨⟨_, rfl, Blk.new _ _ _⟩, (Below.refl _ wF).alloc (Nat.le_refl _) _⟩
    refine ⟨step_free rfl (fun aF wF hs hb => ?_), ?_⟩
    · obtain ⟨x0, -⟩ := hs
      have y0 : (strsF 5 #[.string t0, .string t1, .string t2, .string t3, .string t4]).p (aF.eval (.tmp 60)) wF := x0
      exact opC_call (args := #[aF.eval (.tmp 60)]) (enters9 Tryz.func43 (by kernel_rfl) rfl) (by simp) (CJ wF _ y0) (fun _ h => ⟨rfl, h⟩)
    refine ⟨step_free rfl (fun aF wF hs hb => ?_), ?_⟩
    · obtain ⟨x0, -⟩ := hs
      have e0 : aF.eval (.tmp 61) = .string tJ := x0
      exact opC_assign e0 ⟨rfl, below_same wF⟩
    exact trivial
  intro fv w8 hf hb8
  have p2 : fv 13 = .string tJ := hf 13 2 rfl
  have HB8 := Lib.hid (HB7.out.trans (hb8.mono HB7.out.size))
  simp only [putF, Act.put, List.setIfInBounds_toArray, List.set_cons_zero, List.set_cons_succ]
  rw [p2]
  clear p2 hf hb8
  go_wp2_with fail
  go_ret
  exact ⟨by rw [HTJ.out]; rfl, HB8.out⟩
theorem OText_yes {o : Ord} (hi : o.In) (h : o.Right) (w : World) (hl : TLd w) : Calls Tryz.prog 20 #[o.v] w (Ret (.string o.text) w) := by
  have hT := fun W => ORight_true h W
  obtain ⟨h0, h1, h2, h3, h4⟩ := h
  obtain ⟨ik, ia, it, ie, id, ie2, im⟩ := hi
  unfold Ord.text
  by_cases k1 : o.k = 1
  · rw [if_pos k1]
    have hR := h1 k1
    have htx : o.t.text.data.toList.length ≤ 300 := by rw [Array.length_toList]; exact Trm.size hR
    have cT := fun W (hW : TLd W) => TText_yes hR (by have := Trm.len hR; omega) W hW.le hW.po
    clear h0 h1 h2 h3 h4 hR it
    obtain ⟨k, a, ⟨K, P, R, B, M, S, F, G⟩, s, d, ek, m⟩ := o
    exact OText_1 htx cT ia ie k1 hT w hl
  rw [if_neg k1]
  by_cases k3 : o.k = 3
  · rw [if_pos k3]
    clear h0 h1 h2 h3 h4 it
    obtain ⟨k, a, ⟨K, P, R, B, M, S, F, G⟩, s, d, ek, m⟩ := o
    exact OText_3 ia ie k3 hT w hl
  rw [if_neg k3]
  by_cases k4 : o.k = 4
  · rw [if_pos k4]
    clear h0 h1 h2 h3 h4 it
    obtain ⟨k, a, ⟨K, P, R, B, M, S, F, G⟩, s, d, ek, m⟩ := o
    exact OText_4 ia ie k4 hT w hl
  rw [if_neg k4]
  have k2 : o.k = 2 := by omega
  obtain ⟨hd, hk⟩ := h2 k2
  by_cases k7 : o.e.k = 7
  · rw [if_pos k7]
    clear h0 h1 h2 h3 h4 it
    obtain ⟨k, a, ⟨K, P, R, B, M, S, F, G⟩, s, d, ek, m⟩ := o
    exact OText_7 hd k7 ia ie k2 hT w hl
  · rw [if_neg k7]
    clear h0 h1 h2 h3 h4 it
    obtain ⟨k, a, ⟨K, P, R, B, M, S, F, G⟩, s, d, ek, m⟩ := o
    exact OText_2 hd im k7 ia ie k2 hT w hl
end Go.Proofs.YtjlajnackecfgaaGreatDoor
