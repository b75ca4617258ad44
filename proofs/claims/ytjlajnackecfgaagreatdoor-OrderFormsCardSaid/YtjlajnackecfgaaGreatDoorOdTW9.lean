/-
An order as the document has it. No condition.
Which orders may be, as the document has it. No condition but the numbers' kinds.
Which orders may be, as the document has it: the whole. No condition but the numbers' kinds.
-/
import Derived.Test.YtjlajnackecfgaaGreatDoorOdCW9
import Derived.RegionTactic
import Derived.BigQuiet
import Derived.Test.YtjlajnackecfgaaGreatDoorOdEW9
namespace Go.Proofs.YtjlajnackecfgaaGreatDoor
open Go.ChangeShapes Go.WideShapes Go.ChangeAt Go.RowKit
theorem infoOr20 : (Tryz.prog.info? 44).map (·.size) = some 14 := by kernel_rfl
theorem rowOr20 : RowT Tryz.prog 44 14 := ⟨_, Tryz.underlying44, rfl, infoOr20⟩
set_option maxRecDepth 100000 in
set_option maxHeartbeats 8000000 in
theorem own20_any {k a K R B s ek : Nat} {P M S F G d m : Int} (hS : -2147483648 ≤ S ∧ S ≤ 2147483647) (hd : -2147483648 ≤ d ∧ d ≤ 2147483647) (w : World) :
    Calls Tryz.prog 11 #[.agg #[.int .u8 (k : Int), .int .u32 (a : Int), .int .u8 (K : Int), .int .i64 P, .int .u32 (R : Int), .int .u8 (B : Int), .int .i64 M, .int .i32 S, .int .i64 F, .int .i64 G, .int .u32 (s : Int), .int .i32 d, .int .u8 (ek : Int), .int .i64 m]] w (Ret (.agg #[.int .u8 (k : Int), .int .u32 (a : Int), .int .u8 (K : Int), .int .i64 P, .int .u32 (R : Int), .int .u8 (B : Int), .int .i64 M, .int .i64 S, .int .i64 F, .int .i64 G, .int .u32 (s : Int), .int .i64 d, .int .u8 (ek : Int), .int .i64 m]) w) := by
  have HQ := Lib.hid ((Blk.new w 32 #[.int .u8 (k : Int), .int .u32 (a : Int), .int .u8 (K : Int), .int .i64 P, .int .u32 (R : Int), .int .u8 (B : Int), .int .i64 M, .int .i32 S, .int .i64 F, .int .i64 G, .int .u32 (s : Int), .int .i32 d, .int .u8 (ek : Int), .int .i64 m]).alloc (.cells #[.int .u8 0, .int .u32 0, .int .u8 0, .int .i64 0, .int .u32 0, .int .u8 0, .int .i64 0, .int .i64 0, .int .i64 0, .int .i64 0, .int .u32 0, .int .i64 0, .int .u8 0, .int .i64 0] 44))
  obtain ⟨z0, z1, z2, z3, z4, z5, z6, z7, z8, z9, z10, z11, z12, z13⟩ := blk14 HQ.out
  obtain ⟨hS1, hS2⟩ := hS
  obtain ⟨hd1, hd2⟩ := hd
  go_enter Tryz.func11, Tryz.ntmps11
  go_upto_region 1 with (fail)
  go_region
  · have HQ1 := Lib.hid ((HQ.out.alloc (.cells #[.int .u8 (K : Int), .int .i64 P, .int .u32 (R : Int), .int .u8 (B : Int), .int .i64 M, .int .i32 S, .int .i64 F, .int .i64 G] 28)).alloc (.cells #[.int .u32 (s : Int), .int .i32 d, .int .u8 (ek : Int), .int .i64 m] 30))
    have hR := ((Blk.new (w.alloc (.cells #[.int .u8 (k : Int), .int .u32 (a : Int), .int .u8 (K : Int), .int .i64 P, .int .u32 (R : Int), .int .u8 (B : Int), .int .i64 M, .int .i32 S, .int .i64 F, .int .i64 G, .int .u32 (s : Int), .int .i32 d, .int .u8 (ek : Int), .int .i64 m] 32)) 44 #[.int .u8 0, .int .u32 0, .int .u8 0, .int .i64 0, .int .u32 0, .int .u8 0, .int .i64 0, .int .i64 0, .int .i64 0, .int .i64 0, .int .u32 0, .int .i64 0, .int .u8 0, .int .i64 0]).alloc (.cells #[.int .u8 (K : Int), .int .i64 P, .int .u32 (R : Int), .int .u8 (B : Int), .int .i64 M, .int .i32 S, .int .i64 F, .int .i64 G] 28)).alloc (.cells #[.int .u32 (s : Int), .int .i32 d, .int .u8 (ek : Int), .int .i64 m] 30)
    rw [World.size_alloc] at hR
    have HR := Lib.hid hR
    have HX := Lib.hid (((((b_alloc w (.cells #[.int .u8 (k : Int), .int .u32 (a : Int), .int .u8 (K : Int), .int .i64 P, .int .u32 (R : Int), .int .u8 (B : Int), .int .i64 M, .int .i32 S, .int .i64 F, .int .i64 G, .int .u32 (s : Int), .int .i32 d, .int .u8 (ek : Int), .int .i64 m] 32)).alloc (by simp) (.cells #[.int .u8 0, .int .u32 0, .int .u8 0, .int .i64 0, .int .u32 0, .int .u8 0, .int .i64 0, .int .i64 0, .int .i64 0, .int .i64 0, .int .u32 0, .int .i64 0, .int .u8 0, .int .i64 0] 44)).alloc (by simp; omega) (.cells #[.int .u8 (K : Int), .int .i64 P, .int .u32 (R : Int), .int .u8 (B : Int), .int .i64 M, .int .i32 S, .int .i64 F, .int .i64 G] 28)).alloc (by simp; omega) (.cells #[.int .u32 (s : Int), .int .i32 d, .int .u8 (ek : Int), .int .i64 m] 30)))
    clear hR
    obtain ⟨z0, z1, z2, z3, z4, z5, z6, z7, z8, z9, z10, z11, z12, z13⟩ := blk14 HQ1.out
    go_wp2_with (with_reducible refine wpl_storeA (o := ⟨none, _, _, _, _, _⟩) rfl 44 (.tmp 2) (.tmp 43) rfl (w.heap.size + 1) rfl #[.int .u8 (k : Int), .int .u32 (a : Int), .int .u8 (K : Int), .int .i64 P, .int .u32 (R : Int), .int .u8 (B : Int), .int .i64 M, .int .i64 S, .int .i64 F, .int .i64 G, .int .u32 (s : Int), .int .i64 d, .int .u8 (ek : Int), .int .i64 m] rfl HR.out.drew ?g5 ?g6 ?g7 ?_)
    case g5 => rfl
    case g6 => exact rowOr20
    case g7 => simp [Value.oneCell']
    intro w10 ho hY10
    have hB10 := Below.trans HX.out.drew (below_only ho (show w.heap.size ≤ w.heap.size + 1 by omega))
    go_wp2_with fail
    obtain ⟨r0, r1, r2, r3, r4, r5, r6, r7, r8, r9, r10, r11, r12, r13⟩ := blk14 hY10
    refine bodyPost_ret (v := .agg #[.int .u8 (k : Int), .int .u32 (a : Int), .int .u8 (K : Int), .int .i64 P, .int .u32 (R : Int), .int .u8 (B : Int), .int .i64 M, .int .i64 S, .int .i64 F, .int .i64 G, .int .u32 (s : Int), .int .i64 d, .int .u8 (ek : Int), .int .i64 m]) ?_ rfl ⟨rfl, hB10⟩
    simp [results, Tryz.results11, go_sem, r0, r1, r2, r3, r4, r5, r6, r7, r8, r9, r10, r11, r12, r13]
  · have HQ1 := Lib.hid ((HQ.out.alloc (.cells #[.int .u32 (s : Int), .int .i32 d, .int .u8 (ek : Int), .int .i64 m] 30)).alloc (.cells #[.int .u8 (K : Int), .int .i64 P, .int .u32 (R : Int), .int .u8 (B : Int), .int .i64 M, .int .i32 S, .int .i64 F, .int .i64 G] 28))
    have hR := ((Blk.new (w.alloc (.cells #[.int .u8 (k : Int), .int .u32 (a : Int), .int .u8 (K : Int), .int .i64 P, .int .u32 (R : Int), .int .u8 (B : Int), .int .i64 M, .int .i32 S, .int .i64 F, .int .i64 G, .int .u32 (s : Int), .int .i32 d, .int .u8 (ek : Int), .int .i64 m] 32)) 44 #[.int .u8 0, .int .u32 0, .int .u8 0, .int .i64 0, .int .u32 0, .int .u8 0, .int .i64 0, .int .i64 0, .int .i64 0, .int .i64 0, .int .u32 0, .int .i64 0, .int .u8 0, .int .i64 0]).alloc (.cells #[.int .u32 (s : Int), .int .i32 d, .int .u8 (ek : Int), .int .i64 m] 30)).alloc (.cells #[.int .u8 (K : Int), .int .i64 P, .int .u32 (R : Int), .int .u8 (B : Int), .int .i64 M, .int .i32 S, .int .i64 F, .int .i64 G] 28)
    rw [World.size_alloc] at hR
    have HR := Lib.hid hR
    have HX := Lib.hid (((((b_alloc w (.cells #[.int .u8 (k : Int), .int .u32 (a : Int), .int .u8 (K : Int), .int .i64 P, .int .u32 (R : Int), .int .u8 (B : Int), .int .i64 M, .int .i32 S, .int .i64 F, .int .i64 G, .int .u32 (s : Int), .int .i32 d, .int .u8 (ek : Int), .int .i64 m] 32)).alloc (by simp) (.cells #[.int .u8 0, .int .u32 0, .int .u8 0, .int .i64 0, .int .u32 0, .int .u8 0, .int .i64 0, .int .i64 0, .int .i64 0, .int .i64 0, .int .u32 0, .int .i64 0, .int .u8 0, .int .i64 0] 44)).alloc (by simp; omega) (.cells #[.int .u32 (s : Int), .int .i32 d, .int .u8 (ek : Int), .int .i64 m] 30)).alloc (by simp; omega) (.cells #[.int .u8 (K : Int), .int .i64 P, .int .u32 (R : Int), .int .u8 (B : Int), .int .i64 M, .int .i32 S, .int .i64 F, .int .i64 G] 28)))
    clear hR
    obtain ⟨z0, z1, z2, z3, z4, z5, z6, z7, z8, z9, z10, z11, z12, z13⟩ := blk14 HQ1.out
    go_wp2_with (with_reducible refine wpl_storeA (o := ⟨none, _, _, _, _, _⟩) rfl 44 (.tmp 2) (.tmp 43) rfl (w.heap.size + 1) rfl #[.int .u8 (k : Int), .int .u32 (a : Int), .int .u8 (K : Int), .int .i64 P, .int .u32 (R : Int), .int .u8 (B : Int), .int .i64 M, .int .i64 S, .int .i64 F, .int .i64 G, .int .u32 (s : Int), .int .i64 d, .int .u8 (ek : Int), .int .i64 m] rfl HR.out.drew ?g5 ?g6 ?g7 ?_)
    case g5 => rfl
    case g6 => exact rowOr20
    case g7 => simp [Value.oneCell']
    intro w10 ho hY10
    have hB10 := Below.trans HX.out.drew (below_only ho (show w.heap.size ≤ w.heap.size + 1 by omega))
    go_wp2_with fail
    obtain ⟨r0, r1, r2, r3, r4, r5, r6, r7, r8, r9, r10, r11, r12, r13⟩ := blk14 hY10
    refine bodyPost_ret (v := .agg #[.int .u8 (k : Int), .int .u32 (a : Int), .int .u8 (K : Int), .int .i64 P, .int .u32 (R : Int), .int .u8 (B : Int), .int .i64 M, .int .i64 S, .int .i64 F, .int .i64 G, .int .u32 (s : Int), .int .i64 d, .int .u8 (ek : Int), .int .i64 m]) ?_ rfl ⟨rfl, hB10⟩
    simp [results, Tryz.results11, go_sem, r0, r1, r2, r3, r4, r5, r6, r7, r8, r9, r10, r11, r12, r13]
theorem own20 (o : Ord) (hi : o.In) (w : World) : Calls Tryz.prog 11 #[o.v] w (Ret o.r w) := by
  obtain ⟨-, -, it, ie⟩ := hi
  obtain ⟨k, a, ⟨K, P, R, B, M, S, F, G⟩, s, d, ek, m⟩ := o
  exact own20_any it.S ie.d w
end Go.Proofs.YtjlajnackecfgaaGreatDoor
namespace Go.Proofs.YtjlajnackecfgaaGreatDoor
open Go.ChangeShapes Go.WideShapes Go.ChangeAt Go.RowKit Go.Shelf
set_option maxRecDepth 20000 in
theorem eqT16 (K P R B M S F G K' P' R' B' M' S' F' G' : Int) (W : World) : (Op.equalIn 10000 40 (.agg #[.int .u8 K, .int .i64 P, .int .u32 R, .int .u8 B, .int .i64 M, .int .i64 S, .int .i64 F, .int .i64 G]) (.agg #[.int .u8 K', .int .i64 P', .int .u32 R', .int .u8 B', .int .i64 M', .int .i64 S', .int .i64 F', .int .i64 G'])).run Tryz.prog W =
    .ok (decide (K = K' ∧ P = P' ∧ R = R' ∧ B = B' ∧ M = M' ∧ S = S' ∧ F = F' ∧ G = G')) W := by
  show (Op.equalIn (9998 + 1 + 1) 40 _ _).run _ _ = _
  rw [Op.equalIn]
  simp only [Sem.run_bind, run_underlying Tryz.underlying40, Result.andThen_ok]
  simp [sizeOf, typeInfo, go_sem]
  by_cases h0 : K = K' <;> by_cases h1 : P = P' <;> by_cases h2 : R = R' <;> by_cases h3 : B = B' <;> by_cases h4 : M = M' <;> by_cases h5 : S = S' <;> by_cases h6 : F = F' <;> by_cases h7 : G = G' <;> simp [h0, h1, h2, h3, h4, h5, h6, h7]
set_option maxRecDepth 20000 in
theorem eqE17 (s d k m s' d' k' m' : Int) (W : World) : (Op.equalIn 10000 42 (.agg #[.int .u32 s, .int .i64 d, .int .u8 k, .int .i64 m]) (.agg #[.int .u32 s', .int .i64 d', .int .u8 k', .int .i64 m'])).run Tryz.prog W = .ok (decide (s = s' ∧ d = d' ∧ k = k' ∧ m = m')) W := by
  show (Op.equalIn (9998 + 1 + 1) 42 _ _).run _ _ = _
  rw [Op.equalIn]
  simp only [Sem.run_bind, run_underlying Tryz.underlying42, Result.andThen_ok]
  simp [sizeOf, typeInfo, go_sem]
  by_cases h0 : s = s' <;> by_cases h1 : d = d' <;> by_cases h2 : k = k' <;> by_cases h3 : m = m' <;> simp [h0, h1, h2, h3]
set_option maxRecDepth 100000 in
set_option maxHeartbeats 4000000 in
theorem REv_0 {s ek : Nat} {d m : Int} (h : d < 0) (w : World) : Calls Tryz.prog 27 #[.agg #[.int .u32 (s : Int), .int .i64 d, .int .u8 (ek : Int), .int .i64 m]] w (Ret (.bool false) w) := by
  have q0 : decide (d < 0) = true := by simpa using h
  have HQ := Lib.hid (Blk.new w 42 #[.int .u32 (s : Int), .int .i64 d, .int .u8 (ek : Int), .int .i64 m])
  have HB := Lib.hid (b_alloc w (.cells #[.int .u32 (s : Int), .int .i64 d, .int .u8 (ek : Int), .int .i64 m] 42))
  have z1 := HQ.out.cell 1
  have z2 := HQ.out.cell 2
  have z3 := HQ.out.cell 3
  simp at z1 z2 z3
  go_enter Tryz.func27, Tryz.ntmps27
  go_wp2_with fail
  go_ret
  exact ⟨by first | rfl | simp, HB.out⟩
set_option maxRecDepth 100000 in
set_option maxHeartbeats 4000000 in
theorem REv_1 {s ek : Nat} {d m : Int} (h : 3652058 < d) (w : World) : Calls Tryz.prog 27 #[.agg #[.int .u32 (s : Int), .int .i64 d, .int .u8 (ek : Int), .int .i64 m]] w (Ret (.bool false) w) := by
  have q0 : ¬ d < 0 := by omega
  have HQ := Lib.hid (Blk.new w 42 #[.int .u32 (s : Int), .int .i64 d, .int .u8 (ek : Int), .int .i64 m])
  have HB := Lib.hid (b_alloc w (.cells #[.int .u32 (s : Int), .int .i64 d, .int .u8 (ek : Int), .int .i64 m] 42))
  have z1 := HQ.out.cell 1
  have z2 := HQ.out.cell 2
  have z3 := HQ.out.cell 3
  simp at z1 z2 z3
  go_enter Tryz.func27, Tryz.ntmps27
  go_wp2_with fail
  go_ret
  exact ⟨by first | rfl | simp, HB.out⟩
set_option maxRecDepth 100000 in
set_option maxHeartbeats 4000000 in
theorem REv_40 {s ek : Nat} {d m : Int} (h : 0 ≤ d ∧ d ≤ 3652058) (hk : ek = 4) (hm : m ≤ 0) (w : World) : Calls Tryz.prog 27 #[.agg #[.int .u32 (s : Int), .int .i64 d, .int .u8 (ek : Int), .int .i64 m]] w (Ret (.bool false) w) := by
  have q0 : ¬ d < 0 := by omega
  have q1 : ¬ 3652058 < d := by omega
  have j4 : ((ek : Int) == 4) = true := by rw [beq_iff_eq]; omega
  have q2 : ¬ 0 < m := by omega
  clear h hk hm
  have HQ := Lib.hid (Blk.new w 42 #[.int .u32 (s : Int), .int .i64 d, .int .u8 (ek : Int), .int .i64 m])
  have HB := Lib.hid (b_alloc w (.cells #[.int .u32 (s : Int), .int .i64 d, .int .u8 (ek : Int), .int .i64 m] 42))
  have z1 := HQ.out.cell 1
  have z2 := HQ.out.cell 2
  have z3 := HQ.out.cell 3
  simp at z1 z2 z3
  go_enter Tryz.func27, Tryz.ntmps27
  go_wp2_with fail
  go_ret
  exact ⟨by first | rfl | simp, HB.out⟩
set_option maxRecDepth 100000 in
set_option maxHeartbeats 4000000 in
theorem REv_41 {s ek : Nat} {d m : Int} (h : 0 ≤ d ∧ d ≤ 3652058) (hk : ek = 4) (hm : 0 < m) (w : World) : Calls Tryz.prog 27 #[.agg #[.int .u32 (s : Int), .int .i64 d, .int .u8 (ek : Int), .int .i64 m]] w (Ret (.bool (decide (m ≤ 1000000000000))) w) := by
  have q0 : ¬ d < 0 := by omega
  have q1 : ¬ 3652058 < d := by omega
  have j4 : ((ek : Int) == 4) = true := by rw [beq_iff_eq]; omega
  obtain ⟨b, hb⟩ : ∃ b : Bool, decide (m ≤ 1000000000000) = b := ⟨_, rfl⟩
  rw [hb]
  clear h hk
  have HQ := Lib.hid (Blk.new w 42 #[.int .u32 (s : Int), .int .i64 d, .int .u8 (ek : Int), .int .i64 m])
  have HB := Lib.hid (b_alloc w (.cells #[.int .u32 (s : Int), .int .i64 d, .int .u8 (ek : Int), .int .i64 m] 42))
  have z1 := HQ.out.cell 1
  have z2 := HQ.out.cell 2
  have z3 := HQ.out.cell 3
  simp at z1 z2 z3
  go_enter Tryz.func27, Tryz.ntmps27
  go_wp2_with fail
  go_ret
  exact ⟨by first | rfl | simp, HB.out⟩
set_option maxRecDepth 100000 in
set_option maxHeartbeats 4000000 in
theorem REv_50 {s ek : Nat} {d m : Int} (h : 0 ≤ d ∧ d ≤ 3652058) (hk : ek = 5) (hm : m ≤ 0) (w : World) : Calls Tryz.prog 27 #[.agg #[.int .u32 (s : Int), .int .i64 d, .int .u8 (ek : Int), .int .i64 m]] w (Ret (.bool false) w) := by
  have q0 : ¬ d < 0 := by omega
  have q1 : ¬ 3652058 < d := by omega
  have j4 : ((ek : Int) == 4) = false := by rw [beq_eq_false_iff_ne]; omega
  have j5 : ((ek : Int) == 5) = true := by rw [beq_iff_eq]; omega
  have q2 : ¬ 0 < m := by omega
  clear h hk hm
  have HQ := Lib.hid (Blk.new w 42 #[.int .u32 (s : Int), .int .i64 d, .int .u8 (ek : Int), .int .i64 m])
  have HB := Lib.hid (b_alloc w (.cells #[.int .u32 (s : Int), .int .i64 d, .int .u8 (ek : Int), .int .i64 m] 42))
  have z1 := HQ.out.cell 1
  have z2 := HQ.out.cell 2
  have z3 := HQ.out.cell 3
  simp at z1 z2 z3
  go_enter Tryz.func27, Tryz.ntmps27
  go_wp2_with fail
  go_ret
  exact ⟨by first | rfl | simp, HB.out⟩
set_option maxRecDepth 100000 in
set_option maxHeartbeats 4000000 in
theorem REv_51 {s ek : Nat} {d m : Int} (h : 0 ≤ d ∧ d ≤ 3652058) (hk : ek = 5) (hm : 0 < m) (w : World) : Calls Tryz.prog 27 #[.agg #[.int .u32 (s : Int), .int .i64 d, .int .u8 (ek : Int), .int .i64 m]] w (Ret (.bool (decide (m ≤ 1000000000000))) w) := by
  have q0 : ¬ d < 0 := by omega
  have q1 : ¬ 3652058 < d := by omega
  have j4 : ((ek : Int) == 4) = false := by rw [beq_eq_false_iff_ne]; omega
  have j5 : ((ek : Int) == 5) = true := by rw [beq_iff_eq]; omega
  obtain ⟨b, hb⟩ : ∃ b : Bool, decide (m ≤ 1000000000000) = b := ⟨_, rfl⟩
  rw [hb]
  clear h hk
  have HQ := Lib.hid (Blk.new w 42 #[.int .u32 (s : Int), .int .i64 d, .int .u8 (ek : Int), .int .i64 m])
  have HB := Lib.hid (b_alloc w (.cells #[.int .u32 (s : Int), .int .i64 d, .int .u8 (ek : Int), .int .i64 m] 42))
  have z1 := HQ.out.cell 1
  have z2 := HQ.out.cell 2
  have z3 := HQ.out.cell 3
  simp at z1 z2 z3
  go_enter Tryz.func27, Tryz.ntmps27
  go_wp2_with fail
  go_ret
  exact ⟨by first | rfl | simp, HB.out⟩
set_option maxRecDepth 100000 in
set_option maxHeartbeats 4000000 in
theorem REv_60 {s ek : Nat} {d m : Int} (h : 0 ≤ d ∧ d ≤ 3652058) (hk : ek = 6) (hm : m ≤ 0) (w : World) : Calls Tryz.prog 27 #[.agg #[.int .u32 (s : Int), .int .i64 d, .int .u8 (ek : Int), .int .i64 m]] w (Ret (.bool false) w) := by
  have q0 : ¬ d < 0 := by omega
  have q1 : ¬ 3652058 < d := by omega
  have j4 : ((ek : Int) == 4) = false := by rw [beq_eq_false_iff_ne]; omega
  have j5 : ((ek : Int) == 5) = false := by rw [beq_eq_false_iff_ne]; omega
  have j6 : ((ek : Int) == 6) = true := by rw [beq_iff_eq]; omega
  have q2 : ¬ 0 < m := by omega
  clear h hk hm
  have HQ := Lib.hid (Blk.new w 42 #[.int .u32 (s : Int), .int .i64 d, .int .u8 (ek : Int), .int .i64 m])
  have HB := Lib.hid (b_alloc w (.cells #[.int .u32 (s : Int), .int .i64 d, .int .u8 (ek : Int), .int .i64 m] 42))
  have z1 := HQ.out.cell 1
  have z2 := HQ.out.cell 2
  have z3 := HQ.out.cell 3
  simp at z1 z2 z3
  go_enter Tryz.func27, Tryz.ntmps27
  go_wp2_with fail
  go_ret
  exact ⟨by first | rfl | simp, HB.out⟩
set_option maxRecDepth 100000 in
set_option maxHeartbeats 4000000 in
theorem REv_61 {s ek : Nat} {d m : Int} (h : 0 ≤ d ∧ d ≤ 3652058) (hk : ek = 6) (hm : 0 < m) (w : World) : Calls Tryz.prog 27 #[.agg #[.int .u32 (s : Int), .int .i64 d, .int .u8 (ek : Int), .int .i64 m]] w (Ret (.bool (decide (m ≤ 1000000000000))) w) := by
  have q0 : ¬ d < 0 := by omega
  have q1 : ¬ 3652058 < d := by omega
  have j4 : ((ek : Int) == 4) = false := by rw [beq_eq_false_iff_ne]; omega
  have j5 : ((ek : Int) == 5) = false := by rw [beq_eq_false_iff_ne]; omega
  have j6 : ((ek : Int) == 6) = true := by rw [beq_iff_eq]; omega
  obtain ⟨b, hb⟩ : ∃ b : Bool, decide (m ≤ 1000000000000) = b := ⟨_, rfl⟩
  rw [hb]
  clear h hk
  have HQ := Lib.hid (Blk.new w 42 #[.int .u32 (s : Int), .int .i64 d, .int .u8 (ek : Int), .int .i64 m])
  have HB := Lib.hid (b_alloc w (.cells #[.int .u32 (s : Int), .int .i64 d, .int .u8 (ek : Int), .int .i64 m] 42))
  have z1 := HQ.out.cell 1
  have z2 := HQ.out.cell 2
  have z3 := HQ.out.cell 3
  simp at z1 z2 z3
  go_enter Tryz.func27, Tryz.ntmps27
  go_wp2_with fail
  go_ret
  exact ⟨by first | rfl | simp, HB.out⟩
set_option maxRecDepth 100000 in
set_option maxHeartbeats 4000000 in
theorem REv_70 {s ek : Nat} {d m : Int} (h : 0 ≤ d ∧ d ≤ 3652058) (hk : ek = 7) (hm : m = 0) (w : World) : Calls Tryz.prog 27 #[.agg #[.int .u32 (s : Int), .int .i64 d, .int .u8 (ek : Int), .int .i64 m]] w (Ret (.bool true) w) := by
  have q0 : ¬ d < 0 := by omega
  have q1 : ¬ 3652058 < d := by omega
  have j4 : ((ek : Int) == 4) = false := by rw [beq_eq_false_iff_ne]; omega
  have j5 : ((ek : Int) == 5) = false := by rw [beq_eq_false_iff_ne]; omega
  have j6 : ((ek : Int) == 6) = false := by rw [beq_eq_false_iff_ne]; omega
  have j7 : ((ek : Int) == 7) = true := by rw [beq_iff_eq]; omega
  have q3 : (m == 0) = true := by rw [beq_iff_eq]; exact hm
  clear h hk hm
  have HQ := Lib.hid (Blk.new w 42 #[.int .u32 (s : Int), .int .i64 d, .int .u8 (ek : Int), .int .i64 m])
  have HB := Lib.hid (b_alloc w (.cells #[.int .u32 (s : Int), .int .i64 d, .int .u8 (ek : Int), .int .i64 m] 42))
  have z1 := HQ.out.cell 1
  have z2 := HQ.out.cell 2
  have z3 := HQ.out.cell 3
  simp at z1 z2 z3
  go_enter Tryz.func27, Tryz.ntmps27
  go_wp2_with fail
  go_ret
  exact ⟨by first | rfl | simp, HB.out⟩
set_option maxRecDepth 100000 in
set_option maxHeartbeats 4000000 in
theorem REv_71 {s ek : Nat} {d m : Int} (h : 0 ≤ d ∧ d ≤ 3652058) (hk : ek = 7) (hm : m ≠ 0) (w : World) : Calls Tryz.prog 27 #[.agg #[.int .u32 (s : Int), .int .i64 d, .int .u8 (ek : Int), .int .i64 m]] w (Ret (.bool false) w) := by
  have q0 : ¬ d < 0 := by omega
  have q1 : ¬ 3652058 < d := by omega
  have j4 : ((ek : Int) == 4) = false := by rw [beq_eq_false_iff_ne]; omega
  have j5 : ((ek : Int) == 5) = false := by rw [beq_eq_false_iff_ne]; omega
  have j6 : ((ek : Int) == 6) = false := by rw [beq_eq_false_iff_ne]; omega
  have j7 : ((ek : Int) == 7) = true := by rw [beq_iff_eq]; omega
  have q3 : (m == 0) = false := by rw [beq_eq_false_iff_ne]; exact hm
  clear h hk hm
  have HQ := Lib.hid (Blk.new w 42 #[.int .u32 (s : Int), .int .i64 d, .int .u8 (ek : Int), .int .i64 m])
  have HB := Lib.hid (b_alloc w (.cells #[.int .u32 (s : Int), .int .i64 d, .int .u8 (ek : Int), .int .i64 m] 42))
  have z1 := HQ.out.cell 1
  have z2 := HQ.out.cell 2
  have z3 := HQ.out.cell 3
  simp at z1 z2 z3
  go_enter Tryz.func27, Tryz.ntmps27
  go_wp2_with fail
  go_ret
  exact ⟨by first | rfl | simp, HB.out⟩
set_option maxRecDepth 100000 in
set_option maxHeartbeats 4000000 in
theorem REv_8 {s ek : Nat} {d m : Int} (h : 0 ≤ d ∧ d ≤ 3652058) (hk : ek ≠ 4 ∧ ek ≠ 5 ∧ ek ≠ 6 ∧ ek ≠ 7) (w : World) : Calls Tryz.prog 27 #[.agg #[.int .u32 (s : Int), .int .i64 d, .int .u8 (ek : Int), .int .i64 m]] w (Ret (.bool false) w) := by
  have q0 : ¬ d < 0 := by omega
  have q1 : ¬ 3652058 < d := by omega
  have j4 : ((ek : Int) == 4) = false := by rw [beq_eq_false_iff_ne]; omega
  have j5 : ((ek : Int) == 5) = false := by rw [beq_eq_false_iff_ne]; omega
  have j6 : ((ek : Int) == 6) = false := by rw [beq_eq_false_iff_ne]; omega
  have j7 : ((ek : Int) == 7) = false := by rw [beq_eq_false_iff_ne]; omega
  clear h hk
  have HQ := Lib.hid (Blk.new w 42 #[.int .u32 (s : Int), .int .i64 d, .int .u8 (ek : Int), .int .i64 m])
  have HB := Lib.hid (b_alloc w (.cells #[.int .u32 (s : Int), .int .i64 d, .int .u8 (ek : Int), .int .i64 m] 42))
  have z1 := HQ.out.cell 1
  have z2 := HQ.out.cell 2
  have z3 := HQ.out.cell 3
  simp at z1 z2 z3
  go_enter Tryz.func27, Tryz.ntmps27
  go_wp2_with fail
  go_ret
  exact ⟨by first | rfl | simp, HB.out⟩
theorem REv_true {e : Evt} (h : e.Right) (w : World) : Calls Tryz.prog 27 #[e.r] w (Ret (.bool true) w) := by
  obtain ⟨s, d, k, m⟩ := e
  obtain ⟨hd, hk⟩ := h
  dsimp only at hd hk
  rcases hk with ⟨h1, h2, h3, h4⟩ | ⟨h1, h2⟩
  · rcases (show k = 4 ∨ k = 5 ∨ k = 6 by omega) with hk | hk | hk
    · have := REv_41 (s := s) (m := m) hd hk (by omega) w
      rwa [decide_eq_true h4] at this
    · have := REv_51 (s := s) (m := m) hd hk (by omega) w
      rwa [decide_eq_true h4] at this
    · have := REv_61 (s := s) (m := m) hd hk (by omega) w
      rwa [decide_eq_true h4] at this
  · exact REv_70 hd h1 h2 w
theorem REv_false {e : Evt} (h : ¬ e.Right) (w : World) : Calls Tryz.prog 27 #[e.r] w (Ret (.bool false) w) := by
  obtain ⟨s, d, k, m⟩ := e
  by_cases h0 : d < 0
  · exact REv_0 h0 w
  by_cases h1 : 3652058 < d
  · exact REv_1 h1 w
  have hd : 0 ≤ d ∧ d ≤ 3652058 := by omega
  by_cases k7 : k = 7
  · exact REv_71 hd k7 (fun hm => h ⟨hd, .inr ⟨k7, hm⟩⟩) w
  by_cases k8 : k ≠ 4 ∧ k ≠ 5 ∧ k ≠ 6 ∧ k ≠ 7
  · exact REv_8 hd k8 w
  have hm : m ≤ 0 ∨ (0 < m ∧ ¬ m ≤ 1000000000000) := by
    by_cases h2 : m ≤ 0
    · exact .inl h2
    · refine .inr ⟨by omega, fun h3 => h ⟨hd, .inl ⟨?_, ?_, ?_, h3⟩⟩⟩
      · show 4 ≤ k; omega
      · show k ≤ 6; omega
      · show 1 ≤ m; omega
  rcases (show k = 4 ∨ k = 5 ∨ k = 6 by omega) with hk | hk | hk
  · rcases hm with hm | ⟨hm, hm2⟩
    · exact REv_40 hd hk hm w
    · have := REv_41 (s := s) (m := m) hd hk hm w
      rwa [decide_eq_false hm2] at this
  · rcases hm with hm | ⟨hm, hm2⟩
    · exact REv_50 hd hk hm w
    · have := REv_51 (s := s) (m := m) hd hk hm w
      rwa [decide_eq_false hm2] at this
  · rcases hm with hm | ⟨hm, hm2⟩
    · exact REv_60 hd hk hm w
    · have := REv_61 (s := s) (m := m) hd hk hm w
      rwa [decide_eq_false hm2] at this
end Go.Proofs.YtjlajnackecfgaaGreatDoor
namespace Go.Proofs.YtjlajnackecfgaaGreatDoor
open Go.ChangeShapes Go.WideShapes Go.ChangeAt Go.RowKit Go.Shelf
set_option maxRecDepth 100000 in
set_option maxHeartbeats 4000000 in
theorem RR_1 {k a K R B s ek : Nat} {P M S F G d m : Int} {nB qB : Bool} (hT : ∀ W, (Op.equalIn 10000 40 (.agg #[.int .u8 (K : Int), .int .i64 P, .int .u32 (R : Int), .int .u8 (B : Int), .int .i64 M, .int .i64 S, .int .i64 F, .int .i64 G]) (.agg #[.int .u8 0, .int .i64 0, .int .u32 0, .int .u8 0, .int .i64 0, .int .i64 0, .int .i64 0, .int .i64 0])).run Tryz.prog W = .ok nB W) (hE : ∀ W, (Op.equalIn 10000 42 (.agg #[.int .u32 (s : Int), .int .i64 d, .int .u8 (ek : Int), .int .i64 m]) (.agg #[.int .u32 0, .int .i64 0, .int .u8 0, .int .i64 0])).run Tryz.prog W = .ok qB W) {b : Bool} (j : k = 1) (cC : ∀ W, Calls Tryz.prog 26 #[.agg #[.int .u8 (K : Int), .int .i64 P, .int .u32 (R : Int), .int .u8 (B : Int), .int .i64 M, .int .i64 S, .int .i64 F, .int .i64 G]] W (Ret (.bool b) W)) (w : World) : Calls Tryz.prog 10 #[.agg #[.int .u8 (k : Int), .int .u32 (a : Int), .int .u8 (K : Int), .int .i64 P, .int .u32 (R : Int), .int .u8 (B : Int), .int .i64 M, .int .i64 S, .int .i64 F, .int .i64 G, .int .u32 (s : Int), .int .i64 d, .int .u8 (ek : Int), .int .i64 m]] w (Ret (.bool (qB && b)) w) := by
  have j1 : ((k : Int) == 1) = true := by rw [beq_iff_eq]; omega
  clear j
  have HQ := Lib.hid (Blk.new w 44 #[.int .u8 (k : Int), .int .u32 (a : Int), .int .u8 (K : Int), .int .i64 P, .int .u32 (R : Int), .int .u8 (B : Int), .int .i64 M, .int .i64 S, .int .i64 F, .int .i64 G, .int .u32 (s : Int), .int .i64 d, .int .u8 (ek : Int), .int .i64 m])
  have HB := Lib.hid (b_alloc w (.cells #[.int .u8 (k : Int), .int .u32 (a : Int), .int .u8 (K : Int), .int .i64 P, .int .u32 (R : Int), .int .u8 (B : Int), .int .i64 M, .int .i64 S, .int .i64 F, .int .i64 G, .int .u32 (s : Int), .int .i64 d, .int .u8 (ek : Int), .int .i64 m] 44))
  obtain ⟨W0, hW⟩ : ∃ W, w.alloc (.cells #[.int .u8 (k : Int), .int .u32 (a : Int), .int .u8 (K : Int), .int .i64 P, .int .u32 (R : Int), .int .u8 (B : Int), .int .i64 M, .int .i64 S, .int .i64 F, .int .i64 G, .int .u32 (s : Int), .int .i64 d, .int .u8 (ek : Int), .int .i64 m] 44) = W := ⟨_, rfl⟩
  obtain ⟨p, hp⟩ : ∃ p, w.heap.size = p := ⟨_, rfl⟩
  rw [hW, hp] at HQ HB
  have HW := Lib.hid (And.intro hW hp)
  clear hW hp
  obtain ⟨z0, z1, z2, z3, z4, z5, z6, z7, z8, z9, z10, z11, z12, z13⟩ := blk14 HQ.out
  go_enter Tryz.func10, Tryz.ntmps10
  go_upto_region 1 with (fail)
  rw [HW.out.1, HW.out.2]
  go_quiet (fail)
  cases qB
  · go_wp2_with fail
    go_ret
    exact ⟨by first | rfl | simp, by rw [HW.out.2]; exact below_drewN HB.out _⟩
  · go_wp2_with fail
    refine (cC _).mono ?_
    rintro e w9 ⟨rfl, hb⟩
    have HB9 := Lib.hid ((below_drewN HB.out _).trans (hb.mono (by have := HB.out.size; have := HW.out.2; show p ≤ W0.heap.size; omega)))
    clear hb cC
    go_wp2_with fail
    go_ret
    exact ⟨by first | rfl | simp, by rw [HW.out.2]; exact HB9.out⟩
set_option maxRecDepth 100000 in
set_option maxHeartbeats 4000000 in
theorem RR_2 {k a K R B s ek : Nat} {P M S F G d m : Int} {nB qB : Bool} (hT : ∀ W, (Op.equalIn 10000 40 (.agg #[.int .u8 (K : Int), .int .i64 P, .int .u32 (R : Int), .int .u8 (B : Int), .int .i64 M, .int .i64 S, .int .i64 F, .int .i64 G]) (.agg #[.int .u8 0, .int .i64 0, .int .u32 0, .int .u8 0, .int .i64 0, .int .i64 0, .int .i64 0, .int .i64 0])).run Tryz.prog W = .ok nB W) (hE : ∀ W, (Op.equalIn 10000 42 (.agg #[.int .u32 (s : Int), .int .i64 d, .int .u8 (ek : Int), .int .i64 m]) (.agg #[.int .u32 0, .int .i64 0, .int .u8 0, .int .i64 0])).run Tryz.prog W = .ok qB W) {b : Bool} (j : k = 2) (cC : ∀ W, Calls Tryz.prog 27 #[.agg #[.int .u32 (s : Int), .int .i64 d, .int .u8 (ek : Int), .int .i64 m]] W (Ret (.bool b) W)) (w : World) : Calls Tryz.prog 10 #[.agg #[.int .u8 (k : Int), .int .u32 (a : Int), .int .u8 (K : Int), .int .i64 P, .int .u32 (R : Int), .int .u8 (B : Int), .int .i64 M, .int .i64 S, .int .i64 F, .int .i64 G, .int .u32 (s : Int), .int .i64 d, .int .u8 (ek : Int), .int .i64 m]] w (Ret (.bool (nB && b)) w) := by
  have j1 : ((k : Int) == 1) = false := by rw [beq_eq_false_iff_ne]; omega
  have j2 : ((k : Int) == 2) = true := by rw [beq_iff_eq]; omega
  clear j
  have HQ := Lib.hid (Blk.new w 44 #[.int .u8 (k : Int), .int .u32 (a : Int), .int .u8 (K : Int), .int .i64 P, .int .u32 (R : Int), .int .u8 (B : Int), .int .i64 M, .int .i64 S, .int .i64 F, .int .i64 G, .int .u32 (s : Int), .int .i64 d, .int .u8 (ek : Int), .int .i64 m])
  have HB := Lib.hid (b_alloc w (.cells #[.int .u8 (k : Int), .int .u32 (a : Int), .int .u8 (K : Int), .int .i64 P, .int .u32 (R : Int), .int .u8 (B : Int), .int .i64 M, .int .i64 S, .int .i64 F, .int .i64 G, .int .u32 (s : Int), .int .i64 d, .int .u8 (ek : Int), .int .i64 m] 44))
  obtain ⟨W0, hW⟩ : ∃ W, w.alloc (.cells #[.int .u8 (k : Int), .int .u32 (a : Int), .int .u8 (K : Int), .int .i64 P, .int .u32 (R : Int), .int .u8 (B : Int), .int .i64 M, .int .i64 S, .int .i64 F, .int .i64 G, .int .u32 (s : Int), .int .i64 d, .int .u8 (ek : Int), .int .i64 m] 44) = W := ⟨_, rfl⟩
  obtain ⟨p, hp⟩ : ∃ p, w.heap.size = p := ⟨_, rfl⟩
  rw [hW, hp] at HQ HB
  have HW := Lib.hid (And.intro hW hp)
  clear hW hp
  obtain ⟨z0, z1, z2, z3, z4, z5, z6, z7, z8, z9, z10, z11, z12, z13⟩ := blk14 HQ.out
  go_enter Tryz.func10, Tryz.ntmps10
  go_upto_region 1 with (fail)
  rw [HW.out.1, HW.out.2]
  go_quiet (fail)
  cases nB
  · go_wp2_with fail
    go_ret
    exact ⟨by first | rfl | simp, by rw [HW.out.2]; exact below_drewN HB.out _⟩
  · go_wp2_with fail
    refine (cC _).mono ?_
    rintro e w9 ⟨rfl, hb⟩
    have HB9 := Lib.hid ((below_drewN HB.out _).trans (hb.mono (by have := HB.out.size; have := HW.out.2; show p ≤ W0.heap.size; omega)))
    clear hb cC
    go_wp2_with fail
    go_ret
    exact ⟨by first | rfl | simp, by rw [HW.out.2]; exact HB9.out⟩
set_option maxRecDepth 100000 in
set_option maxHeartbeats 4000000 in
theorem RR_3 {k a K R B s ek : Nat} {P M S F G d m : Int} {nB qB : Bool} (hT : ∀ W, (Op.equalIn 10000 40 (.agg #[.int .u8 (K : Int), .int .i64 P, .int .u32 (R : Int), .int .u8 (B : Int), .int .i64 M, .int .i64 S, .int .i64 F, .int .i64 G]) (.agg #[.int .u8 0, .int .i64 0, .int .u32 0, .int .u8 0, .int .i64 0, .int .i64 0, .int .i64 0, .int .i64 0])).run Tryz.prog W = .ok nB W) (hE : ∀ W, (Op.equalIn 10000 42 (.agg #[.int .u32 (s : Int), .int .i64 d, .int .u8 (ek : Int), .int .i64 m]) (.agg #[.int .u32 0, .int .i64 0, .int .u8 0, .int .i64 0])).run Tryz.prog W = .ok qB W) {b1 b2 b3 : Bool} (x1 : (d == 0) = b1) (x2 : ((ek : Int) == 0) = b2) (x3 : (m == 0) = b3) (j : k = 3) (w : World) : Calls Tryz.prog 10 #[.agg #[.int .u8 (k : Int), .int .u32 (a : Int), .int .u8 (K : Int), .int .i64 P, .int .u32 (R : Int), .int .u8 (B : Int), .int .i64 M, .int .i64 S, .int .i64 F, .int .i64 G, .int .u32 (s : Int), .int .i64 d, .int .u8 (ek : Int), .int .i64 m]] w (Ret (.bool (nB && (b1 && (b2 && b3)))) w) := by
  have j1 : ((k : Int) == 1) = false := by rw [beq_eq_false_iff_ne]; omega
  have j2 : ((k : Int) == 2) = false := by rw [beq_eq_false_iff_ne]; omega
  have j3 : ((k : Int) == 3) = true := by rw [beq_iff_eq]; omega
  clear j
  have HQ := Lib.hid (Blk.new w 44 #[.int .u8 (k : Int), .int .u32 (a : Int), .int .u8 (K : Int), .int .i64 P, .int .u32 (R : Int), .int .u8 (B : Int), .int .i64 M, .int .i64 S, .int .i64 F, .int .i64 G, .int .u32 (s : Int), .int .i64 d, .int .u8 (ek : Int), .int .i64 m])
  have HB := Lib.hid (b_alloc w (.cells #[.int .u8 (k : Int), .int .u32 (a : Int), .int .u8 (K : Int), .int .i64 P, .int .u32 (R : Int), .int .u8 (B : Int), .int .i64 M, .int .i64 S, .int .i64 F, .int .i64 G, .int .u32 (s : Int), .int .i64 d, .int .u8 (ek : Int), .int .i64 m] 44))
  obtain ⟨W0, hW⟩ : ∃ W, w.alloc (.cells #[.int .u8 (k : Int), .int .u32 (a : Int), .int .u8 (K : Int), .int .i64 P, .int .u32 (R : Int), .int .u8 (B : Int), .int .i64 M, .int .i64 S, .int .i64 F, .int .i64 G, .int .u32 (s : Int), .int .i64 d, .int .u8 (ek : Int), .int .i64 m] 44) = W := ⟨_, rfl⟩
  obtain ⟨p, hp⟩ : ∃ p, w.heap.size = p := ⟨_, rfl⟩
  rw [hW, hp] at HQ HB
  have HW := Lib.hid (And.intro hW hp)
  clear hW hp
  obtain ⟨z0, z1, z2, z3, z4, z5, z6, z7, z8, z9, z10, z11, z12, z13⟩ := blk14 HQ.out
  go_enter Tryz.func10, Tryz.ntmps10
  go_upto_region 1 with (fail)
  rw [HW.out.1, HW.out.2]
  go_quiet (fail)
  cases nB <;> cases b1 <;> cases b2 <;> cases b3
  all_goals
    go_wp2_with fail
    go_ret
    exact ⟨by first | rfl | simp, by rw [HW.out.2]; exact below_drewN HB.out _⟩
set_option maxRecDepth 100000 in
set_option maxHeartbeats 4000000 in
theorem RR_4 {k a K R B s ek : Nat} {P M S F G d m : Int} {nB qB : Bool} (hT : ∀ W, (Op.equalIn 10000 40 (.agg #[.int .u8 (K : Int), .int .i64 P, .int .u32 (R : Int), .int .u8 (B : Int), .int .i64 M, .int .i64 S, .int .i64 F, .int .i64 G]) (.agg #[.int .u8 0, .int .i64 0, .int .u32 0, .int .u8 0, .int .i64 0, .int .i64 0, .int .i64 0, .int .i64 0])).run Tryz.prog W = .ok nB W) (hE : ∀ W, (Op.equalIn 10000 42 (.agg #[.int .u32 (s : Int), .int .i64 d, .int .u8 (ek : Int), .int .i64 m]) (.agg #[.int .u32 0, .int .i64 0, .int .u8 0, .int .i64 0])).run Tryz.prog W = .ok qB W) {b1 b2 : Bool} (x1 : ((k : Int) == 4) = b1) (x2 : ((a : Int) == 0) = b2) (j : k ≠ 1 ∧ k ≠ 2 ∧ k ≠ 3) (w : World) : Calls Tryz.prog 10 #[.agg #[.int .u8 (k : Int), .int .u32 (a : Int), .int .u8 (K : Int), .int .i64 P, .int .u32 (R : Int), .int .u8 (B : Int), .int .i64 M, .int .i64 S, .int .i64 F, .int .i64 G, .int .u32 (s : Int), .int .i64 d, .int .u8 (ek : Int), .int .i64 m]] w (Ret (.bool (b1 && (nB && (qB && b2)))) w) := by
  have j1 : ((k : Int) == 1) = false := by rw [beq_eq_false_iff_ne]; omega
  have j2 : ((k : Int) == 2) = false := by rw [beq_eq_false_iff_ne]; omega
  have j3 : ((k : Int) == 3) = false := by rw [beq_eq_false_iff_ne]; omega
  clear j
  have HQ := Lib.hid (Blk.new w 44 #[.int .u8 (k : Int), .int .u32 (a : Int), .int .u8 (K : Int), .int .i64 P, .int .u32 (R : Int), .int .u8 (B : Int), .int .i64 M, .int .i64 S, .int .i64 F, .int .i64 G, .int .u32 (s : Int), .int .i64 d, .int .u8 (ek : Int), .int .i64 m])
  have HB := Lib.hid (b_alloc w (.cells #[.int .u8 (k : Int), .int .u32 (a : Int), .int .u8 (K : Int), .int .i64 P, .int .u32 (R : Int), .int .u8 (B : Int), .int .i64 M, .int .i64 S, .int .i64 F, .int .i64 G, .int .u32 (s : Int), .int .i64 d, .int .u8 (ek : Int), .int .i64 m] 44))
  obtain ⟨W0, hW⟩ : ∃ W, w.alloc (.cells #[.int .u8 (k : Int), .int .u32 (a : Int), .int .u8 (K : Int), .int .i64 P, .int .u32 (R : Int), .int .u8 (B : Int), .int .i64 M, .int .i64 S, .int .i64 F, .int .i64 G, .int .u32 (s : Int), .int .i64 d, .int .u8 (ek : Int), .int .i64 m] 44) = W := ⟨_, rfl⟩
  obtain ⟨p, hp⟩ : ∃ p, w.heap.size = p := ⟨_, rfl⟩
  rw [hW, hp] at HQ HB
  have HW := Lib.hid (And.intro hW hp)
  clear hW hp
  obtain ⟨z0, z1, z2, z3, z4, z5, z6, z7, z8, z9, z10, z11, z12, z13⟩ := blk14 HQ.out
  go_enter Tryz.func10, Tryz.ntmps10
  go_upto_region 1 with (fail)
  rw [HW.out.1, HW.out.2]
  go_quiet (fail)
  cases b1 <;> cases nB <;> cases qB <;> cases b2
  all_goals
    go_wp2_with fail
    go_ret
    exact ⟨by first | rfl | simp, by rw [HW.out.2]; exact below_drewN HB.out _⟩
theorem RR_any (o : Ord) (hi : o.In) (b : Bool) (hb : (b = true) ↔ o.Right) (w : World) : Calls Tryz.prog 10 #[o.r] w (Ret (.bool b) w) := by
  haveI := Classical.propDecidable (o.t = Trm.zero)
  haveI := Classical.propDecidable (o.e = Evt.zero)
  have hT : ∀ W, (Op.equalIn 10000 40 o.t.r (.agg #[.int .u8 0, .int .i64 0, .int .u32 0, .int .u8 0, .int .i64 0, .int .i64 0, .int .i64 0, .int .i64 0])).run Tryz.prog W = .ok (decide (o.t = Trm.zero)) W := fun W => by
    obtain ⟨k, a, ⟨K, P, R, B, M, S, F, G⟩, e⟩ := o
    refine (eqT16 (K : Int) P (R : Int) (B : Int) M S F G 0 0 0 0 0 0 0 0 W).trans ?_
    congr 1
    rw [decide_eq_decide, trm_ext2]
    exact Iff.rfl
  have hE : ∀ W, (Op.equalIn 10000 42 o.e.r (.agg #[.int .u32 0, .int .i64 0, .int .u8 0, .int .i64 0])).run Tryz.prog W = .ok (decide (o.e = Evt.zero)) W := fun W => by
    obtain ⟨k, a, t, ⟨s, d, ek, m⟩⟩ := o
    refine (eqE17 (s : Int) d (ek : Int) m 0 0 0 0 W).trans ?_
    congr 1
    rw [decide_eq_decide, evt_ext]
    exact Iff.rfl
  have iff_eq : ∀ x : Bool, ((x = true) ↔ o.Right) → x = b := fun x hx => by
    cases x <;> cases b <;> simp_all
  have ht := hi.t
  unfold Ord.Right at hb iff_eq
  by_cases k1 : o.k = 1
  · have hn : (o = o.named) ↔ o.e = Evt.zero := by
      unfold Ord.named
      rw [if_pos k1, ord_ext]
      dsimp only
      constructor
      · exact fun h => h.2.2.2
      · exact fun h => ⟨by omega, rfl, rfl, h⟩
    by_cases hr : o.t.Right
    · have cC := fun W => QRight_true ht hr W
      have hq : (decide (o.e = Evt.zero) && true) = b := iff_eq _ (by
        rw [Bool.and_true, decide_eq_true_eq, hn]
        exact ⟨fun h => ⟨h, fun _ => hr, fun h2 => by omega, by omega, by omega⟩, fun h => h.1⟩)
      rw [← hq]
      obtain ⟨k, a, ⟨K, P, R, B, M, S, F, G⟩, s, d, ek, m⟩ := o
      exact RR_1 hT hE k1 cC w
    · have cC := fun W => QRight_false ht hr W
      have hq : (decide (o.e = Evt.zero) && false) = b := iff_eq _ (by
        rw [Bool.and_false]
        exact ⟨fun h => by simp at h, fun h => absurd (h.2.1 k1) hr⟩)
      rw [← hq]
      obtain ⟨k, a, ⟨K, P, R, B, M, S, F, G⟩, s, d, ek, m⟩ := o
      exact RR_1 hT hE k1 cC w
  by_cases k2 : o.k = 2
  · have hn : (o = o.named) ↔ o.t = Trm.zero := by
      unfold Ord.named
      rw [if_neg k1, if_pos k2, ord_ext]
      dsimp only
      constructor
      · exact fun h => h.2.2.1
      · exact fun h => ⟨by omega, rfl, h, rfl⟩
    by_cases hr : o.e.Right
    · have cC := fun W => REv_true hr W
      have hq : (decide (o.t = Trm.zero) && true) = b := iff_eq _ (by
        rw [Bool.and_true, decide_eq_true_eq, hn]
        exact ⟨fun h => ⟨h, fun h2 => by omega, fun _ => hr, by omega, by omega⟩, fun h => h.1⟩)
      rw [← hq]
      obtain ⟨k, a, ⟨K, P, R, B, M, S, F, G⟩, s, d, ek, m⟩ := o
      exact RR_2 hT hE k2 cC w
    · have cC := fun W => REv_false hr W
      have hq : (decide (o.t = Trm.zero) && false) = b := iff_eq _ (by
        rw [Bool.and_false]
        exact ⟨fun h => by simp at h, fun h => absurd (h.2.2.1 k2) hr⟩)
      rw [← hq]
      obtain ⟨k, a, ⟨K, P, R, B, M, S, F, G⟩, s, d, ek, m⟩ := o
      exact RR_2 hT hE k2 cC w
  by_cases k3 : o.k = 3
  · have hn : (o = o.named) ↔ (o.t = Trm.zero ∧ o.e.d = 0 ∧ (o.e.k : Int) = 0 ∧ o.e.m = 0) := by
      unfold Ord.named
      rw [if_neg k1, if_neg k2, if_pos k3, ord_ext, evt_ext]
      dsimp only
      constructor
      · exact fun h => ⟨h.2.2.1, h.2.2.2.2.1, h.2.2.2.2.2.1, h.2.2.2.2.2.2⟩
      · exact fun h => ⟨by omega, rfl, h.1, rfl, h.2.1, h.2.2.1, h.2.2.2⟩
    have hq : (decide (o.t = Trm.zero) && ((o.e.d == 0) && (((o.e.k : Int) == 0) && (o.e.m == 0)))) = b := iff_eq _ (by
      rw [Bool.and_eq_true, Bool.and_eq_true, Bool.and_eq_true, decide_eq_true_eq, beq_iff_eq, beq_iff_eq, beq_iff_eq, ← hn]
      exact ⟨fun h => ⟨h, fun h2 => by omega, fun h2 => by omega, by omega, by omega⟩, fun h => h.1⟩)
    rw [← hq]
    obtain ⟨k, a, ⟨K, P, R, B, M, S, F, G⟩, s, d, ek, m⟩ := o
    exact RR_3 hT hE rfl rfl rfl k3 w
  · have hn : (o = o.named) ↔ (o.t = Trm.zero ∧ o.e = Evt.zero ∧ (o.a : Int) = 0) := by
      unfold Ord.named
      rw [if_neg k1, if_neg k2, if_neg k3, ord_ext]
      dsimp only
      constructor
      · exact fun h => ⟨h.2.2.1, h.2.2.2, by omega⟩
      · exact fun h => ⟨rfl, by omega, h.1, h.2.1⟩
    have hq : (((o.k : Int) == 4) && (decide (o.t = Trm.zero) && (decide (o.e = Evt.zero) && ((o.a : Int) == 0)))) = b := iff_eq _ (by
      rw [Bool.and_eq_true, Bool.and_eq_true, Bool.and_eq_true, decide_eq_true_eq, decide_eq_true_eq, beq_iff_eq, beq_iff_eq, ← hn]
      exact ⟨fun h => ⟨h.2, fun h2 => by omega, fun h2 => by omega, by omega, by omega⟩, fun h => ⟨by have := h.2.2.2.1; have := h.2.2.2.2; omega, h.1⟩⟩)
    rw [← hq]
    obtain ⟨k, a, ⟨K, P, R, B, M, S, F, G⟩, s, d, ek, m⟩ := o
    exact RR_4 hT hE rfl rfl ⟨k1, k2, k3⟩ w
end Go.Proofs.YtjlajnackecfgaaGreatDoor
