/-
  ChartSames: the last region of its law, over any frame. Conditions: the two entries are there.
-/
import Derived.Test.YtpphcifabmmimaaLegF
import Derived.Test.YtpphcifabmmimaaChP
import Derived.Test.YtpphcifabmmimaaSame
namespace Go.Proofs.Ytpphcifabmmimaa
open Go.ChangeShapes Go.WideShapes Go.ChangeAt Go.RowKit

/-- Bytes of one's own. -/
def bytF (L : List UInt8) : Flw := ⟨fun v w => ∃ A, v = .slice A L.length L.length ∧ Rd w w.heap.size A L, fun ⟨A, h1, h2⟩ hb => ⟨A, h1, (h2.below hb).more hb.size⟩⟩
theorem ret_eq {f : Nat} {args : Array Value} {p b : Bool} {w : World} (e : p = b) (h : Calls Try.prog f args w (Ret (.bool p) w)) : Calls Try.prog f args w (Ret (.bool b) w) := e ▸ h
theorem cBytes {y : Ky} {l : List (Nat × Int)} (hy : y.In) (hI : ∀ u ∈ l, LegIn u) (hE : entB y l = true) {w : World} {v : Value} (h : (entF y l).p v w) : Calls Try.prog 22 #[v] w (ToF (bytF (layE y l)) w) := by
  obtain ⟨A, c, rfl, hr⟩ := h
  obtain ⟨a, d, k, s⟩ := y
  obtain ⟨h0, h1, h2⟩ := entB_in hE
  obtain ⟨D, rfl⟩ : ∃ D : Nat, d = (D : Int) := ⟨d.toNat, by have : 0 ≤ d := h0; omega⟩
  refine (Bytes_ok a D k s hy.a hy.k hy.s A l.length c w.heap.size l w hr rfl (Nat.le_refl _) hI hE).mono ?_
  rintro e w' ⟨⟨A', g, rfl, -, -, hrg⟩, hb⟩
  exact ⟨_, rfl, ⟨A', rfl, hrg.rd⟩, hb⟩
theorem cSameB {l m : List UInt8} (h1 : l.length ≤ maxLen) (h2 : m.length ≤ maxLen) {w : World} {u v : Value} (hu : (bytF l).p u w) (hv : (bytF m).p v w) : Calls Try.prog 21 #[u, v] w (Ret (.bool (decide (l = m))) w) := by
  obtain ⟨A, rfl, hr⟩ := hu
  obtain ⟨A', rfl, hr'⟩ := hv
  exact (Same_any A A' l.length l.length w.heap.size m.length m.length w.heap.size l m w hr rfl h1 hr' rfl h2).mono fun e w' h => below_all h
theorem layE_le {y : Ky} {l : List (Nat × Int)} (hy : y.In) (hE : entB y l = true) (hI : ∀ u ∈ l, LegIn u) : (layE y l).length ≤ maxLen := by
  obtain ⟨a, d, k, s⟩ := y
  obtain ⟨h0, h1, h2⟩ := entB_in hE
  have e1 := hy.a
  have e2 := hy.k
  have e3 := hy.s
  dsimp only at h0 h1 e1 e2 e3
  have m1 := layN_le 0 a (by omega)
  have m2 := layN_le 0 d.toNat (by omega)
  have m3 := layN_le 0 k (by omega)
  have m4 := layN_le 0 s (by omega)
  have m5 := layN_le 0 l.length (by omega)
  have m6 := layGs_le l hI
  unfold layE layKy maxLen
  simp only [List.length_append, List.length_nil]
  omega
set_option maxRecDepth 100000 in
set_option maxHeartbeats 4000000 in
theorem Reg11 (y1 y2 : Ky) (hy1 : y1.In) (hy2 : y2.In) (m1 m2 : List (Nat × Int)) (hm1 : m1.length ≤ 100000) (hm2 : m2.length ≤ 100000) (hi1 : ∀ u ∈ m1, LegIn u) (hi2 : ∀ u ∈ m2, LegIn u) (SM : Bool) (hSM : decide (y1 = y2 ∧ m1 = m2) = SM) (S : Int) (hS : entB y1 m1 = true → S = 0)
    (A9 A10 : Option Addr) (c9 c10 g9 g10 : Nat) (W : World) (HB9 : Blk W g9 30 (entC y1 (.slice A9 m1.length c9))) (HB10 : Blk W g10 30 (entC y2 (.slice A10 m2.length c10))) (HR9 : Rs legT W W.heap.size A9 m1) (HR10 : Rs legT W W.heap.size A10 m2)
    (t0 t1 t2 t3 t4 t5 t6 t7 t8 t13 t14 t15 t16 t17 t18 t19 t20 t21 t22 t23 t24 t25 t26 t27 t28 t29 t30 t31 t32 t33 t34 t35 t36 t37 t38 t39 t40 t41 t42 t43 t44 t45 t46 t47 t48 t49 t50 t51 t52 t53 t54 t55 t56 t57 t58 t59 t60 t61 t62 t63 t64 t65 t66 t67 t68 t69 t70 t71 t72 t73 t74 : Value) (Q : Exit → Act → World → Prop) (hQ : ∀ T w', T[8]? = some (.bool true) → Below W.heap.size W w' → Q .normal { tmps := T, defers := [] } w') :
    (Code.region 11 ([{ dst := some 40, op := Go.Op.move (Go.Operand.tmp 11), type := 4, pos := "law.go:123", after := #[], guard := none }, { dst := some 41, op := Go.Op.load 30 (Go.Operand.tmp 9), type := 30, pos := "law.go:123", after := #[], guard := none }, { dst := some 42, op := Go.Op.call { callee := Go.Callee.value (Go.Operand.func 12), args := #[Go.Operand.tmp 41], argTypes := #[30] }, type := 36, pos := "law.go:123", after := #[{ on := 1, ground := Go.Ground.data }], guard := none }, { dst := some 43, op := Go.Op.load 30 (Go.Operand.tmp 10), type := 30, pos := "law.go:123", after := #[], guard := none }, { dst := some 44, op := Go.Op.call { callee := Go.Callee.value (Go.Operand.func 12), args := #[Go.Operand.tmp 43], argTypes := #[30] }, type := 36, pos := "law.go:123", after := #[{ on := 3, ground := Go.Ground.data }, { on := 2, ground := Go.Ground.chain }], guard := none }, { dst := some 45, op := Go.Op.call { callee := Go.Callee.value (Go.Operand.func 13), args := #[Go.Operand.tmp 42, Go.Operand.tmp 44], argTypes := #[36, 36] }, type := 4, pos := "law.go:123", after := #[{ on := 2, ground := Go.Ground.data }, { on := 4, ground := Go.Ground.data }, { on := 4, ground := Go.Ground.chain }], guard := none }, { dst := some 46, op := Go.Op.binOp Go.BinOp.eql 4 (Go.Operand.tmp 40) (Go.Operand.tmp 45) 4, type := 4, pos := "law.go:123", after := #[{ on := 0, ground := Go.Ground.data }, { on := 5, ground := Go.Ground.data }], guard := none }, { dst := some 47, op := Go.Op.move (Go.Operand.tmp 46), type := 4, pos := "law.go:123", after := #[{ on := 6, ground := Go.Ground.data }, { on := 5, ground := Go.Ground.chain }], guard := none }, { dst := some 48, op := Go.Op.load 30 (Go.Operand.tmp 9), type := 30, pos := "law.go:123", after := #[{ on := 7, ground := Go.Ground.guard }], guard := some (7, true) }, { dst := some 49, op := Go.Op.call { callee := Go.Callee.value (Go.Operand.func 14), args := #[Go.Operand.tmp 48], argTypes := #[30] }, type := 4, pos := "law.go:123", after := #[{ on := 8, ground := Go.Ground.data }, { on := 7, ground := Go.Ground.chain }, { on := 7, ground := Go.Ground.guard }], guard := some (7, true) }, { dst := some 50, op := Go.Op.unOp Go.UnOp.not 4 (Go.Operand.tmp 49), type := 4, pos := "law.go:123", after := #[{ on := 9, ground := Go.Ground.data }, { on := 7, ground := Go.Ground.guard }], guard := some (7, true) }, { dst := some 51, op := Go.Op.move (Go.Operand.tmp 50), type := 4, pos := "law.go:123", after := #[{ on := 10, ground := Go.Ground.data }, { on := 9, ground := Go.Ground.chain }, { on := 7, ground := Go.Ground.guard }], guard := some (7, true) }, { dst := some 52, op := Go.Op.load 30 (Go.Operand.tmp 10), type := 30, pos := "law.go:123", after := #[{ on := 11, ground := Go.Ground.guard }], guard := some (11, false) }, { dst := some 53, op := Go.Op.call { callee := Go.Callee.value (Go.Operand.func 14), args := #[Go.Operand.tmp 52], argTypes := #[30] }, type := 4, pos := "law.go:123", after := #[{ on := 12, ground := Go.Ground.data }, { on := 11, ground := Go.Ground.chain }, { on := 11, ground := Go.Ground.guard }], guard := some (11, false) }, { dst := some 54, op := Go.Op.unOp Go.UnOp.not 4 (Go.Operand.tmp 53), type := 4, pos := "law.go:123", after := #[{ on := 13, ground := Go.Ground.data }, { on := 11, ground := Go.Ground.guard }], guard := some (11, false) }, { dst := some 55, op := Go.Op.pick (Go.Operand.tmp 51) (Go.Operand.const (Go.Value.bool true)) (Go.Operand.tmp 54), type := 4, pos := "law.go:123", after := #[{ on := 11, ground := Go.Ground.data }, { on := 14, ground := Go.Ground.data }, { on := 7, ground := Go.Ground.guard }], guard := some (7, true) }, { dst := some 56, op := Go.Op.move (Go.Operand.tmp 55), type := 4, pos := "law.go:123", after := #[{ on := 15, ground := Go.Ground.data }, { on := 13, ground := Go.Ground.chain }, { on := 7, ground := Go.Ground.guard }], guard := some (7, true) }, { dst := some 57, op := Go.Op.move (Go.Operand.tmp 11), type := 4, pos := "law.go:123", after := #[{ on := 16, ground := Go.Ground.guard }], guard := some (16, false) }, { dst := some 58, op := Go.Op.load 30 (Go.Operand.tmp 9), type := 30, pos := "law.go:123", after := #[{ on := 16, ground := Go.Ground.guard }], guard := some (16, false) }, { dst := some 59, op := Go.Op.call { callee := Go.Callee.value (Go.Operand.func 22), args := #[Go.Operand.tmp 58], argTypes := #[30] }, type := 53, pos := "law.go:123", after := #[{ on := 18, ground := Go.Ground.data }, { on := 16, ground := Go.Ground.chain }, { on := 16, ground := Go.Ground.guard }], guard := some (16, false) }, { dst := some 60, op := Go.Op.load 30 (Go.Operand.tmp 10), type := 30, pos := "law.go:123", after := #[{ on := 16, ground := Go.Ground.guard }], guard := some (16, false) }, { dst := some 61, op := Go.Op.call { callee := Go.Callee.value (Go.Operand.func 22), args := #[Go.Operand.tmp 60], argTypes := #[30] }, type := 53, pos := "law.go:123", after := #[{ on := 20, ground := Go.Ground.data }, { on := 19, ground := Go.Ground.chain }, { on := 16, ground := Go.Ground.guard }], guard := some (16, false) }, { dst := some 62, op := Go.Op.call { callee := Go.Callee.value (Go.Operand.func 21), args := #[Go.Operand.tmp 59, Go.Operand.tmp 61], argTypes := #[53, 53] }, type := 4, pos := "law.go:123", after := #[{ on := 19, ground := Go.Ground.data }, { on := 21, ground := Go.Ground.data }, { on := 21, ground := Go.Ground.chain }, { on := 16, ground := Go.Ground.guard }], guard := some (16, false) }, { dst := some 63, op := Go.Op.binOp Go.BinOp.eql 4 (Go.Operand.tmp 57) (Go.Operand.tmp 62) 4, type := 4, pos := "law.go:123", after := #[{ on := 17, ground := Go.Ground.data }, { on := 22, ground := Go.Ground.data }, { on := 16, ground := Go.Ground.guard }], guard := some (16, false) }, { dst := some 64, op := Go.Op.pick (Go.Operand.tmp 56) (Go.Operand.const (Go.Value.bool true)) (Go.Operand.tmp 63), type := 4, pos := "law.go:123", after := #[{ on := 16, ground := Go.Ground.data }, { on := 23, ground := Go.Ground.data }, { on := 7, ground := Go.Ground.guard }], guard := some (7, true) }, { dst := some 65, op := Go.Op.pick (Go.Operand.tmp 47) (Go.Operand.tmp 64) (Go.Operand.const (Go.Value.bool false)), type := 4, pos := "law.go:123", after := #[{ on := 7, ground := Go.Ground.data }, { on := 24, ground := Go.Ground.data }], guard := none }, { dst := some 66, op := Go.Op.move (Go.Operand.tmp 65), type := 4, pos := "law.go:123", after := #[{ on := 25, ground := Go.Ground.data }, { on := 22, ground := Go.Ground.chain }], guard := none }, { dst := some 67, op := Go.Op.load 30 (Go.Operand.tmp 9), type := 30, pos := "law.go:123", after := #[{ on := 26, ground := Go.Ground.guard }], guard := some (26, true) }, { dst := some 68, op := Go.Op.call { callee := Go.Callee.value (Go.Operand.func 14), args := #[Go.Operand.tmp 67], argTypes := #[30] }, type := 4, pos := "law.go:123", after := #[{ on := 27, ground := Go.Ground.data }, { on := 26, ground := Go.Ground.chain }, { on := 26, ground := Go.Ground.guard }], guard := some (26, true) }, { dst := some 69, op := Go.Op.unOp Go.UnOp.not 4 (Go.Operand.tmp 68), type := 4, pos := "law.go:123", after := #[{ on := 28, ground := Go.Ground.data }, { on := 26, ground := Go.Ground.guard }], guard := some (26, true) }, { dst := some 70, op := Go.Op.move (Go.Operand.tmp 69), type := 4, pos := "law.go:123", after := #[{ on := 29, ground := Go.Ground.data }, { on := 28, ground := Go.Ground.chain }, { on := 26, ground := Go.Ground.guard }], guard := some (26, true) }, { dst := some 71, op := Go.Op.move (Go.Operand.tmp 12), type := 49, pos := "law.go:123", after := #[{ on := 30, ground := Go.Ground.guard }], guard := some (30, false) }, { dst := some 72, op := Go.Op.binOp Go.BinOp.eql 49 (Go.Operand.tmp 71) (Go.Operand.const (Go.Value.int Go.IntKind.i64 0)) 49, type := 4, pos := "law.go:123", after := #[{ on := 31, ground := Go.Ground.data }, { on := 30, ground := Go.Ground.guard }], guard := some (30, false) }, { dst := some 73, op := Go.Op.pick (Go.Operand.tmp 70) (Go.Operand.const (Go.Value.bool true)) (Go.Operand.tmp 72), type := 4, pos := "law.go:123", after := #[{ on := 30, ground := Go.Ground.data }, { on := 32, ground := Go.Ground.data }, { on := 26, ground := Go.Ground.guard }], guard := some (26, true) }, { dst := some 74, op := Go.Op.pick (Go.Operand.tmp 66) (Go.Operand.tmp 73) (Go.Operand.const (Go.Value.bool false)), type := 4, pos := "law.go:123", after := #[{ on := 26, ground := Go.Ground.data }, { on := 33, ground := Go.Ground.data }], guard := none }, { dst := some 8, op := Go.Op.assign (Go.Operand.tmp 74), type := 4, pos := "law.go:123", after := #[{ on := 34, ground := Go.Ground.data }, { on := 30, ground := Go.Ground.chain }, { on := 0, ground := Go.Ground.phase }, { on := 1, ground := Go.Ground.phase }, { on := 2, ground := Go.Ground.phase }, { on := 3, ground := Go.Ground.phase }, { on := 4, ground := Go.Ground.phase }, { on := 5, ground := Go.Ground.phase }, { on := 6, ground := Go.Ground.phase }, { on := 7, ground := Go.Ground.phase }, { on := 8, ground := Go.Ground.phase }, { on := 9, ground := Go.Ground.phase }, { on := 10, ground := Go.Ground.phase }, { on := 11, ground := Go.Ground.phase }, { on := 12, ground := Go.Ground.phase }, { on := 13, ground := Go.Ground.phase }, { on := 14, ground := Go.Ground.phase }, { on := 15, ground := Go.Ground.phase }, { on := 16, ground := Go.Ground.phase }, { on := 17, ground := Go.Ground.phase }, { on := 18, ground := Go.Ground.phase }, { on := 19, ground := Go.Ground.phase }, { on := 20, ground := Go.Ground.phase }, { on := 21, ground := Go.Ground.phase }, { on := 22, ground := Go.Ground.phase }, { on := 23, ground := Go.Ground.phase }, { on := 24, ground := Go.Ground.phase }, { on := 25, ground := Go.Ground.phase }, { on := 26, ground := Go.Ground.phase }, { on := 27, ground := Go.Ground.phase }, { on := 28, ground := Go.Ground.phase }, { on := 29, ground := Go.Ground.phase }, { on := 30, ground := Go.Ground.phase }, { on := 31, ground := Go.Ground.phase }, { on := 32, ground := Go.Ground.phase }, { on := 33, ground := Go.Ground.phase }, { on := 34, ground := Go.Ground.phase }], guard := none }] : List Oper).toArray true).wp Try.prog Q { tmps := #[t0, t1, t2, t3, t4, t5, t6, t7, t8, .pointer (some ⟨g9, 0, none⟩), .pointer (some ⟨g10, 0, none⟩), .bool SM, .int .i64 S, t13, t14, t15, t16, t17, t18, t19, t20, t21, t22, t23, t24, t25, t26, t27, t28, t29, t30, t31, t32, t33, t34, t35, t36, t37, t38, t39, t40, t41, t42, t43, t44, t45, t46, t47, t48, t49, t50, t51, t52, t53, t54, t55, t56, t57, t58, t59, t60, t61, t62, t63, t64, t65, t66, t67, t68, t69, t70, t71, t72, t73, t74], defers := [] } W := by
  have L9 : ∀ W', Below W.heap.size W W' → (Instr.loadAt 30 (.pointer (some ⟨g9, 0, none⟩))).run Try.prog W' = .ok (entV y1 (.slice A9 m1.length c9)) W' := fun W' hb => ent_load (.inl rfl) (HB9.below hb HB9.lt)
  have L10 : ∀ W', Below W.heap.size W W' → (Instr.loadAt 30 (.pointer (some ⟨g10, 0, none⟩))).run Try.prog W' = .ok (entV y2 (.slice A10 m2.length c10)) W' := fun W' hb => ent_load (.inl rfl) (HB10.below hb HB10.lt)
  have H9 : ∀ W', Below W.heap.size W W' → Rs legT W' W'.heap.size A9 m1 := fun W' hb => rs_later HR9 hb
  have H10 : ∀ W', Below W.heap.size W W' → Rs legT W' W'.heap.size A10 m2 := fun W' hb => rs_later HR10 hb
  clear HB9 HB10 HR9 HR10
  cases hE1 : entB y1 m1 with
  | false =>
    clear hS
    refine wp_region_flow [some 40, some 41, some 42, some 43, some 44, some 45, some 46, some 47, some 48, some 49, some 50, some 51, some 52, some 53, some 54, some 55, some 56, some 57, some 58, some 59, some 60, some 61, some 62, some 63, some 64, some 65, some 66, some 67, some 68, some 69, some 70, some 71, some 72, some 73, some 74, some 8] (fun i => ([.is (.bool SM), entF y1 m1, entF y1 m1, entF y2 m2, entF y2 m2, .is (.bool SM), .is (.bool true), .is (.bool true), entF y1 m1, .is (.bool false), .is (.bool true), .is (.bool true), .is undef, .is undef, .is undef, .is (.bool true), .is (.bool true), .is undef, .is undef, .is undef, .is undef, .is undef, .is undef, .is undef, .is (.bool true), .is (.bool true), .is (.bool true), entF y1 m1, .is (.bool false), .is (.bool true), .is (.bool true), .is undef, .is undef, .is (.bool true), .is (.bool true), .is (.bool true)] : List Flw).getD i .any) (by kernel_rfl) (by kernel_rfl) rfl ?_ ?_
    · refine ⟨step_free rfl (fun aF wF hs hb => ?_), ?_⟩
      · obtain ⟨x0, -⟩ := hs
        have e0 : aF.eval (.tmp 11) = .bool SM := x0
        exact opC_move e0 ⟨rfl, below_same wF⟩
      refine ⟨step_free rfl (fun aF wF hs hb => ?_), ?_⟩
      · obtain ⟨x0, -⟩ := hs
        have e0 : aF.eval (.tmp 9) = .pointer (some ⟨g9, 0, none⟩) := x0
        exact opC_load e0 (L9 wF hb) ⟨⟨A9, c9, rfl, H9 _ hb⟩, below_same wF⟩
      refine ⟨step_free rfl (fun aF wF hs hb => ?_), ?_⟩
      · obtain ⟨x0, -⟩ := hs
        have y0 : (entF y1 m1).p (aF.eval (.tmp 41)) wF := x0
        exact opC_callF (args := #[aF.eval (.tmp 41)]) (enters_of Try.func12 (by kernel_rfl) rfl) (by simp) (cOwn hm1 hi1 y0) (fun _ _ h1 h2 => ⟨h1, h2⟩)
      refine ⟨step_free rfl (fun aF wF hs hb => ?_), ?_⟩
      · obtain ⟨x0, -⟩ := hs
        have e0 : aF.eval (.tmp 10) = .pointer (some ⟨g10, 0, none⟩) := x0
        exact opC_load e0 (L10 wF hb) ⟨⟨A10, c10, rfl, H10 _ hb⟩, below_same wF⟩
      refine ⟨step_free rfl (fun aF wF hs hb => ?_), ?_⟩
      · obtain ⟨x0, -⟩ := hs
        have y0 : (entF y2 m2).p (aF.eval (.tmp 43)) wF := x0
        exact opC_callF (args := #[aF.eval (.tmp 43)]) (enters_of Try.func12 (by kernel_rfl) rfl) (by simp) (cOwn hm2 hi2 y0) (fun _ _ h1 h2 => ⟨h1, h2⟩)
      refine ⟨step_free rfl (fun aF wF hs hb => ?_), ?_⟩
      · obtain ⟨x0, x1, -⟩ := hs
        have y0 : (entF y1 m1).p (aF.eval (.tmp 42)) wF := x0
        have y1 : (entF y2 m2).p (aF.eval (.tmp 44)) wF := x1
        exact opC_call (args := #[aF.eval (.tmp 42), aF.eval (.tmp 44)]) (enters_of Try.func13 (by kernel_rfl) rfl) (by simp) (ret_eq hSM (cSame hm1 hm2 y0 y1)) (fun _ h => ⟨rfl, h⟩)
      refine ⟨step_free rfl (fun aF wF hs hb => ?_), ?_⟩
      · obtain ⟨x0, x1, -⟩ := hs
        have e0 : aF.eval (.tmp 40) = .bool SM := x0
        have e1 : aF.eval (.tmp 45) = .bool SM := x1
        refine opC_value (v := .bool true) ?_ ⟨rfl, below_same wF⟩
        have t0 := ev_of e0
        have t1 := ev_of e1
        simp [execOp, go_sem, t0, t1]
      refine ⟨step_free rfl (fun aF wF hs hb => ?_), ?_⟩
      · obtain ⟨x0, -⟩ := hs
        have e0 : aF.eval (.tmp 46) = .bool true := x0
        exact opC_move e0 ⟨rfl, below_same wF⟩
      refine ⟨step_yes 7 47 rfl rfl (fun _ _ h => h) (fun aF wF hs hb => ?_), ?_⟩
      · obtain ⟨x0, -⟩ := hs
        have e0 : aF.eval (.tmp 9) = .pointer (some ⟨g9, 0, none⟩) := x0
        exact opC_load e0 (L9 wF hb) ⟨⟨A9, c9, rfl, H9 _ hb⟩, below_same wF⟩
      refine ⟨step_yes 7 47 rfl rfl (fun _ _ h => h) (fun aF wF hs hb => ?_), ?_⟩
      · obtain ⟨x0, -⟩ := hs
        have y0 : (entF y1 m1).p (aF.eval (.tmp 48)) wF := x0
        exact opC_call (args := #[aF.eval (.tmp 48)]) (enters_of Try.func14 (by kernel_rfl) rfl) (by simp) (ret_eq hE1 (cRight hm1 hi1 y0)) (fun _ h => ⟨rfl, h⟩)
      refine ⟨step_yes 7 47 rfl rfl (fun _ _ h => h) (fun aF wF hs hb => ?_), ?_⟩
      · obtain ⟨x0, -⟩ := hs
        have e0 : aF.eval (.tmp 49) = .bool false := x0
        refine opC_value (v := .bool true) ?_ ⟨rfl, below_same wF⟩
        have t0 := ev_of e0
        simp [execOp, go_sem, t0]
      refine ⟨step_yes 7 47 rfl rfl (fun _ _ h => h) (fun aF wF hs hb => ?_), ?_⟩
      · obtain ⟨x0, -⟩ := hs
        have e0 : aF.eval (.tmp 50) = .bool true := x0
        exact opC_move e0 ⟨rfl, below_same wF⟩
      refine ⟨step_no 11 51 rfl rfl (fun _ _ h => h) (fun _ => rfl), ?_⟩
      refine ⟨step_no 11 51 rfl rfl (fun _ _ h => h) (fun _ => rfl), ?_⟩
      refine ⟨step_no 11 51 rfl rfl (fun _ _ h => h) (fun _ => rfl), ?_⟩
      refine ⟨step_yes 7 47 rfl rfl (fun _ _ h => h) (fun aF wF hs hb => ?_), ?_⟩
      · obtain ⟨x0, x1, -⟩ := hs
        have e0 : aF.eval (.tmp 51) = .bool true := x0
        have e1 : aF.eval (.tmp 54) = undef := x1
        refine opC_value (v := .bool true) ?_ ⟨rfl, below_same wF⟩
        have t0 := ev_of e0
        have t1 := ev_of e1
        simp [execOp, go_sem, t0, t1]
      refine ⟨step_yes 7 47 rfl rfl (fun _ _ h => h) (fun aF wF hs hb => ?_), ?_⟩
      · obtain ⟨x0, -⟩ := hs
        have e0 : aF.eval (.tmp 55) = .bool true := x0
        exact opC_move e0 ⟨rfl, below_same wF⟩
      refine ⟨step_no 16 56 rfl rfl (fun _ _ h => h) (fun _ => rfl), ?_⟩
      refine ⟨step_no 16 56 rfl rfl (fun _ _ h => h) (fun _ => rfl), ?_⟩
      refine ⟨step_no 16 56 rfl rfl (fun _ _ h => h) (fun _ => rfl), ?_⟩
      refine ⟨step_no 16 56 rfl rfl (fun _ _ h => h) (fun _ => rfl), ?_⟩
      refine ⟨step_no 16 56 rfl rfl (fun _ _ h => h) (fun _ => rfl), ?_⟩
      refine ⟨step_no 16 56 rfl rfl (fun _ _ h => h) (fun _ => rfl), ?_⟩
      refine ⟨step_no 16 56 rfl rfl (fun _ _ h => h) (fun _ => rfl), ?_⟩
      refine ⟨step_yes 7 47 rfl rfl (fun _ _ h => h) (fun aF wF hs hb => ?_), ?_⟩
      · obtain ⟨x0, x1, -⟩ := hs
        have e0 : aF.eval (.tmp 56) = .bool true := x0
        have e1 : aF.eval (.tmp 63) = undef := x1
        refine opC_value (v := .bool true) ?_ ⟨rfl, below_same wF⟩
        have t0 := ev_of e0
        have t1 := ev_of e1
        simp [execOp, go_sem, t0, t1]
      refine ⟨step_free rfl (fun aF wF hs hb => ?_), ?_⟩
      · obtain ⟨x0, x1, -⟩ := hs
        have e0 : aF.eval (.tmp 47) = .bool true := x0
        have e1 : aF.eval (.tmp 64) = .bool true := x1
        refine opC_value (v := .bool true) ?_ ⟨rfl, below_same wF⟩
        have t0 := ev_of e0
        have t1 := ev_of e1
        simp [execOp, go_sem, t0, t1]
      refine ⟨step_free rfl (fun aF wF hs hb => ?_), ?_⟩
      · obtain ⟨x0, -⟩ := hs
        have e0 : aF.eval (.tmp 65) = .bool true := x0
        exact opC_move e0 ⟨rfl, below_same wF⟩
      refine ⟨step_yes 26 66 rfl rfl (fun _ _ h => h) (fun aF wF hs hb => ?_), ?_⟩
      · obtain ⟨x0, -⟩ := hs
        have e0 : aF.eval (.tmp 9) = .pointer (some ⟨g9, 0, none⟩) := x0
        exact opC_load e0 (L9 wF hb) ⟨⟨A9, c9, rfl, H9 _ hb⟩, below_same wF⟩
      refine ⟨step_yes 26 66 rfl rfl (fun _ _ h => h) (fun aF wF hs hb => ?_), ?_⟩
      · obtain ⟨x0, -⟩ := hs
        have y0 : (entF y1 m1).p (aF.eval (.tmp 67)) wF := x0
        exact opC_call (args := #[aF.eval (.tmp 67)]) (enters_of Try.func14 (by kernel_rfl) rfl) (by simp) (ret_eq hE1 (cRight hm1 hi1 y0)) (fun _ h => ⟨rfl, h⟩)
      refine ⟨step_yes 26 66 rfl rfl (fun _ _ h => h) (fun aF wF hs hb => ?_), ?_⟩
      · obtain ⟨x0, -⟩ := hs
        have e0 : aF.eval (.tmp 68) = .bool false := x0
        refine opC_value (v := .bool true) ?_ ⟨rfl, below_same wF⟩
        have t0 := ev_of e0
        simp [execOp, go_sem, t0]
      refine ⟨step_yes 26 66 rfl rfl (fun _ _ h => h) (fun aF wF hs hb => ?_), ?_⟩
      · obtain ⟨x0, -⟩ := hs
        have e0 : aF.eval (.tmp 69) = .bool true := x0
        exact opC_move e0 ⟨rfl, below_same wF⟩
      refine ⟨step_no 30 70 rfl rfl (fun _ _ h => h) (fun _ => rfl), ?_⟩
      refine ⟨step_no 30 70 rfl rfl (fun _ _ h => h) (fun _ => rfl), ?_⟩
      refine ⟨step_yes 26 66 rfl rfl (fun _ _ h => h) (fun aF wF hs hb => ?_), ?_⟩
      · obtain ⟨x0, x1, -⟩ := hs
        have e0 : aF.eval (.tmp 70) = .bool true := x0
        have e1 : aF.eval (.tmp 72) = undef := x1
        refine opC_value (v := .bool true) ?_ ⟨rfl, below_same wF⟩
        have t0 := ev_of e0
        have t1 := ev_of e1
        simp [execOp, go_sem, t0, t1]
      refine ⟨step_free rfl (fun aF wF hs hb => ?_), ?_⟩
      · obtain ⟨x0, x1, -⟩ := hs
        have e0 : aF.eval (.tmp 66) = .bool true := x0
        have e1 : aF.eval (.tmp 73) = .bool true := x1
        refine opC_value (v := .bool true) ?_ ⟨rfl, below_same wF⟩
        have t0 := ev_of e0
        have t1 := ev_of e1
        simp [execOp, go_sem, t0, t1]
      refine ⟨step_free rfl (fun aF wF hs hb => ?_), ?_⟩
      · obtain ⟨x0, -⟩ := hs
        have e0 : aF.eval (.tmp 74) = .bool true := x0
        exact opC_assign e0 ⟨rfl, below_same wF⟩
      exact trivial
    · intro f w6 hf hb6
      have h6 : f 34 = .bool true := hf 34 74 rfl
      have h7 : f 35 = .bool true := hf 35 8 rfl
      simp only [putF, Act.put, List.setIfInBounds_toArray, List.set_cons_zero, List.set_cons_succ]
      exact hQ _ _ (by rw [h7]; rfl) hb6
  | true =>
    obtain rfl := hS hE1
    cases hE2 : entB y2 m2 with
    | false =>
      refine wp_region_flow [some 40, some 41, some 42, some 43, some 44, some 45, some 46, some 47, some 48, some 49, some 50, some 51, some 52, some 53, some 54, some 55, some 56, some 57, some 58, some 59, some 60, some 61, some 62, some 63, some 64, some 65, some 66, some 67, some 68, some 69, some 70, some 71, some 72, some 73, some 74, some 8] (fun i => ([.is (.bool SM), entF y1 m1, entF y1 m1, entF y2 m2, entF y2 m2, .is (.bool SM), .is (.bool true), .is (.bool true), entF y1 m1, .is (.bool true), .is (.bool false), .is (.bool false), entF y2 m2, .is (.bool false), .is (.bool true), .is (.bool true), .is (.bool true), .is undef, .is undef, .is undef, .is undef, .is undef, .is undef, .is undef, .is (.bool true), .is (.bool true), .is (.bool true), entF y1 m1, .is (.bool true), .is (.bool false), .is (.bool false), .is (.int .i64 0), .is (.bool true), .is (.bool true), .is (.bool true), .is (.bool true)] : List Flw).getD i .any) (by kernel_rfl) (by kernel_rfl) rfl ?_ ?_
      · refine ⟨step_free rfl (fun aF wF hs hb => ?_), ?_⟩
        · obtain ⟨x0, -⟩ := hs
          have e0 : aF.eval (.tmp 11) = .bool SM := x0
          exact opC_move e0 ⟨rfl, below_same wF⟩
        refine ⟨step_free rfl (fun aF wF hs hb => ?_), ?_⟩
        · obtain ⟨x0, -⟩ := hs
          have e0 : aF.eval (.tmp 9) = .pointer (some ⟨g9, 0, none⟩) := x0
          exact opC_load e0 (L9 wF hb) ⟨⟨A9, c9, rfl, H9 _ hb⟩, below_same wF⟩
        refine ⟨step_free rfl (fun aF wF hs hb => ?_), ?_⟩
        · obtain ⟨x0, -⟩ := hs
          have y0 : (entF y1 m1).p (aF.eval (.tmp 41)) wF := x0
          exact opC_callF (args := #[aF.eval (.tmp 41)]) (enters_of Try.func12 (by kernel_rfl) rfl) (by simp) (cOwn hm1 hi1 y0) (fun _ _ h1 h2 => ⟨h1, h2⟩)
        refine ⟨step_free rfl (fun aF wF hs hb => ?_), ?_⟩
        · obtain ⟨x0, -⟩ := hs
          have e0 : aF.eval (.tmp 10) = .pointer (some ⟨g10, 0, none⟩) := x0
          exact opC_load e0 (L10 wF hb) ⟨⟨A10, c10, rfl, H10 _ hb⟩, below_same wF⟩
        refine ⟨step_free rfl (fun aF wF hs hb => ?_), ?_⟩
        · obtain ⟨x0, -⟩ := hs
          have y0 : (entF y2 m2).p (aF.eval (.tmp 43)) wF := x0
          exact opC_callF (args := #[aF.eval (.tmp 43)]) (enters_of Try.func12 (by kernel_rfl) rfl) (by simp) (cOwn hm2 hi2 y0) (fun _ _ h1 h2 => ⟨h1, h2⟩)
        refine ⟨step_free rfl (fun aF wF hs hb => ?_), ?_⟩
        · obtain ⟨x0, x1, -⟩ := hs
          have y0 : (entF y1 m1).p (aF.eval (.tmp 42)) wF := x0
          have y1 : (entF y2 m2).p (aF.eval (.tmp 44)) wF := x1
          exact opC_call (args := #[aF.eval (.tmp 42), aF.eval (.tmp 44)]) (enters_of Try.func13 (by kernel_rfl) rfl) (by simp) (ret_eq hSM (cSame hm1 hm2 y0 y1)) (fun _ h => ⟨rfl, h⟩)
        refine ⟨step_free rfl (fun aF wF hs hb => ?_), ?_⟩
        · obtain ⟨x0, x1, -⟩ := hs
          have e0 : aF.eval (.tmp 40) = .bool SM := x0
          have e1 : aF.eval (.tmp 45) = .bool SM := x1
          refine opC_value (v := .bool true) ?_ ⟨rfl, below_same wF⟩
          have t0 := ev_of e0
          have t1 := ev_of e1
          simp [execOp, go_sem, t0, t1]
        refine ⟨step_free rfl (fun aF wF hs hb => ?_), ?_⟩
        · obtain ⟨x0, -⟩ := hs
          have e0 : aF.eval (.tmp 46) = .bool true := x0
          exact opC_move e0 ⟨rfl, below_same wF⟩
        refine ⟨step_yes 7 47 rfl rfl (fun _ _ h => h) (fun aF wF hs hb => ?_), ?_⟩
        · obtain ⟨x0, -⟩ := hs
          have e0 : aF.eval (.tmp 9) = .pointer (some ⟨g9, 0, none⟩) := x0
          exact opC_load e0 (L9 wF hb) ⟨⟨A9, c9, rfl, H9 _ hb⟩, below_same wF⟩
        refine ⟨step_yes 7 47 rfl rfl (fun _ _ h => h) (fun aF wF hs hb => ?_), ?_⟩
        · obtain ⟨x0, -⟩ := hs
          have y0 : (entF y1 m1).p (aF.eval (.tmp 48)) wF := x0
          exact opC_call (args := #[aF.eval (.tmp 48)]) (enters_of Try.func14 (by kernel_rfl) rfl) (by simp) (ret_eq hE1 (cRight hm1 hi1 y0)) (fun _ h => ⟨rfl, h⟩)
        refine ⟨step_yes 7 47 rfl rfl (fun _ _ h => h) (fun aF wF hs hb => ?_), ?_⟩
        · obtain ⟨x0, -⟩ := hs
          have e0 : aF.eval (.tmp 49) = .bool true := x0
          refine opC_value (v := .bool false) ?_ ⟨rfl, below_same wF⟩
          have t0 := ev_of e0
          simp [execOp, go_sem, t0]
        refine ⟨step_yes 7 47 rfl rfl (fun _ _ h => h) (fun aF wF hs hb => ?_), ?_⟩
        · obtain ⟨x0, -⟩ := hs
          have e0 : aF.eval (.tmp 50) = .bool false := x0
          exact opC_move e0 ⟨rfl, below_same wF⟩
        refine ⟨step_yes 11 51 rfl rfl (fun _ _ h => h) (fun aF wF hs hb => ?_), ?_⟩
        · obtain ⟨x0, -⟩ := hs
          have e0 : aF.eval (.tmp 10) = .pointer (some ⟨g10, 0, none⟩) := x0
          exact opC_load e0 (L10 wF hb) ⟨⟨A10, c10, rfl, H10 _ hb⟩, below_same wF⟩
        refine ⟨step_yes 11 51 rfl rfl (fun _ _ h => h) (fun aF wF hs hb => ?_), ?_⟩
        · obtain ⟨x0, -⟩ := hs
          have y0 : (entF y2 m2).p (aF.eval (.tmp 52)) wF := x0
          exact opC_call (args := #[aF.eval (.tmp 52)]) (enters_of Try.func14 (by kernel_rfl) rfl) (by simp) (ret_eq hE2 (cRight hm2 hi2 y0)) (fun _ h => ⟨rfl, h⟩)
        refine ⟨step_yes 11 51 rfl rfl (fun _ _ h => h) (fun aF wF hs hb => ?_), ?_⟩
        · obtain ⟨x0, -⟩ := hs
          have e0 : aF.eval (.tmp 53) = .bool false := x0
          refine opC_value (v := .bool true) ?_ ⟨rfl, below_same wF⟩
          have t0 := ev_of e0
          simp [execOp, go_sem, t0]
        refine ⟨step_yes 7 47 rfl rfl (fun _ _ h => h) (fun aF wF hs hb => ?_), ?_⟩
        · obtain ⟨x0, x1, -⟩ := hs
          have e0 : aF.eval (.tmp 51) = .bool false := x0
          have e1 : aF.eval (.tmp 54) = .bool true := x1
          refine opC_value (v := .bool true) ?_ ⟨rfl, below_same wF⟩
          have t0 := ev_of e0
          have t1 := ev_of e1
          simp [execOp, go_sem, t0, t1]
        refine ⟨step_yes 7 47 rfl rfl (fun _ _ h => h) (fun aF wF hs hb => ?_), ?_⟩
        · obtain ⟨x0, -⟩ := hs
          have e0 : aF.eval (.tmp 55) = .bool true := x0
          exact opC_move e0 ⟨rfl, below_same wF⟩
        refine ⟨step_no 16 56 rfl rfl (fun _ _ h => h) (fun _ => rfl), ?_⟩
        refine ⟨step_no 16 56 rfl rfl (fun _ _ h => h) (fun _ => rfl), ?_⟩
        refine ⟨step_no 16 56 rfl rfl (fun _ _ h => h) (fun _ => rfl), ?_⟩
        refine ⟨step_no 16 56 rfl rfl (fun _ _ h => h) (fun _ => rfl), ?_⟩
        refine ⟨step_no 16 56 rfl rfl (fun _ _ h => h) (fun _ => rfl), ?_⟩
        refine ⟨step_no 16 56 rfl rfl (fun _ _ h => h) (fun _ => rfl), ?_⟩
        refine ⟨step_no 16 56 rfl rfl (fun _ _ h => h) (fun _ => rfl), ?_⟩
        refine ⟨step_yes 7 47 rfl rfl (fun _ _ h => h) (fun aF wF hs hb => ?_), ?_⟩
        · obtain ⟨x0, x1, -⟩ := hs
          have e0 : aF.eval (.tmp 56) = .bool true := x0
          have e1 : aF.eval (.tmp 63) = undef := x1
          refine opC_value (v := .bool true) ?_ ⟨rfl, below_same wF⟩
          have t0 := ev_of e0
          have t1 := ev_of e1
          simp [execOp, go_sem, t0, t1]
        refine ⟨step_free rfl (fun aF wF hs hb => ?_), ?_⟩
        · obtain ⟨x0, x1, -⟩ := hs
          have e0 : aF.eval (.tmp 47) = .bool true := x0
          have e1 : aF.eval (.tmp 64) = .bool true := x1
          refine opC_value (v := .bool true) ?_ ⟨rfl, below_same wF⟩
          have t0 := ev_of e0
          have t1 := ev_of e1
          simp [execOp, go_sem, t0, t1]
        refine ⟨step_free rfl (fun aF wF hs hb => ?_), ?_⟩
        · obtain ⟨x0, -⟩ := hs
          have e0 : aF.eval (.tmp 65) = .bool true := x0
          exact opC_move e0 ⟨rfl, below_same wF⟩
        refine ⟨step_yes 26 66 rfl rfl (fun _ _ h => h) (fun aF wF hs hb => ?_), ?_⟩
        · obtain ⟨x0, -⟩ := hs
          have e0 : aF.eval (.tmp 9) = .pointer (some ⟨g9, 0, none⟩) := x0
          exact opC_load e0 (L9 wF hb) ⟨⟨A9, c9, rfl, H9 _ hb⟩, below_same wF⟩
        refine ⟨step_yes 26 66 rfl rfl (fun _ _ h => h) (fun aF wF hs hb => ?_), ?_⟩
        · obtain ⟨x0, -⟩ := hs
          have y0 : (entF y1 m1).p (aF.eval (.tmp 67)) wF := x0
          exact opC_call (args := #[aF.eval (.tmp 67)]) (enters_of Try.func14 (by kernel_rfl) rfl) (by simp) (ret_eq hE1 (cRight hm1 hi1 y0)) (fun _ h => ⟨rfl, h⟩)
        refine ⟨step_yes 26 66 rfl rfl (fun _ _ h => h) (fun aF wF hs hb => ?_), ?_⟩
        · obtain ⟨x0, -⟩ := hs
          have e0 : aF.eval (.tmp 68) = .bool true := x0
          refine opC_value (v := .bool false) ?_ ⟨rfl, below_same wF⟩
          have t0 := ev_of e0
          simp [execOp, go_sem, t0]
        refine ⟨step_yes 26 66 rfl rfl (fun _ _ h => h) (fun aF wF hs hb => ?_), ?_⟩
        · obtain ⟨x0, -⟩ := hs
          have e0 : aF.eval (.tmp 69) = .bool false := x0
          exact opC_move e0 ⟨rfl, below_same wF⟩
        refine ⟨step_yes 30 70 rfl rfl (fun _ _ h => h) (fun aF wF hs hb => ?_), ?_⟩
        · obtain ⟨x0, -⟩ := hs
          have e0 : aF.eval (.tmp 12) = .int .i64 0 := x0
          exact opC_move e0 ⟨rfl, below_same wF⟩
        refine ⟨step_yes 30 70 rfl rfl (fun _ _ h => h) (fun aF wF hs hb => ?_), ?_⟩
        · obtain ⟨x0, -⟩ := hs
          have e0 : aF.eval (.tmp 71) = .int .i64 0 := x0
          refine opC_value (v := .bool true) ?_ ⟨rfl, below_same wF⟩
          have t0 := ev_of e0
          simp [execOp, go_sem, t0]
        refine ⟨step_yes 26 66 rfl rfl (fun _ _ h => h) (fun aF wF hs hb => ?_), ?_⟩
        · obtain ⟨x0, x1, -⟩ := hs
          have e0 : aF.eval (.tmp 70) = .bool false := x0
          have e1 : aF.eval (.tmp 72) = .bool true := x1
          refine opC_value (v := .bool true) ?_ ⟨rfl, below_same wF⟩
          have t0 := ev_of e0
          have t1 := ev_of e1
          simp [execOp, go_sem, t0, t1]
        refine ⟨step_free rfl (fun aF wF hs hb => ?_), ?_⟩
        · obtain ⟨x0, x1, -⟩ := hs
          have e0 : aF.eval (.tmp 66) = .bool true := x0
          have e1 : aF.eval (.tmp 73) = .bool true := x1
          refine opC_value (v := .bool true) ?_ ⟨rfl, below_same wF⟩
          have t0 := ev_of e0
          have t1 := ev_of e1
          simp [execOp, go_sem, t0, t1]
        refine ⟨step_free rfl (fun aF wF hs hb => ?_), ?_⟩
        · obtain ⟨x0, -⟩ := hs
          have e0 : aF.eval (.tmp 74) = .bool true := x0
          exact opC_assign e0 ⟨rfl, below_same wF⟩
        exact trivial
      · intro f w6 hf hb6
        have h6 : f 34 = .bool true := hf 34 74 rfl
        have h7 : f 35 = .bool true := hf 35 8 rfl
        simp only [putF, Act.put, List.setIfInBounds_toArray, List.set_cons_zero, List.set_cons_succ]
        exact hQ _ _ (by rw [h7]; rfl) hb6
    | true =>
      have hSB : decide (layE y1 m1 = layE y2 m2) = SM := by rw [← hSM]; exact decide_eq_decide.2 (layE_inj hy1 hy2 hE1 hE2 hi1 hi2)
      have hb1 : (layE y1 m1).length ≤ maxLen := layE_le hy1 hE1 hi1
      have hb2 : (layE y2 m2).length ≤ maxLen := layE_le hy2 hE2 hi2
      refine wp_region_flow [some 40, some 41, some 42, some 43, some 44, some 45, some 46, some 47, some 48, some 49, some 50, some 51, some 52, some 53, some 54, some 55, some 56, some 57, some 58, some 59, some 60, some 61, some 62, some 63, some 64, some 65, some 66, some 67, some 68, some 69, some 70, some 71, some 72, some 73, some 74, some 8] (fun i => ([.is (.bool SM), entF y1 m1, entF y1 m1, entF y2 m2, entF y2 m2, .is (.bool SM), .is (.bool true), .is (.bool true), entF y1 m1, .is (.bool true), .is (.bool false), .is (.bool false), entF y2 m2, .is (.bool true), .is (.bool false), .is (.bool false), .is (.bool false), .is (.bool SM), entF y1 m1, bytF (layE y1 m1), entF y2 m2, bytF (layE y2 m2), .is (.bool SM), .is (.bool true), .is (.bool true), .is (.bool true), .is (.bool true), entF y1 m1, .is (.bool true), .is (.bool false), .is (.bool false), .is (.int .i64 0), .is (.bool true), .is (.bool true), .is (.bool true), .is (.bool true)] : List Flw).getD i .any) (by kernel_rfl) (by kernel_rfl) rfl ?_ ?_
      · refine ⟨step_free rfl (fun aF wF hs hb => ?_), ?_⟩
        · obtain ⟨x0, -⟩ := hs
          have e0 : aF.eval (.tmp 11) = .bool SM := x0
          exact opC_move e0 ⟨rfl, below_same wF⟩
        refine ⟨step_free rfl (fun aF wF hs hb => ?_), ?_⟩
        · obtain ⟨x0, -⟩ := hs
          have e0 : aF.eval (.tmp 9) = .pointer (some ⟨g9, 0, none⟩) := x0
          exact opC_load e0 (L9 wF hb) ⟨⟨A9, c9, rfl, H9 _ hb⟩, below_same wF⟩
        refine ⟨step_free rfl (fun aF wF hs hb => ?_), ?_⟩
        · obtain ⟨x0, -⟩ := hs
          have y0 : (entF y1 m1).p (aF.eval (.tmp 41)) wF := x0
          exact opC_callF (args := #[aF.eval (.tmp 41)]) (enters_of Try.func12 (by kernel_rfl) rfl) (by simp) (cOwn hm1 hi1 y0) (fun _ _ h1 h2 => ⟨h1, h2⟩)
        refine ⟨step_free rfl (fun aF wF hs hb => ?_), ?_⟩
        · obtain ⟨x0, -⟩ := hs
          have e0 : aF.eval (.tmp 10) = .pointer (some ⟨g10, 0, none⟩) := x0
          exact opC_load e0 (L10 wF hb) ⟨⟨A10, c10, rfl, H10 _ hb⟩, below_same wF⟩
        refine ⟨step_free rfl (fun aF wF hs hb => ?_), ?_⟩
        · obtain ⟨x0, -⟩ := hs
          have y0 : (entF y2 m2).p (aF.eval (.tmp 43)) wF := x0
          exact opC_callF (args := #[aF.eval (.tmp 43)]) (enters_of Try.func12 (by kernel_rfl) rfl) (by simp) (cOwn hm2 hi2 y0) (fun _ _ h1 h2 => ⟨h1, h2⟩)
        refine ⟨step_free rfl (fun aF wF hs hb => ?_), ?_⟩
        · obtain ⟨x0, x1, -⟩ := hs
          have y0 : (entF y1 m1).p (aF.eval (.tmp 42)) wF := x0
          have y1 : (entF y2 m2).p (aF.eval (.tmp 44)) wF := x1
          exact opC_call (args := #[aF.eval (.tmp 42), aF.eval (.tmp 44)]) (enters_of Try.func13 (by kernel_rfl) rfl) (by simp) (ret_eq hSM (cSame hm1 hm2 y0 y1)) (fun _ h => ⟨rfl, h⟩)
        refine ⟨step_free rfl (fun aF wF hs hb => ?_), ?_⟩
        · obtain ⟨x0, x1, -⟩ := hs
          have e0 : aF.eval (.tmp 40) = .bool SM := x0
          have e1 : aF.eval (.tmp 45) = .bool SM := x1
          refine opC_value (v := .bool true) ?_ ⟨rfl, below_same wF⟩
          have t0 := ev_of e0
          have t1 := ev_of e1
          simp [execOp, go_sem, t0, t1]
        refine ⟨step_free rfl (fun aF wF hs hb => ?_), ?_⟩
        · obtain ⟨x0, -⟩ := hs
          have e0 : aF.eval (.tmp 46) = .bool true := x0
          exact opC_move e0 ⟨rfl, below_same wF⟩
        refine ⟨step_yes 7 47 rfl rfl (fun _ _ h => h) (fun aF wF hs hb => ?_), ?_⟩
        · obtain ⟨x0, -⟩ := hs
          have e0 : aF.eval (.tmp 9) = .pointer (some ⟨g9, 0, none⟩) := x0
          exact opC_load e0 (L9 wF hb) ⟨⟨A9, c9, rfl, H9 _ hb⟩, below_same wF⟩
        refine ⟨step_yes 7 47 rfl rfl (fun _ _ h => h) (fun aF wF hs hb => ?_), ?_⟩
        · obtain ⟨x0, -⟩ := hs
          have y0 : (entF y1 m1).p (aF.eval (.tmp 48)) wF := x0
          exact opC_call (args := #[aF.eval (.tmp 48)]) (enters_of Try.func14 (by kernel_rfl) rfl) (by simp) (ret_eq hE1 (cRight hm1 hi1 y0)) (fun _ h => ⟨rfl, h⟩)
        refine ⟨step_yes 7 47 rfl rfl (fun _ _ h => h) (fun aF wF hs hb => ?_), ?_⟩
        · obtain ⟨x0, -⟩ := hs
          have e0 : aF.eval (.tmp 49) = .bool true := x0
          refine opC_value (v := .bool false) ?_ ⟨rfl, below_same wF⟩
          have t0 := ev_of e0
          simp [execOp, go_sem, t0]
        refine ⟨step_yes 7 47 rfl rfl (fun _ _ h => h) (fun aF wF hs hb => ?_), ?_⟩
        · obtain ⟨x0, -⟩ := hs
          have e0 : aF.eval (.tmp 50) = .bool false := x0
          exact opC_move e0 ⟨rfl, below_same wF⟩
        refine ⟨step_yes 11 51 rfl rfl (fun _ _ h => h) (fun aF wF hs hb => ?_), ?_⟩
        · obtain ⟨x0, -⟩ := hs
          have e0 : aF.eval (.tmp 10) = .pointer (some ⟨g10, 0, none⟩) := x0
          exact opC_load e0 (L10 wF hb) ⟨⟨A10, c10, rfl, H10 _ hb⟩, below_same wF⟩
        refine ⟨step_yes 11 51 rfl rfl (fun _ _ h => h) (fun aF wF hs hb => ?_), ?_⟩
        · obtain ⟨x0, -⟩ := hs
          have y0 : (entF y2 m2).p (aF.eval (.tmp 52)) wF := x0
          exact opC_call (args := #[aF.eval (.tmp 52)]) (enters_of Try.func14 (by kernel_rfl) rfl) (by simp) (ret_eq hE2 (cRight hm2 hi2 y0)) (fun _ h => ⟨rfl, h⟩)
        refine ⟨step_yes 11 51 rfl rfl (fun _ _ h => h) (fun aF wF hs hb => ?_), ?_⟩
        · obtain ⟨x0, -⟩ := hs
          have e0 : aF.eval (.tmp 53) = .bool true := x0
          refine opC_value (v := .bool false) ?_ ⟨rfl, below_same wF⟩
          have t0 := ev_of e0
          simp [execOp, go_sem, t0]
        refine ⟨step_yes 7 47 rfl rfl (fun _ _ h => h) (fun aF wF hs hb => ?_), ?_⟩
        · obtain ⟨x0, x1, -⟩ := hs
          have e0 : aF.eval (.tmp 51) = .bool false := x0
          have e1 : aF.eval (.tmp 54) = .bool false := x1
          refine opC_value (v := .bool false) ?_ ⟨rfl, below_same wF⟩
          have t0 := ev_of e0
          have t1 := ev_of e1
          simp [execOp, go_sem, t0, t1]
        refine ⟨step_yes 7 47 rfl rfl (fun _ _ h => h) (fun aF wF hs hb => ?_), ?_⟩
        · obtain ⟨x0, -⟩ := hs
          have e0 : aF.eval (.tmp 55) = .bool false := x0
          exact opC_move e0 ⟨rfl, below_same wF⟩
        refine ⟨step_yes 16 56 rfl rfl (fun _ _ h => h) (fun aF wF hs hb => ?_), ?_⟩
        · obtain ⟨x0, -⟩ := hs
          have e0 : aF.eval (.tmp 11) = .bool SM := x0
          exact opC_move e0 ⟨rfl, below_same wF⟩
        refine ⟨step_yes 16 56 rfl rfl (fun _ _ h => h) (fun aF wF hs hb => ?_), ?_⟩
        · obtain ⟨x0, -⟩ := hs
          have e0 : aF.eval (.tmp 9) = .pointer (some ⟨g9, 0, none⟩) := x0
          exact opC_load e0 (L9 wF hb) ⟨⟨A9, c9, rfl, H9 _ hb⟩, below_same wF⟩
        refine ⟨step_yes 16 56 rfl rfl (fun _ _ h => h) (fun aF wF hs hb => ?_), ?_⟩
        · obtain ⟨x0, -⟩ := hs
          have y0 : (entF y1 m1).p (aF.eval (.tmp 58)) wF := x0
          exact opC_callF (args := #[aF.eval (.tmp 58)]) (enters_of Try.func22 (by kernel_rfl) rfl) (by simp) (cBytes hy1 hi1 hE1 y0) (fun _ _ h1 h2 => ⟨h1, h2⟩)
        refine ⟨step_yes 16 56 rfl rfl (fun _ _ h => h) (fun aF wF hs hb => ?_), ?_⟩
        · obtain ⟨x0, -⟩ := hs
          have e0 : aF.eval (.tmp 10) = .pointer (some ⟨g10, 0, none⟩) := x0
          exact opC_load e0 (L10 wF hb) ⟨⟨A10, c10, rfl, H10 _ hb⟩, below_same wF⟩
        refine ⟨step_yes 16 56 rfl rfl (fun _ _ h => h) (fun aF wF hs hb => ?_), ?_⟩
        · obtain ⟨x0, -⟩ := hs
          have y0 : (entF y2 m2).p (aF.eval (.tmp 60)) wF := x0
          exact opC_callF (args := #[aF.eval (.tmp 60)]) (enters_of Try.func22 (by kernel_rfl) rfl) (by simp) (cBytes hy2 hi2 hE2 y0) (fun _ _ h1 h2 => ⟨h1, h2⟩)
        refine ⟨step_yes 16 56 rfl rfl (fun _ _ h => h) (fun aF wF hs hb => ?_), ?_⟩
        · obtain ⟨x0, x1, -⟩ := hs
          have y0 : (bytF (layE y1 m1)).p (aF.eval (.tmp 59)) wF := x0
          have y1 : (bytF (layE y2 m2)).p (aF.eval (.tmp 61)) wF := x1
          exact opC_call (args := #[aF.eval (.tmp 59), aF.eval (.tmp 61)]) (enters_of Try.func21 (by kernel_rfl) rfl) (by simp) (ret_eq hSB (cSameB hb1 hb2 y0 y1)) (fun _ h => ⟨rfl, h⟩)
        refine ⟨step_yes 16 56 rfl rfl (fun _ _ h => h) (fun aF wF hs hb => ?_), ?_⟩
        · obtain ⟨x0, x1, -⟩ := hs
          have e0 : aF.eval (.tmp 57) = .bool SM := x0
          have e1 : aF.eval (.tmp 62) = .bool SM := x1
          refine opC_value (v := .bool true) ?_ ⟨rfl, below_same wF⟩
          have t0 := ev_of e0
          have t1 := ev_of e1
          simp [execOp, go_sem, t0, t1]
        refine ⟨step_yes 7 47 rfl rfl (fun _ _ h => h) (fun aF wF hs hb => ?_), ?_⟩
        · obtain ⟨x0, x1, -⟩ := hs
          have e0 : aF.eval (.tmp 56) = .bool false := x0
          have e1 : aF.eval (.tmp 63) = .bool true := x1
          refine opC_value (v := .bool true) ?_ ⟨rfl, below_same wF⟩
          have t0 := ev_of e0
          have t1 := ev_of e1
          simp [execOp, go_sem, t0, t1]
        refine ⟨step_free rfl (fun aF wF hs hb => ?_), ?_⟩
        · obtain ⟨x0, x1, -⟩ := hs
          have e0 : aF.eval (.tmp 47) = .bool true := x0
          have e1 : aF.eval (.tmp 64) = .bool true := x1
          refine opC_value (v := .bool true) ?_ ⟨rfl, below_same wF⟩
          have t0 := ev_of e0
          have t1 := ev_of e1
          simp [execOp, go_sem, t0, t1]
        refine ⟨step_free rfl (fun aF wF hs hb => ?_), ?_⟩
        · obtain ⟨x0, -⟩ := hs
          have e0 : aF.eval (.tmp 65) = .bool true := x0
          exact opC_move e0 ⟨rfl, below_same wF⟩
        refine ⟨step_yes 26 66 rfl rfl (fun _ _ h => h) (fun aF wF hs hb => ?_), ?_⟩
        · obtain ⟨x0, -⟩ := hs
          have e0 : aF.eval (.tmp 9) = .pointer (some ⟨g9, 0, none⟩) := x0
          exact opC_load e0 (L9 wF hb) ⟨⟨A9, c9, rfl, H9 _ hb⟩, below_same wF⟩
        refine ⟨step_yes 26 66 rfl rfl (fun _ _ h => h) (fun aF wF hs hb => ?_), ?_⟩
        · obtain ⟨x0, -⟩ := hs
          have y0 : (entF y1 m1).p (aF.eval (.tmp 67)) wF := x0
          exact opC_call (args := #[aF.eval (.tmp 67)]) (enters_of Try.func14 (by kernel_rfl) rfl) (by simp) (ret_eq hE1 (cRight hm1 hi1 y0)) (fun _ h => ⟨rfl, h⟩)
        refine ⟨step_yes 26 66 rfl rfl (fun _ _ h => h) (fun aF wF hs hb => ?_), ?_⟩
        · obtain ⟨x0, -⟩ := hs
          have e0 : aF.eval (.tmp 68) = .bool true := x0
          refine opC_value (v := .bool false) ?_ ⟨rfl, below_same wF⟩
          have t0 := ev_of e0
          simp [execOp, go_sem, t0]
        refine ⟨step_yes 26 66 rfl rfl (fun _ _ h => h) (fun aF wF hs hb => ?_), ?_⟩
        · obtain ⟨x0, -⟩ := hs
          have e0 : aF.eval (.tmp 69) = .bool false := x0
          exact opC_move e0 ⟨rfl, below_same wF⟩
        refine ⟨step_yes 30 70 rfl rfl (fun _ _ h => h) (fun aF wF hs hb => ?_), ?_⟩
        · obtain ⟨x0, -⟩ := hs
          have e0 : aF.eval (.tmp 12) = .int .i64 0 := x0
          exact opC_move e0 ⟨rfl, below_same wF⟩
        refine ⟨step_yes 30 70 rfl rfl (fun _ _ h => h) (fun aF wF hs hb => ?_), ?_⟩
        · obtain ⟨x0, -⟩ := hs
          have e0 : aF.eval (.tmp 71) = .int .i64 0 := x0
          refine opC_value (v := .bool true) ?_ ⟨rfl, below_same wF⟩
          have t0 := ev_of e0
          simp [execOp, go_sem, t0]
        refine ⟨step_yes 26 66 rfl rfl (fun _ _ h => h) (fun aF wF hs hb => ?_), ?_⟩
        · obtain ⟨x0, x1, -⟩ := hs
          have e0 : aF.eval (.tmp 70) = .bool false := x0
          have e1 : aF.eval (.tmp 72) = .bool true := x1
          refine opC_value (v := .bool true) ?_ ⟨rfl, below_same wF⟩
          have t0 := ev_of e0
          have t1 := ev_of e1
          simp [execOp, go_sem, t0, t1]
        refine ⟨step_free rfl (fun aF wF hs hb => ?_), ?_⟩
        · obtain ⟨x0, x1, -⟩ := hs
          have e0 : aF.eval (.tmp 66) = .bool true := x0
          have e1 : aF.eval (.tmp 73) = .bool true := x1
          refine opC_value (v := .bool true) ?_ ⟨rfl, below_same wF⟩
          have t0 := ev_of e0
          have t1 := ev_of e1
          simp [execOp, go_sem, t0, t1]
        refine ⟨step_free rfl (fun aF wF hs hb => ?_), ?_⟩
        · obtain ⟨x0, -⟩ := hs
          have e0 : aF.eval (.tmp 74) = .bool true := x0
          exact opC_assign e0 ⟨rfl, below_same wF⟩
        exact trivial
      · intro f w6 hf hb6
        have h6 : f 34 = .bool true := hf 34 74 rfl
        have h7 : f 35 = .bool true := hf 35 8 rfl
        simp only [putF, Act.put, List.setIfInBounds_toArray, List.set_cons_zero, List.set_cons_succ]
        exact hQ _ _ (by rw [h7]; rfl) hb6
end Go.Proofs.Ytpphcifabmmimaa
