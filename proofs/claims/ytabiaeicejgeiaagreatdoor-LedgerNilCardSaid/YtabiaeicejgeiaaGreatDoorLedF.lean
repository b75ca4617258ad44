/-
  Ledger.add: the two regions that reckon the sums. Conditions: the ledger is there.
-/
import Derived.Test.YtabiaeicejgeiaaGreatDoorLedE
import Derived.Test.YtabiaeicejgeiaaGreatDoorFlowS
import Derived.Test.YtabiaeicejgeiaaGreatDoorMapE
import Derived.Shelf.Abstract
namespace Go.Proofs.YtabiaeicejgeiaaGreatDoor
open Go.ChangeShapes Go.WideShapes Go.ChangeAt Go.RowKit Go.Maps

theorem vec_one (f : Nat → Int) : ((vec f).all fun x => x.oneCell') = true := by
  simp [vec, Value.oneCell']
set_option maxRecDepth 100000 in
set_option maxHeartbeats 8000000 in
theorem add_reg2 {Q : Exit → Act → World → Prop} {a0 : Act} {w W : World} {q n c : Nat} {A : Option Addr} {y : Ky} {bm : Option Nat} {f0 r1 : Nat → Int} {v1 : Value} (h0 : a0.eval (.tmp 0) = .pointer (some ⟨q, 0, none⟩)) (h3 : a0.eval (.tmp 3) = .pointer (some ⟨w.heap.size, 0, none⟩)) (h5 : a0.eval (.tmp 5) = .int .u32 (y.a : Int)) (hsz : a0.tmps.size = 78)
    (LB : ∀ W', Below W.heap.size W W' → (Instr.loadAt 83 (.pointer (some ⟨q, 2, none⟩))).run Tryz.prog W' = .ok (.map bm) W')
    (LK : ∀ W', Below W.heap.size W W' → (Instr.lookup 83 (.map bm) (.int .u32 (y.a : Int)) false).run Tryz.prog W' = .ok (.agg (vec f0)) W')
    (LS : ∀ W', Below W.heap.size W W' → (Instr.loadAt 34 (.pointer (some ⟨w.heap.size, 4, none⟩))).run Tryz.prog W' = .ok (.slice A n c) W')
    (CW : ∀ W', Below W.heap.size W W' → Calls Tryz.prog 73 #[.agg (vec f0), .slice A n c] W' (Ret (.tuple #[.agg (vec r1), v1]) W'))
    (hQ : ∀ (u : Nat → Value) (g : Nat) (W' : World), W.heap.size ≤ g → Blk W' g 85 (vec r1) → Below W.heap.size W W' → (u 13 = .pointer (some ⟨g, 0, none⟩)) → (u 15 = v1) → Q .normal (putF u [some 14, some 15, some 16, some 17, some 18, some 19, some 20, some 21, some 22, some 23, some 13, some 24, some 25, some 6, none, some 7] 0 a0) W') :
    (Code.region 2 #[{ dst := some 14, op := Go.Op.move (Go.Operand.tmp 0), type := 24, pos := "ledger.go:223", after := #[], guard := none }, { dst := some 15, op := Go.Op.nilCheck (Go.Operand.tmp 14), type := 0, pos := "ledger.go:223", after := #[{ on := 0, ground := Go.Ground.data }], guard := none }, { dst := some 16, op := Go.Op.fieldAddr 87 (Go.Operand.tmp 15) 2, type := 0, pos := "ledger.go:223", after := #[{ on := 1, ground := Go.Ground.data }], guard := none }, { dst := some 17, op := Go.Op.load 83 (Go.Operand.tmp 16), type := 83, pos := "ledger.go:223", after := #[{ on := 2, ground := Go.Ground.data }], guard := none }, { dst := some 18, op := Go.Op.move (Go.Operand.tmp 5), type := 30, pos := "ledger.go:223", after := #[], guard := none }, { dst := some 19, op := Go.Op.lookup 83 (Go.Operand.tmp 17) (Go.Operand.tmp 18) false, type := 85, pos := "ledger.go:223", after := #[{ on := 3, ground := Go.Ground.data }, { on := 4, ground := Go.Ground.data }], guard := none }, { dst := some 20, op := Go.Op.fieldAddr 42 (Go.Operand.tmp 3) 0, type := 0, pos := "ledger.go:223", after := #[], guard := none }, { dst := some 21, op := Go.Op.fieldAddr 40 (Go.Operand.tmp 20) 1, type := 0, pos := "ledger.go:223", after := #[{ on := 6, ground := Go.Ground.data }], guard := none }, { dst := some 22, op := Go.Op.load 34 (Go.Operand.tmp 21), type := 34, pos := "ledger.go:223", after := #[{ on := 7, ground := Go.Ground.data }], guard := none }, { dst := some 23, op := Go.Op.call { callee := Go.Callee.value (Go.Operand.func 73), args := #[Go.Operand.tmp 19, Go.Operand.tmp 22], argTypes := #[85, 34] }, type := 145, pos := "ledger.go:223", after := #[{ on := 5, ground := Go.Ground.data }, { on := 8, ground := Go.Ground.data }], guard := none }, { dst := some 13, op := Go.Op.move (Go.Operand.tmp 23), type := 145, pos := "ledger.go:223", after := #[{ on := 9, ground := Go.Ground.data }], guard := none }, { dst := some 24, op := Go.Op.extract (Go.Operand.tmp 13) 0, type := 85, pos := "ledger.go:223", after := #[{ on := 10, ground := Go.Ground.data }], guard := none }, { dst := some 25, op := Go.Op.extract (Go.Operand.tmp 13) 1, type := 57, pos := "ledger.go:223", after := #[{ on := 10, ground := Go.Ground.data }, { on := 14, ground := Go.Ground.gcOnly Go.Departure.lateStores }], guard := none }, { dst := some 6, op := Go.Op.alloc 85, type := 0, pos := "ledger.go:223", after := #[], guard := none }, { dst := none, op := Go.Op.store 85 (Go.Operand.tmp 6) (Go.Operand.tmp 24), type := 0, pos := "ledger.go:223", after := #[{ on := 13, ground := Go.Ground.data }, { on := 11, ground := Go.Ground.data }, { on := 9, ground := Go.Ground.chain }, { on := 0, ground := Go.Ground.phase }, { on := 1, ground := Go.Ground.phase }, { on := 2, ground := Go.Ground.phase }, { on := 3, ground := Go.Ground.phase }, { on := 4, ground := Go.Ground.phase }, { on := 5, ground := Go.Ground.phase }, { on := 6, ground := Go.Ground.phase }, { on := 7, ground := Go.Ground.phase }, { on := 8, ground := Go.Ground.phase }, { on := 9, ground := Go.Ground.phase }, { on := 10, ground := Go.Ground.phase }, { on := 11, ground := Go.Ground.phase }, { on := 12, ground := Go.Ground.textOnly Go.Departure.lateStores }, { on := 13, ground := Go.Ground.phase }], guard := none }, { dst := some 7, op := Go.Op.assign (Go.Operand.tmp 25), type := 57, pos := "ledger.go:223", after := #[{ on := 12, ground := Go.Ground.data }, { on := 14, ground := Go.Ground.chain }, { on := 0, ground := Go.Ground.phase }, { on := 1, ground := Go.Ground.phase }, { on := 2, ground := Go.Ground.phase }, { on := 3, ground := Go.Ground.phase }, { on := 4, ground := Go.Ground.phase }, { on := 5, ground := Go.Ground.phase }, { on := 6, ground := Go.Ground.phase }, { on := 7, ground := Go.Ground.phase }, { on := 8, ground := Go.Ground.phase }, { on := 9, ground := Go.Ground.phase }, { on := 10, ground := Go.Ground.phase }, { on := 11, ground := Go.Ground.phase }, { on := 12, ground := Go.Ground.phase }, { on := 13, ground := Go.Ground.phase }, { on := 14, ground := Go.Ground.phase }], guard := none }] true).wp Tryz.prog Q a0 W := by
  refine wp_region_flowG (l := [{ dst := some 14, op := Go.Op.move (Go.Operand.tmp 0), type := 24, pos := "ledger.go:223", after := #[], guard := none }, { dst := some 15, op := Go.Op.nilCheck (Go.Operand.tmp 14), type := 0, pos := "ledger.go:223", after := #[{ on := 0, ground := Go.Ground.data }], guard := none }, { dst := some 16, op := Go.Op.fieldAddr 87 (Go.Operand.tmp 15) 2, type := 0, pos := "ledger.go:223", after := #[{ on := 1, ground := Go.Ground.data }], guard := none }, { dst := some 17, op := Go.Op.load 83 (Go.Operand.tmp 16), type := 83, pos := "ledger.go:223", after := #[{ on := 2, ground := Go.Ground.data }], guard := none }, { dst := some 18, op := Go.Op.move (Go.Operand.tmp 5), type := 30, pos := "ledger.go:223", after := #[], guard := none }, { dst := some 19, op := Go.Op.lookup 83 (Go.Operand.tmp 17) (Go.Operand.tmp 18) false, type := 85, pos := "ledger.go:223", after := #[{ on := 3, ground := Go.Ground.data }, { on := 4, ground := Go.Ground.data }], guard := none }, { dst := some 20, op := Go.Op.fieldAddr 42 (Go.Operand.tmp 3) 0, type := 0, pos := "ledger.go:223", after := #[], guard := none }, { dst := some 21, op := Go.Op.fieldAddr 40 (Go.Operand.tmp 20) 1, type := 0, pos := "ledger.go:223", after := #[{ on := 6, ground := Go.Ground.data }], guard := none }, { dst := some 22, op := Go.Op.load 34 (Go.Operand.tmp 21), type := 34, pos := "ledger.go:223", after := #[{ on := 7, ground := Go.Ground.data }], guard := none }, { dst := some 23, op := Go.Op.call { callee := Go.Callee.value (Go.Operand.func 73), args := #[Go.Operand.tmp 19, Go.Operand.tmp 22], argTypes := #[85, 34] }, type := 145, pos := "ledger.go:223", after := #[{ on := 5, ground := Go.Ground.data }, { on := 8, ground := Go.Ground.data }], guard := none }, { dst := some 13, op := Go.Op.move (Go.Operand.tmp 23), type := 145, pos := "ledger.go:223", after := #[{ on := 9, ground := Go.Ground.data }], guard := none }, { dst := some 24, op := Go.Op.extract (Go.Operand.tmp 13) 0, type := 85, pos := "ledger.go:223", after := #[{ on := 10, ground := Go.Ground.data }], guard := none }, { dst := some 25, op := Go.Op.extract (Go.Operand.tmp 13) 1, type := 57, pos := "ledger.go:223", after := #[{ on := 10, ground := Go.Ground.data }, { on := 14, ground := Go.Ground.gcOnly Go.Departure.lateStores }], guard := none }, { dst := some 6, op := Go.Op.alloc 85, type := 0, pos := "ledger.go:223", after := #[], guard := none }, { dst := none, op := Go.Op.store 85 (Go.Operand.tmp 6) (Go.Operand.tmp 24), type := 0, pos := "ledger.go:223", after := #[{ on := 13, ground := Go.Ground.data }, { on := 11, ground := Go.Ground.data }, { on := 9, ground := Go.Ground.chain }, { on := 0, ground := Go.Ground.phase }, { on := 1, ground := Go.Ground.phase }, { on := 2, ground := Go.Ground.phase }, { on := 3, ground := Go.Ground.phase }, { on := 4, ground := Go.Ground.phase }, { on := 5, ground := Go.Ground.phase }, { on := 6, ground := Go.Ground.phase }, { on := 7, ground := Go.Ground.phase }, { on := 8, ground := Go.Ground.phase }, { on := 9, ground := Go.Ground.phase }, { on := 10, ground := Go.Ground.phase }, { on := 11, ground := Go.Ground.phase }, { on := 12, ground := Go.Ground.textOnly Go.Departure.lateStores }, { on := 13, ground := Go.Ground.phase }], guard := none }, { dst := some 7, op := Go.Op.assign (Go.Operand.tmp 25), type := 57, pos := "ledger.go:223", after := #[{ on := 12, ground := Go.Ground.data }, { on := 14, ground := Go.Ground.chain }, { on := 0, ground := Go.Ground.phase }, { on := 1, ground := Go.Ground.phase }, { on := 2, ground := Go.Ground.phase }, { on := 3, ground := Go.Ground.phase }, { on := 4, ground := Go.Ground.phase }, { on := 5, ground := Go.Ground.phase }, { on := 6, ground := Go.Ground.phase }, { on := 7, ground := Go.Ground.phase }, { on := 8, ground := Go.Ground.phase }, { on := 9, ground := Go.Ground.phase }, { on := 10, ground := Go.Ground.phase }, { on := 11, ground := Go.Ground.phase }, { on := 12, ground := Go.Ground.phase }, { on := 13, ground := Go.Ground.phase }, { on := 14, ground := Go.Ground.phase }], guard := none }]) [some 14, some 15, some 16, some 17, some 18, some 19, some 20, some 21, some 22, some 23, some 13, some 24, some 25, some 6, none, some 7] (fun i => ([.is (.pointer (some ⟨q, 0, none⟩)), .is (.pointer (some ⟨q, 0, none⟩)), .is (.pointer (some ⟨q, 2, none⟩)), .is (.map bm), .is (.int .u32 (y.a : Int)), .is (.agg (vec f0)), .is (.pointer (some ⟨w.heap.size, 0, none⟩)), .is (.pointer (some ⟨w.heap.size, 4, none⟩)), .is (.slice A n c), .is (.tuple #[.agg (vec r1), v1]), .is (.tuple #[.agg (vec r1), v1]), .is (.agg (vec r1)), .is (v1), newF W.heap.size (.cells (vec (fun _ => 0)) 85 (0, 0)) (.cells (vec r1) 85 (0, 0)), doneF W.heap.size (.cells (vec (fun _ => 0)) 85 (0, 0)) (.cells (vec r1) 85 (0, 0)), .is (v1)] : List (FlwG _)).getD i .any) (by kernel_rfl) (by rw [hsz]; kernel_rfl) rfl ?_ ?_
  · refine ⟨step_freeG rfl (fun aF wF hs hb => ?_), ?_⟩
    · obtain ⟨x0, -⟩ := hs
      have e0 : aF.eval (.tmp 0) = .pointer (some ⟨q, 0, none⟩) := x0.trans h0
      exact opC_move e0 ⟨rfl, (relT _ _).refl wF⟩
    refine ⟨step_freeG rfl (fun aF wF hs hb => ?_), ?_⟩
    · obtain ⟨x0, -⟩ := hs
      have e0 : aF.eval (.tmp 14) = .pointer (some ⟨q, 0, none⟩) := x0
      refine opC_value (v := .pointer (some ⟨q, 0, none⟩)) ?_ ⟨rfl, (relT _ _).refl wF⟩
      have t0 := ev_of e0
      simp [execOp, go_sem, t0]
    refine ⟨step_freeG rfl (fun aF wF hs hb => ?_), ?_⟩
    · obtain ⟨x0, -⟩ := hs
      have e0 : aF.eval (.tmp 15) = .pointer (some ⟨q, 0, none⟩) := x0
      refine opC_value (v := .pointer (some ⟨q, 2, none⟩)) ?_ ⟨rfl, (relT _ _).refl wF⟩
      have t0 := ev_of e0
      simp [execOp, go_sem, t0]
    refine ⟨step_freeG rfl (fun aF wF hs hb => ?_), ?_⟩
    · obtain ⟨x0, -⟩ := hs
      have e0 : aF.eval (.tmp 16) = .pointer (some ⟨q, 2, none⟩) := x0
      exact opC_load e0 (LB wF (hb.below)) ⟨rfl, (relT _ _).refl wF⟩
    refine ⟨step_freeG rfl (fun aF wF hs hb => ?_), ?_⟩
    · obtain ⟨x0, -⟩ := hs
      have e0 : aF.eval (.tmp 5) = .int .u32 (y.a : Int) := x0.trans h5
      exact opC_move e0 ⟨rfl, (relT _ _).refl wF⟩
    refine ⟨step_freeG rfl (fun aF wF hs hb => ?_), ?_⟩
    · obtain ⟨x0, x1, -⟩ := hs
      have e0 : aF.eval (.tmp 17) = .map bm := x0
      have e1 : aF.eval (.tmp 18) = .int .u32 (y.a : Int) := x1
      refine opC_value (v := .agg (vec f0)) ?_ ⟨rfl, (relT _ _).refl wF⟩
      simp [execOp, e0, e1, LK wF hb.below, Result.andThen]
    refine ⟨step_freeG rfl (fun aF wF hs hb => ?_), ?_⟩
    · obtain ⟨x0, -⟩ := hs
      have e0 : aF.eval (.tmp 3) = .pointer (some ⟨w.heap.size, 0, none⟩) := x0.trans h3
      refine opC_value (v := .pointer (some ⟨w.heap.size, 0, none⟩)) ?_ ⟨rfl, (relT _ _).refl wF⟩
      have t0 := ev_of e0
      simp [execOp, go_sem, t0]
    refine ⟨step_freeG rfl (fun aF wF hs hb => ?_), ?_⟩
    · obtain ⟨x0, -⟩ := hs
      have e0 : aF.eval (.tmp 20) = .pointer (some ⟨w.heap.size, 0, none⟩) := x0
      refine opC_value (v := .pointer (some ⟨w.heap.size, 4, none⟩)) ?_ ⟨rfl, (relT _ _).refl wF⟩
      have t0 := ev_of e0
      simp [execOp, go_sem, t0]
    refine ⟨step_freeG rfl (fun aF wF hs hb => ?_), ?_⟩
    · obtain ⟨x0, -⟩ := hs
      have e0 : aF.eval (.tmp 21) = .pointer (some ⟨w.heap.size, 4, none⟩) := x0
      exact opC_load e0 (LS wF (hb.below)) ⟨rfl, (relT _ _).refl wF⟩
    refine ⟨step_freeG rfl (fun aF wF hs hb => ?_), ?_⟩
    · obtain ⟨x0, x1, -⟩ := hs
      have e0 : aF.eval (.tmp 19) = .agg (vec f0) := x0
      have e1 : aF.eval (.tmp 22) = .slice A n c := x1
      exact opC_call (args := #[.agg (vec f0), .slice A n c]) (enters_of Tryz.func73 (by kernel_rfl) rfl) (by simp [e0, e1]) (CW wF hb.below) (fun _ h => ⟨rfl, TurnR.of_below h hb.size⟩)
    refine ⟨step_freeG rfl (fun aF wF hs hb => ?_), ?_⟩
    · obtain ⟨x0, -⟩ := hs
      have e0 : aF.eval (.tmp 23) = .tuple #[.agg (vec r1), v1] := x0
      exact opC_move e0 ⟨rfl, (relT _ _).refl wF⟩
    refine ⟨step_freeG rfl (fun aF wF hs hb => ?_), ?_⟩
    · obtain ⟨x0, -⟩ := hs
      have e0 : aF.eval (.tmp 13) = .tuple #[.agg (vec r1), v1] := x0
      refine opC_value (v := .agg (vec r1)) ?_ ⟨rfl, (relT _ _).refl wF⟩
      have t0 := ev_of e0
      simp [execOp, go_sem, t0]
    refine ⟨step_freeG rfl (fun aF wF hs hb => ?_), ?_⟩
    · obtain ⟨x0, -⟩ := hs
      have e0 : aF.eval (.tmp 13) = .tuple #[.agg (vec r1), v1] := x0
      refine opC_value (v := v1) ?_ ⟨rfl, (relT _ _).refl wF⟩
      have t0 := ev_of e0
      simp [execOp, go_sem, t0]
    refine ⟨step_freeG rfl (fun aF wF hs hb => ?_), ?_⟩
    · refine opC_alloc (cs := vec (fun _ => 0)) (by unfold vec; go_simp) ⟨⟨wF.heap.size, rfl, hb.size, .inl ?_⟩, TurnR.of_below (b_alloc wF _) hb.size⟩
      exact heap_alloc_new wF _
    refine ⟨step_freeG rfl (fun aF wF hs hb => ?_), ?_⟩
    · obtain ⟨x0, x1, -⟩ := hs
      obtain ⟨g, hg1, hg2, hg3⟩ : (newF W.heap.size (.cells (vec (fun _ => 0)) 85 (0, 0)) (.cells (vec r1) 85 (0, 0))).p (aF.eval (.tmp 6)) wF := x0
      have e1 : aF.eval (.tmp 24) = .agg (vec r1) := x1
      rcases hg3 with hg3 | hg3
      · exact opC_store hg1 e1 hg3 rfl (by kernel_rfl) (vec_one _) (fun w9 ho hv => ⟨⟨g, hg1, hg2, hv⟩, TurnR.only ho hg2 hg3 hv (.inr ⟨rfl, rfl⟩)⟩)
      · exact opC_store hg1 e1 hg3 rfl (by kernel_rfl) (vec_one _) (fun w9 ho hv => ⟨⟨g, hg1, hg2, hv⟩, TurnR.only ho hg2 hg3 hv (.inl rfl)⟩)
    refine ⟨step_freeG rfl (fun aF wF hs hb => ?_), ?_⟩
    · obtain ⟨x0, -⟩ := hs
      have e0 : aF.eval (.tmp 25) = v1 := x0
      exact opC_assign e0 ⟨rfl, (relT _ _).refl wF⟩
    exact trivial
  · intro u W' hf hn hb
    obtain ⟨g, hg1, hg2, hg3⟩ := hn 14 _ 6 rfl rfl
    have e1 := hf 15 7 rfl
    refine hQ u g W' hg2 hg3 hb.below ?_ e1
    have e2 : (putF u [some 14, some 15, some 16, some 17, some 18, some 19, some 20, some 21, some 22, some 23, some 13, some 24, some 25, some 6, none, some 7] 0 a0).eval (.tmp 6) = u 13 := by
      have hz : a0.tmps.size = 78 := hsz
      simp only [putF, Act.put, Act.eval]
      simp [hz]
    rw [← e2]
    exact hg1
set_option maxRecDepth 100000 in
set_option maxHeartbeats 8000000 in
theorem add_reg5 {Q : Exit → Act → World → Prop} {a0 : Act} {w W : World} {q n c : Nat} {A : Option Addr} {f1 r2 : Nat → Int} {v2 : Value} (h0 : a0.eval (.tmp 0) = .pointer (some ⟨q, 0, none⟩)) (h3 : a0.eval (.tmp 3) = .pointer (some ⟨w.heap.size, 0, none⟩)) (hsz : a0.tmps.size = 78)
    (LC : ∀ W', Below W.heap.size W W' → (Instr.loadAt 85 (.pointer (some ⟨q, 3, none⟩))).run Tryz.prog W' = .ok (.agg (vec f1)) W')
    (LS : ∀ W', Below W.heap.size W W' → (Instr.loadAt 34 (.pointer (some ⟨w.heap.size, 4, none⟩))).run Tryz.prog W' = .ok (.slice A n c) W')
    (CW : ∀ W', Below W.heap.size W W' → Calls Tryz.prog 73 #[.agg (vec f1), .slice A n c] W' (Ret (.tuple #[.agg (vec r2), v2]) W'))
    (hQ : ∀ (u : Nat → Value) (g : Nat) (W' : World), W.heap.size ≤ g → Blk W' g 85 (vec r2) → Below W.heap.size W W' → (u 11 = .pointer (some ⟨g, 0, none⟩)) → (u 13 = v2) → Q .normal (putF u [some 30, some 31, some 32, some 33, some 34, some 35, some 36, some 37, some 29, some 38, some 39, some 8, none, some 7] 0 a0) W') :
    (Code.region 5 #[{ dst := some 30, op := Go.Op.move (Go.Operand.tmp 0), type := 24, pos := "ledger.go:227", after := #[], guard := none }, { dst := some 31, op := Go.Op.nilCheck (Go.Operand.tmp 30), type := 0, pos := "ledger.go:227", after := #[{ on := 0, ground := Go.Ground.data }], guard := none }, { dst := some 32, op := Go.Op.fieldAddr 87 (Go.Operand.tmp 31) 3, type := 0, pos := "ledger.go:227", after := #[{ on := 1, ground := Go.Ground.data }], guard := none }, { dst := some 33, op := Go.Op.load 85 (Go.Operand.tmp 32), type := 85, pos := "ledger.go:227", after := #[{ on := 2, ground := Go.Ground.data }], guard := none }, { dst := some 34, op := Go.Op.fieldAddr 42 (Go.Operand.tmp 3) 0, type := 0, pos := "ledger.go:227", after := #[], guard := none }, { dst := some 35, op := Go.Op.fieldAddr 40 (Go.Operand.tmp 34) 1, type := 0, pos := "ledger.go:227", after := #[{ on := 4, ground := Go.Ground.data }], guard := none }, { dst := some 36, op := Go.Op.load 34 (Go.Operand.tmp 35), type := 34, pos := "ledger.go:227", after := #[{ on := 5, ground := Go.Ground.data }], guard := none }, { dst := some 37, op := Go.Op.call { callee := Go.Callee.value (Go.Operand.func 73), args := #[Go.Operand.tmp 33, Go.Operand.tmp 36], argTypes := #[85, 34] }, type := 145, pos := "ledger.go:227", after := #[{ on := 3, ground := Go.Ground.data }, { on := 6, ground := Go.Ground.data }], guard := none }, { dst := some 29, op := Go.Op.move (Go.Operand.tmp 37), type := 145, pos := "ledger.go:227", after := #[{ on := 7, ground := Go.Ground.data }], guard := none }, { dst := some 38, op := Go.Op.extract (Go.Operand.tmp 29) 0, type := 85, pos := "ledger.go:227", after := #[{ on := 8, ground := Go.Ground.data }], guard := none }, { dst := some 39, op := Go.Op.extract (Go.Operand.tmp 29) 1, type := 57, pos := "ledger.go:227", after := #[{ on := 8, ground := Go.Ground.data }, { on := 12, ground := Go.Ground.gcOnly Go.Departure.lateStores }], guard := none }, { dst := some 8, op := Go.Op.alloc 85, type := 0, pos := "ledger.go:227", after := #[], guard := none }, { dst := none, op := Go.Op.store 85 (Go.Operand.tmp 8) (Go.Operand.tmp 38), type := 0, pos := "ledger.go:227", after := #[{ on := 11, ground := Go.Ground.data }, { on := 9, ground := Go.Ground.data }, { on := 7, ground := Go.Ground.chain }, { on := 0, ground := Go.Ground.phase }, { on := 1, ground := Go.Ground.phase }, { on := 2, ground := Go.Ground.phase }, { on := 3, ground := Go.Ground.phase }, { on := 4, ground := Go.Ground.phase }, { on := 5, ground := Go.Ground.phase }, { on := 6, ground := Go.Ground.phase }, { on := 7, ground := Go.Ground.phase }, { on := 8, ground := Go.Ground.phase }, { on := 9, ground := Go.Ground.phase }, { on := 10, ground := Go.Ground.textOnly Go.Departure.lateStores }, { on := 11, ground := Go.Ground.phase }], guard := none }, { dst := some 7, op := Go.Op.assign (Go.Operand.tmp 39), type := 57, pos := "ledger.go:227", after := #[{ on := 10, ground := Go.Ground.data }, { on := 12, ground := Go.Ground.chain }, { on := 0, ground := Go.Ground.phase }, { on := 1, ground := Go.Ground.phase }, { on := 2, ground := Go.Ground.phase }, { on := 3, ground := Go.Ground.phase }, { on := 4, ground := Go.Ground.phase }, { on := 5, ground := Go.Ground.phase }, { on := 6, ground := Go.Ground.phase }, { on := 7, ground := Go.Ground.phase }, { on := 8, ground := Go.Ground.phase }, { on := 9, ground := Go.Ground.phase }, { on := 10, ground := Go.Ground.phase }, { on := 11, ground := Go.Ground.phase }, { on := 12, ground := Go.Ground.phase }], guard := none }] true).wp Tryz.prog Q a0 W := by
  refine wp_region_flowG (l := [{ dst := some 30, op := Go.Op.move (Go.Operand.tmp 0), type := 24, pos := "ledger.go:227", after := #[], guard := none }, { dst := some 31, op := Go.Op.nilCheck (Go.Operand.tmp 30), type := 0, pos := "ledger.go:227", after := #[{ on := 0, ground := Go.Ground.data }], guard := none }, { dst := some 32, op := Go.Op.fieldAddr 87 (Go.Operand.tmp 31) 3, type := 0, pos := "ledger.go:227", after := #[{ on := 1, ground := Go.Ground.data }], guard := none }, { dst := some 33, op := Go.Op.load 85 (Go.Operand.tmp 32), type := 85, pos := "ledger.go:227", after := #[{ on := 2, ground := Go.Ground.data }], guard := none }, { dst := some 34, op := Go.Op.fieldAddr 42 (Go.Operand.tmp 3) 0, type := 0, pos := "ledger.go:227", after := #[], guard := none }, { dst := some 35, op := Go.Op.fieldAddr 40 (Go.Operand.tmp 34) 1, type := 0, pos := "ledger.go:227", after := #[{ on := 4, ground := Go.Ground.data }], guard := none }, { dst := some 36, op := Go.Op.load 34 (Go.Operand.tmp 35), type := 34, pos := "ledger.go:227", after := #[{ on := 5, ground := Go.Ground.data }], guard := none }, { dst := some 37, op := Go.Op.call { callee := Go.Callee.value (Go.Operand.func 73), args := #[Go.Operand.tmp 33, Go.Operand.tmp 36], argTypes := #[85, 34] }, type := 145, pos := "ledger.go:227", after := #[{ on := 3, ground := Go.Ground.data }, { on := 6, ground := Go.Ground.data }], guard := none }, { dst := some 29, op := Go.Op.move (Go.Operand.tmp 37), type := 145, pos := "ledger.go:227", after := #[{ on := 7, ground := Go.Ground.data }], guard := none }, { dst := some 38, op := Go.Op.extract (Go.Operand.tmp 29) 0, type := 85, pos := "ledger.go:227", after := #[{ on := 8, ground := Go.Ground.data }], guard := none }, { dst := some 39, op := Go.Op.extract (Go.Operand.tmp 29) 1, type := 57, pos := "ledger.go:227", after := #[{ on := 8, ground := Go.Ground.data }, { on := 12, ground := Go.Ground.gcOnly Go.Departure.lateStores }], guard := none }, { dst := some 8, op := Go.Op.alloc 85, type := 0, pos := "ledger.go:227", after := #[], guard := none }, { dst := none, op := Go.Op.store 85 (Go.Operand.tmp 8) (Go.Operand.tmp 38), type := 0, pos := "ledger.go:227", after := #[{ on := 11, ground := Go.Ground.data }, { on := 9, ground := Go.Ground.data }, { on := 7, ground := Go.Ground.chain }, { on := 0, ground := Go.Ground.phase }, { on := 1, ground := Go.Ground.phase }, { on := 2, ground := Go.Ground.phase }, { on := 3, ground := Go.Ground.phase }, { on := 4, ground := Go.Ground.phase }, { on := 5, ground := Go.Ground.phase }, { on := 6, ground := Go.Ground.phase }, { on := 7, ground := Go.Ground.phase }, { on := 8, ground := Go.Ground.phase }, { on := 9, ground := Go.Ground.phase }, { on := 10, ground := Go.Ground.textOnly Go.Departure.lateStores }, { on := 11, ground := Go.Ground.phase }], guard := none }, { dst := some 7, op := Go.Op.assign (Go.Operand.tmp 39), type := 57, pos := "ledger.go:227", after := #[{ on := 10, ground := Go.Ground.data }, { on := 12, ground := Go.Ground.chain }, { on := 0, ground := Go.Ground.phase }, { on := 1, ground := Go.Ground.phase }, { on := 2, ground := Go.Ground.phase }, { on := 3, ground := Go.Ground.phase }, { on := 4, ground := Go.Ground.phase }, { on := 5, ground := Go.Ground.phase }, { on := 6, ground := Go.Ground.phase }, { on := 7, ground := Go.Ground.phase }, { on := 8, ground := Go.Ground.phase }, { on := 9, ground := Go.Ground.phase }, { on := 10, ground := Go.Ground.phase }, { on := 11, ground := Go.Ground.phase }, { on := 12, ground := Go.Ground.phase }], guard := none }]) [some 30, some 31, some 32, some 33, some 34, some 35, some 36, some 37, some 29, some 38, some 39, some 8, none, some 7] (fun i => ([.is (.pointer (some ⟨q, 0, none⟩)), .is (.pointer (some ⟨q, 0, none⟩)), .is (.pointer (some ⟨q, 3, none⟩)), .is (.agg (vec f1)), .is (.pointer (some ⟨w.heap.size, 0, none⟩)), .is (.pointer (some ⟨w.heap.size, 4, none⟩)), .is (.slice A n c), .is (.tuple #[.agg (vec r2), v2]), .is (.tuple #[.agg (vec r2), v2]), .is (.agg (vec r2)), .is (v2), newF W.heap.size (.cells (vec (fun _ => 0)) 85 (0, 0)) (.cells (vec r2) 85 (0, 0)), doneF W.heap.size (.cells (vec (fun _ => 0)) 85 (0, 0)) (.cells (vec r2) 85 (0, 0)), .is (v2)] : List (FlwG _)).getD i .any) (by kernel_rfl) (by rw [hsz]; kernel_rfl) rfl ?_ ?_
  · refine ⟨step_freeG rfl (fun aF wF hs hb => ?_), ?_⟩
    · obtain ⟨x0, -⟩ := hs
      have e0 : aF.eval (.tmp 0) = .pointer (some ⟨q, 0, none⟩) := x0.trans h0
      exact opC_move e0 ⟨rfl, (relT _ _).refl wF⟩
    refine ⟨step_freeG rfl (fun aF wF hs hb => ?_), ?_⟩
    · obtain ⟨x0, -⟩ := hs
      have e0 : aF.eval (.tmp 30) = .pointer (some ⟨q, 0, none⟩) := x0
      refine opC_value (v := .pointer (some ⟨q, 0, none⟩)) ?_ ⟨rfl, (relT _ _).refl wF⟩
      have t0 := ev_of e0
      simp [execOp, go_sem, t0]
    refine ⟨step_freeG rfl (fun aF wF hs hb => ?_), ?_⟩
    · obtain ⟨x0, -⟩ := hs
      have e0 : aF.eval (.tmp 31) = .pointer (some ⟨q, 0, none⟩) := x0
      refine opC_value (v := .pointer (some ⟨q, 3, none⟩)) ?_ ⟨rfl, (relT _ _).refl wF⟩
      have t0 := ev_of e0
      simp [execOp, go_sem, t0]
    refine ⟨step_freeG rfl (fun aF wF hs hb => ?_), ?_⟩
    · obtain ⟨x0, -⟩ := hs
      have e0 : aF.eval (.tmp 32) = .pointer (some ⟨q, 3, none⟩) := x0
      exact opC_load e0 (LC wF (hb.below)) ⟨rfl, (relT _ _).refl wF⟩
    refine ⟨step_freeG rfl (fun aF wF hs hb => ?_), ?_⟩
    · obtain ⟨x0, -⟩ := hs
      have e0 : aF.eval (.tmp 3) = .pointer (some ⟨w.heap.size, 0, none⟩) := x0.trans h3
      refine opC_value (v := .pointer (some ⟨w.heap.size, 0, none⟩)) ?_ ⟨rfl, (relT _ _).refl wF⟩
      have t0 := ev_of e0
      simp [execOp, go_sem, t0]
    refine ⟨step_freeG rfl (fun aF wF hs hb => ?_), ?_⟩
    · obtain ⟨x0, -⟩ := hs
      have e0 : aF.eval (.tmp 34) = .pointer (some ⟨w.heap.size, 0, none⟩) := x0
      refine opC_value (v := .pointer (some ⟨w.heap.size, 4, none⟩)) ?_ ⟨rfl, (relT _ _).refl wF⟩
      have t0 := ev_of e0
      simp [execOp, go_sem, t0]
    refine ⟨step_freeG rfl (fun aF wF hs hb => ?_), ?_⟩
    · obtain ⟨x0, -⟩ := hs
      have e0 : aF.eval (.tmp 35) = .pointer (some ⟨w.heap.size, 4, none⟩) := x0
      exact opC_load e0 (LS wF (hb.below)) ⟨rfl, (relT _ _).refl wF⟩
    refine ⟨step_freeG rfl (fun aF wF hs hb => ?_), ?_⟩
    · obtain ⟨x0, x1, -⟩ := hs
      have e0 : aF.eval (.tmp 33) = .agg (vec f1) := x0
      have e1 : aF.eval (.tmp 36) = .slice A n c := x1
      exact opC_call (args := #[.agg (vec f1), .slice A n c]) (enters_of Tryz.func73 (by kernel_rfl) rfl) (by simp [e0, e1]) (CW wF hb.below) (fun _ h => ⟨rfl, TurnR.of_below h hb.size⟩)
    refine ⟨step_freeG rfl (fun aF wF hs hb => ?_), ?_⟩
    · obtain ⟨x0, -⟩ := hs
      have e0 : aF.eval (.tmp 37) = .tuple #[.agg (vec r2), v2] := x0
      exact opC_move e0 ⟨rfl, (relT _ _).refl wF⟩
    refine ⟨step_freeG rfl (fun aF wF hs hb => ?_), ?_⟩
    · obtain ⟨x0, -⟩ := hs
      have e0 : aF.eval (.tmp 29) = .tuple #[.agg (vec r2), v2] := x0
      refine opC_value (v := .agg (vec r2)) ?_ ⟨rfl, (relT _ _).refl wF⟩
      have t0 := ev_of e0
      simp [execOp, go_sem, t0]
    refine ⟨step_freeG rfl (fun aF wF hs hb => ?_), ?_⟩
    · obtain ⟨x0, -⟩ := hs
      have e0 : aF.eval (.tmp 29) = .tuple #[.agg (vec r2), v2] := x0
      refine opC_value (v := v2) ?_ ⟨rfl, (relT _ _).refl wF⟩
      have t0 := ev_of e0
      simp [execOp, go_sem, t0]
    refine ⟨step_freeG rfl (fun aF wF hs hb => ?_), ?_⟩
    · refine opC_alloc (cs := vec (fun _ => 0)) (by unfold vec; go_simp) ⟨⟨wF.heap.size, rfl, hb.size, .inl ?_⟩, TurnR.of_below (b_alloc wF _) hb.size⟩
      exact heap_alloc_new wF _
    refine ⟨step_freeG rfl (fun aF wF hs hb => ?_), ?_⟩
    · obtain ⟨x0, x1, -⟩ := hs
      obtain ⟨g, hg1, hg2, hg3⟩ : (newF W.heap.size (.cells (vec (fun _ => 0)) 85 (0, 0)) (.cells (vec r2) 85 (0, 0))).p (aF.eval (.tmp 8)) wF := x0
      have e1 : aF.eval (.tmp 38) = .agg (vec r2) := x1
      rcases hg3 with hg3 | hg3
      · exact opC_store hg1 e1 hg3 rfl (by kernel_rfl) (vec_one _) (fun w9 ho hv => ⟨⟨g, hg1, hg2, hv⟩, TurnR.only ho hg2 hg3 hv (.inr ⟨rfl, rfl⟩)⟩)
      · exact opC_store hg1 e1 hg3 rfl (by kernel_rfl) (vec_one _) (fun w9 ho hv => ⟨⟨g, hg1, hg2, hv⟩, TurnR.only ho hg2 hg3 hv (.inl rfl)⟩)
    refine ⟨step_freeG rfl (fun aF wF hs hb => ?_), ?_⟩
    · obtain ⟨x0, -⟩ := hs
      have e0 : aF.eval (.tmp 39) = v2 := x0
      exact opC_assign e0 ⟨rfl, (relT _ _).refl wF⟩
    exact trivial
  · intro u W' hf hn hb
    obtain ⟨g, hg1, hg2, hg3⟩ := hn 12 _ 8 rfl rfl
    have e1 := hf 13 7 rfl
    refine hQ u g W' hg2 hg3 hb.below ?_ e1
    have e2 : (putF u [some 30, some 31, some 32, some 33, some 34, some 35, some 36, some 37, some 29, some 38, some 39, some 8, none, some 7] 0 a0).eval (.tmp 8) = u 11 := by
      have hz : a0.tmps.size = 78 := hsz
      simp only [putF, Act.put, Act.eval]
      simp [hz]
    rw [← e2]
    exact hg1
end Go.Proofs.YtabiaeicejgeiaaGreatDoor
