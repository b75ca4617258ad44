/-
One act on both: a Reverse. Conditions: both ledgers are there, and stand apart.
do's look at an earlier line. Conditions: both ledgers are there.
The law's do, walked. Conditions: both ledgers are there, and stand apart; errors.errorType is laid.
-/
import Derived.Test.YtdnnkdldolhbpaaGreatDoorLrMX9
import Derived.Test.YtdnnkdldolhbpaaGreatDoorLedFX9
import Derived.Test.YtdnnkdldolhbpaaGreatDoorLedOX9
namespace Go.Proofs.YtdnnkdldolhbpaaGreatDoor
open Go.ChangeShapes Go.WideShapes Go.ChangeAt Go.RowKit Go.Maps

set_option maxRecDepth 100000 in
set_option maxHeartbeats 4000000 in
theorem pair_rev {Q : Exit → Act → World → Prop} {a0 : Act} (hsz : a0.tmps.size = 96) {w : World} (q X g base : Nat) (D E : Nat → Prop) (M : List Li) (y : Ky) (h0 : a0.eval (.tmp 0) = .pointer (some ⟨q, 0, none⟩)) (h1 : a0.eval (.tmp 1) = .pointer (some ⟨X, 0, none⟩)) (h5 : a0.eval (.tmp 5) = .pointer (some ⟨g, 0, none⟩))
    (hL : Led w q D M) (hR : RefL w X E M) (hd : ∀ i, D i → ¬ E i) (hM : M.length + 1 ≤ 1000000) (hy : y.In) (hK9 : ∀ {W}, (relC D X).r w W → (Instr.loadAt 33 (.pointer (some ⟨g, 1, none⟩))).run Tryz.prog W = .ok (.agg #[.int .u32 (y.a : Int), .int .i32 y.d, .int .u8 (y.k : Int), .int .u32 (y.s : Int)]) W)
    (hbase : ∀ i, D i ∨ i = X → i < base) (hbw : base ≤ w.heap.size) (hgl : Laid w) (hgD : ¬ (D 0 ∨ 0 = X))
    (hQ : ∀ (T : Array Value) w', T[6]? = some (.bool true) → Chg (fun i => D i ∨ i = X) w w' → (∃ D' E', Led w' q D' (afterRev M y) ∧ RefL w' X E' (afterRev M y) ∧ (∀ i, D' i → ¬ E' i) ∧ ∀ i, D' i → D i ∨ base ≤ i) → Q .normal ⟨T, a0.defers⟩ w') :
    (Code.region 5 [{ dst := some 31, op := Go.Op.move (Go.Operand.tmp 0), type := 24, pos := "law.go:54", after := #[], guard := none }, { dst := some 32, op := Go.Op.fieldAddr 36 (Go.Operand.tmp 5) 1, type := 0, pos := "law.go:54", after := #[], guard := none }, { dst := some 33, op := Go.Op.load 33 (Go.Operand.tmp 32), type := 33, pos := "law.go:54", after := #[{ on := 1, ground := Go.Ground.data }], guard := none }, { dst := some 34, op := Go.Op.call { callee := Go.Callee.value (Go.Operand.func 19), args := #[Go.Operand.tmp 31, Go.Operand.tmp 33], argTypes := #[24, 33] }, type := 57, pos := "law.go:54", after := #[{ on := 0, ground := Go.Ground.data }, { on := 2, ground := Go.Ground.data }], guard := none }, { dst := some 35, op := Go.Op.call { callee := Go.Callee.value (Go.Operand.func 18), args := #[Go.Operand.tmp 34], argTypes := #[57] }, type := 59, pos := "law.go:54", after := #[{ on := 3, ground := Go.Ground.data }, { on := 3, ground := Go.Ground.chain }], guard := none }, { dst := some 36, op := Go.Op.move (Go.Operand.tmp 1), type := 26, pos := "law.go:54", after := #[], guard := none }, { dst := some 37, op := Go.Op.fieldAddr 36 (Go.Operand.tmp 5) 1, type := 0, pos := "law.go:54", after := #[], guard := none }, { dst := some 38, op := Go.Op.load 33 (Go.Operand.tmp 37), type := 33, pos := "law.go:54", after := #[{ on := 6, ground := Go.Ground.data }], guard := none }, { dst := some 39, op := Go.Op.call { callee := Go.Callee.value (Go.Operand.func 27), args := #[Go.Operand.tmp 38], argTypes := #[33] }, type := 74, pos := "law.go:54", after := #[{ on := 7, ground := Go.Ground.data }, { on := 4, ground := Go.Ground.chain }], guard := none }, { dst := some 40, op := Go.Op.call { callee := Go.Callee.value (Go.Operand.func 26), args := #[Go.Operand.tmp 36, Go.Operand.tmp 39], argTypes := #[26, 74] }, type := 3, pos := "law.go:54", after := #[{ on := 5, ground := Go.Ground.data }, { on := 8, ground := Go.Ground.data }, { on := 8, ground := Go.Ground.chain }], guard := none }, { dst := some 41, op := Go.Op.binOp Go.BinOp.eql 3 (Go.Operand.tmp 35) (Go.Operand.tmp 40) 3, type := 4, pos := "law.go:54", after := #[{ on := 4, ground := Go.Ground.data }, { on := 9, ground := Go.Ground.data }], guard := none }, { dst := some 6, op := Go.Op.assign (Go.Operand.tmp 41), type := 4, pos := "law.go:54", after := #[{ on := 10, ground := Go.Ground.data }, { on := 9, ground := Go.Ground.chain }, { on := 0, ground := Go.Ground.phase }, { on := 1, ground := Go.Ground.phase }, { on := 2, ground := Go.Ground.phase }, { on := 3, ground := Go.Ground.phase }, { on := 4, ground := Go.Ground.phase }, { on := 5, ground := Go.Ground.phase }, { on := 6, ground := Go.Ground.phase }, { on := 7, ground := Go.Ground.phase }, { on := 8, ground := Go.Ground.phase }, { on := 9, ground := Go.Ground.phase }, { on := 10, ground := Go.Ground.phase }], guard := none }].toArray true).wp Tryz.prog Q a0 w := by
  have hF := hL.fine
  refine wp_region_flowI [some 31, some 32, some 33, some 34, some 35, some 36, some 37, some 38, some 39, some 40, some 41, some 6] (fun i => ([.is (.pointer (some ⟨q, 0, none⟩)), .is (.pointer (some ⟨g, 1, none⟩)), .is (.agg #[.int .u32 (y.a : Int), .int .i32 y.d, .int .u8 (y.k : Int), .int .u32 (y.s : Int)]), revF D X base hbase M y, .is (.int .i64 (codeRev M y : Int)), .is (.pointer (some ⟨X, 0, none⟩)), .is (.pointer (some ⟨g, 1, none⟩)), .is (.agg #[.int .u32 (y.a : Int), .int .i32 y.d, .int .u8 (y.k : Int), .int .u32 (y.s : Int)]), .is (.agg #[.int .u32 (y.a : Int), .int .i32 y.d, .int .u8 (y.k : Int), .int .u32 (y.s : Int)]), .is (.int .i64 (codeRev M y : Int)), .is (.bool true), .is (.bool true)] : List (FlwG (relC D X))).getD i .any) (Two base q X D E M (afterRev M y) 3 9) (by kernel_rfl) (by rw [hsz]; kernel_rfl) rfl ⟨D, E, fun _ => rfl, fun _ => rfl, hL.below (below_drewN (Below.refl _ _) 1), hR.below (below_drewN (Below.refl _ _) 1), hd, fun i hi => .inl hi, hbw, fun i hi => .inl hi⟩ ?_ ?_
  · have hGW : ∀ {W}, (relC D X).r w W → Laid W := fun hr => hgl.chg hr hgD
    have hBW : ∀ {W}, (relC D X).r w W → base ≤ W.heap.size := fun hr => Nat.le_trans hbw (Chg.size hr)
    have hoth : ∀ {S} {W W' : World} (i : Nat), Two base q X D E M (afterRev M y) 3 9 S W → 3 ≠ i → 9 ≠ i → Below W.heap.size W W' → (relC D X).r W W' ∧ Two base q X D E M (afterRev M y) 3 9 (putS S i) W' := fun i h h1 h2 hb => ⟨Chg.of_below hb, h.other h1 h2 hb⟩
    refine ⟨step_freeI rfl (fun aF wF S hs hr hS hI => ?_), ?_⟩
    · obtain ⟨x0, -⟩ := hs
      exact opC_move (Eq.trans x0 h0) ⟨rfl, hoth 0 hI (by decide) (by decide) (below_same wF)⟩
    refine ⟨step_freeI rfl (fun aF wF S hs hr hS hI => ?_), ?_⟩
    · obtain ⟨x0, -⟩ := hs
      have e0 : aF.eval (.tmp 5) = .pointer (some ⟨g, 0, none⟩) := Eq.trans x0 h5
      refine opC_value (v := .pointer (some ⟨g, 1, none⟩)) ?_ ⟨rfl, hoth 1 hI (by decide) (by decide) (below_same wF)⟩
      have t0 := ev_of e0
      go_simp
    refine ⟨step_freeI rfl (fun aF wF S hs hr hS hI => ?_), ?_⟩
    · obtain ⟨x0, -⟩ := hs
      exact opC_load x0 (hK9 hr) ⟨rfl, hoth 2 hI (by decide) (by decide) (below_same wF)⟩
    refine ⟨step_freeI rfl (fun aF wF S hs hr hS hI => ?_), ?_⟩
    · obtain ⟨x0, x1, -⟩ := hs
      have e0 : aF.eval (.tmp 31) = .pointer (some ⟨q, 0, none⟩) := x0
      have e1 : aF.eval (.tmp 33) = .agg #[.int .u32 (y.a : Int), .int .i32 y.d, .int .u8 (y.k : Int), .int .u32 (y.s : Int)] := x1
      refine opC_callK (args := #[.pointer (some ⟨q, 0, none⟩), .agg #[.int .u32 (y.a : Int), .int .i32 y.d, .int .u8 (y.k : Int), .int .u32 (y.s : Int)]]) (enters_of Tryz.func19 (by kernel_rfl) rfl) (by simp [e0, e1]) ?_
      have hc := Rev_any q D M y hy wF (hI.led hS) (by omega)
      unfold Ky.v at hc
      refine hc.mono fun e w' hp => ?_
      have hpl := rev_led D hp
      have hch : (relC D X).r wF w' := by
        rcases hpl with ⟨h1, _⟩ | ⟨_, h2⟩
        · exact ⟨h1.os, h1.tape, h1.output, h1.size, fun i hi hd => h1.block i hi (fun h => hd (.inl h))⟩
        · exact Chg.of_below h2
      obtain ⟨v, rfl, hv⟩ := rev_is hp (hBW hr)
      exact ⟨v, rfl, hv, hch, hI.first (by decide) hS hpl⟩
    refine ⟨step_freeI rfl (fun aF wF S hs hr hS hI => ?_), ?_⟩
    · obtain ⟨x0, -⟩ := hs
      have x0 : RevIs base M y (aF.eval (.tmp 34)) wF := x0
      exact opC_callK (args := #[aF.eval (.tmp 34)]) (enters_of Tryz.func18 (by kernel_rfl) rfl) (by simp) ((code_rev x0 (hGW hr)).mono fun e w' h => ⟨_, h.1, rfl, hoth 4 hI (by decide) (by decide) h.2⟩)
    refine ⟨step_freeI rfl (fun aF wF S hs hr hS hI => ?_), ?_⟩
    · obtain ⟨x0, -⟩ := hs
      exact opC_move (Eq.trans x0 h1) ⟨rfl, hoth 5 hI (by decide) (by decide) (below_same wF)⟩
    refine ⟨step_freeI rfl (fun aF wF S hs hr hS hI => ?_), ?_⟩
    · obtain ⟨x0, -⟩ := hs
      have e0 : aF.eval (.tmp 5) = .pointer (some ⟨g, 0, none⟩) := Eq.trans x0 h5
      refine opC_value (v := .pointer (some ⟨g, 1, none⟩)) ?_ ⟨rfl, hoth 6 hI (by decide) (by decide) (below_same wF)⟩
      have t0 := ev_of e0
      go_simp
    refine ⟨step_freeI rfl (fun aF wF S hs hr hS hI => ?_), ?_⟩
    · obtain ⟨x0, -⟩ := hs
      exact opC_load x0 (hK9 hr) ⟨rfl, hoth 7 hI (by decide) (by decide) (below_same wF)⟩
    refine ⟨step_freeI rfl (fun aF wF S hs hr hS hI => ?_), ?_⟩
    · obtain ⟨x0, -⟩ := hs
      have e0 : aF.eval (.tmp 38) = .agg #[.int .u32 (y.a : Int), .int .i32 y.d, .int .u8 (y.k : Int), .int .u32 (y.s : Int)] := x0
      have hc := Key_any y wF
      unfold Ky.v at hc
      exact opC_callK (args := #[.agg #[.int .u32 (y.a : Int), .int .i32 y.d, .int .u8 (y.k : Int), .int .u32 (y.s : Int)]]) (enters_of Tryz.func27 (by kernel_rfl) rfl) (by simp [e0]) (hc.mono fun e w' h => ⟨_, h.1, rfl, hoth 8 hI (by decide) (by decide) h.2⟩)
    refine ⟨step_freeI rfl (fun aF wF S hs hr hS hI => ?_), ?_⟩
    · obtain ⟨x0, x1, -⟩ := hs
      have e0 : aF.eval (.tmp 36) = .pointer (some ⟨X, 0, none⟩) := x0
      have e1 : aF.eval (.tmp 39) = .agg #[.int .u32 (y.a : Int), .int .i32 y.d, .int .u8 (y.k : Int), .int .u32 (y.s : Int)] := x1
      refine opC_callK (args := #[.pointer (some ⟨X, 0, none⟩), .agg #[.int .u32 (y.a : Int), .int .i32 y.d, .int .u8 (y.k : Int), .int .u32 (y.s : Int)]]) (enters_of Tryz.func26 (by kernel_rfl) rfl) (by simp [e0, e1]) ?_
      have hc := RRev_any X E M y hy wF (hI.ref hS) (hF.tame (by omega)) hM
      unfold Ky.v at hc
      refine hc.mono fun e w' hp => ?_
      obtain ⟨h1, h2⟩ := rev_ref hF hp
      refine ⟨_, h1, rfl, ?_, hI.second (G := fun _ => False) (by decide) hS (fun j hj => hj.elim) ?_⟩
      · rcases h2 with ⟨k1, _⟩ | ⟨_, k2⟩
        · exact ⟨k1.os, k1.tape, k1.output, k1.size, fun i hi hd => k1.block i hi (fun h => hd (.inr h))⟩
        · exact Chg.of_below k2
      · rcases h2 with ⟨k1, E2, k2, k3⟩ | k2
        · exact .inl ⟨k1, E2, k2, fun i hi => (k3 i hi).elim (fun h => .inl (.inl h)) .inr⟩
        · exact .inr k2
    refine ⟨step_freeI rfl (fun aF wF S hs hr hS hI => ?_), ?_⟩
    · obtain ⟨x0, x1, -⟩ := hs
      have e0 : aF.eval (.tmp 35) = .int .i64 (codeRev M y : Int) := x0
      have e1 : aF.eval (.tmp 40) = .int .i64 (codeRev M y : Int) := x1
      refine opC_value (v := .bool true) ?_ ⟨rfl, hoth 10 hI (by decide) (by decide) (below_same wF)⟩
      have t0 := ev_of e0
      have t1 := ev_of e1
      simp [execOp, go_sem, t0, t1]
    refine ⟨step_freeI rfl (fun aF wF S hs hr hS hI => ?_), ?_⟩
    · obtain ⟨x0, -⟩ := hs
      have e0 : aF.eval (.tmp 41) = .bool true := x0
      exact opC_assign e0 ⟨rfl, hoth 11 hI (by decide) (by decide) (below_same wF)⟩
    exact trivial
  · intro f w' S hf hr hS hI
    have h6 := hf 11 6 rfl
    have h1 := putF_size f [some 31, some 32, some 33, some 34, some 35, some 36, some 37, some 38, some 39, some 40, some 41, some 6] 0 a0
    have h2 := putF_new f [some 31, some 32, some 33, some 34, some 35, some 36, some 37, some 38, some 39, some 40, some 41, some 6] 0 a0 6 11 (by rw [hsz]; decide) rfl (uniq_at (by kernel_rfl))
    rw [Nat.zero_add, show f 11 = .bool true from h6] at h2
    obtain ⟨A, hA⟩ : ∃ A, putF f [some 31, some 32, some 33, some 34, some 35, some 36, some 37, some 38, some 39, some 40, some 41, some 6] 0 a0 = A := ⟨_, rfl⟩
    rw [hA] at h1 h2 ⊢
    obtain ⟨T, Ed⟩ := A
    have h3 := h1.2
    simp only at h3
    subst h3
    exact hQ T w' h2 hr (hI.last (hS 3 (by decide)) (hS 9 (by decide)))
set_option maxRecDepth 100000 in
set_option maxHeartbeats 4000000 in
theorem pair_back {Q : Exit → Act → World → Prop} {a0 : Act} (hsz : a0.tmps.size = 96) {w : World} (q X g base : Nat) (D E : Nat → Prop) (M : List Li) (y : Ky) (h0 : a0.eval (.tmp 0) = .pointer (some ⟨q, 0, none⟩)) (h1 : a0.eval (.tmp 1) = .pointer (some ⟨X, 0, none⟩)) (h8 : a0.eval (.tmp 8) = .pointer (some ⟨g, 0, none⟩))
    (hL : Led w q D M) (hR : RefL w X E M) (hd : ∀ i, D i → ¬ E i) (hM : M.length + 1 ≤ 1000000) (hy : y.In) (hK9 : ∀ {W}, (relC D X).r w W → (Instr.loadAt 33 (.pointer (some ⟨g, 0, none⟩))).run Tryz.prog W = .ok (.agg #[.int .u32 (y.a : Int), .int .i32 y.d, .int .u8 (y.k : Int), .int .u32 (y.s : Int)]) W)
    (hbase : ∀ i, D i ∨ i = X → i < base) (hbw : base ≤ w.heap.size) (hgl : Laid w) (hgD : ¬ (D 0 ∨ 0 = X))
    (hQ : ∀ (T : Array Value) w', T[6]? = some (.bool true) → Chg (fun i => D i ∨ i = X) w w' → (∃ D' E', Led w' q D' (afterRev M y) ∧ RefL w' X E' (afterRev M y) ∧ (∀ i, D' i → ¬ E' i) ∧ ∀ i, D' i → D i ∨ base ≤ i) → Q .normal ⟨T, a0.defers⟩ w') :
    (Code.region 10 [{ dst := some 64, op := Go.Op.move (Go.Operand.tmp 0), type := 24, pos := "law.go:60", after := #[], guard := none }, { dst := some 65, op := Go.Op.fieldAddr 42 (Go.Operand.tmp 8) 0, type := 0, pos := "law.go:60", after := #[], guard := none }, { dst := some 66, op := Go.Op.fieldAddr 40 (Go.Operand.tmp 65) 0, type := 0, pos := "law.go:60", after := #[{ on := 1, ground := Go.Ground.data }], guard := none }, { dst := some 67, op := Go.Op.load 33 (Go.Operand.tmp 66), type := 33, pos := "law.go:60", after := #[{ on := 2, ground := Go.Ground.data }], guard := none }, { dst := some 68, op := Go.Op.call { callee := Go.Callee.value (Go.Operand.func 19), args := #[Go.Operand.tmp 64, Go.Operand.tmp 67], argTypes := #[24, 33] }, type := 57, pos := "law.go:60", after := #[{ on := 0, ground := Go.Ground.data }, { on := 3, ground := Go.Ground.data }], guard := none }, { dst := some 69, op := Go.Op.call { callee := Go.Callee.value (Go.Operand.func 18), args := #[Go.Operand.tmp 68], argTypes := #[57] }, type := 59, pos := "law.go:60", after := #[{ on := 4, ground := Go.Ground.data }, { on := 4, ground := Go.Ground.chain }], guard := none }, { dst := some 70, op := Go.Op.move (Go.Operand.tmp 1), type := 26, pos := "law.go:60", after := #[], guard := none }, { dst := some 71, op := Go.Op.fieldAddr 42 (Go.Operand.tmp 8) 0, type := 0, pos := "law.go:60", after := #[], guard := none }, { dst := some 72, op := Go.Op.fieldAddr 40 (Go.Operand.tmp 71) 0, type := 0, pos := "law.go:60", after := #[{ on := 7, ground := Go.Ground.data }], guard := none }, { dst := some 73, op := Go.Op.load 33 (Go.Operand.tmp 72), type := 33, pos := "law.go:60", after := #[{ on := 8, ground := Go.Ground.data }], guard := none }, { dst := some 74, op := Go.Op.call { callee := Go.Callee.value (Go.Operand.func 27), args := #[Go.Operand.tmp 73], argTypes := #[33] }, type := 74, pos := "law.go:60", after := #[{ on := 9, ground := Go.Ground.data }, { on := 5, ground := Go.Ground.chain }], guard := none }, { dst := some 75, op := Go.Op.call { callee := Go.Callee.value (Go.Operand.func 26), args := #[Go.Operand.tmp 70, Go.Operand.tmp 74], argTypes := #[26, 74] }, type := 3, pos := "law.go:60", after := #[{ on := 6, ground := Go.Ground.data }, { on := 10, ground := Go.Ground.data }, { on := 10, ground := Go.Ground.chain }], guard := none }, { dst := some 76, op := Go.Op.binOp Go.BinOp.eql 3 (Go.Operand.tmp 69) (Go.Operand.tmp 75) 3, type := 4, pos := "law.go:60", after := #[{ on := 5, ground := Go.Ground.data }, { on := 11, ground := Go.Ground.data }], guard := none }, { dst := some 6, op := Go.Op.assign (Go.Operand.tmp 76), type := 4, pos := "law.go:60", after := #[{ on := 12, ground := Go.Ground.data }, { on := 11, ground := Go.Ground.chain }, { on := 0, ground := Go.Ground.phase }, { on := 1, ground := Go.Ground.phase }, { on := 2, ground := Go.Ground.phase }, { on := 3, ground := Go.Ground.phase }, { on := 4, ground := Go.Ground.phase }, { on := 5, ground := Go.Ground.phase }, { on := 6, ground := Go.Ground.phase }, { on := 7, ground := Go.Ground.phase }, { on := 8, ground := Go.Ground.phase }, { on := 9, ground := Go.Ground.phase }, { on := 10, ground := Go.Ground.phase }, { on := 11, ground := Go.Ground.phase }, { on := 12, ground := Go.Ground.phase }], guard := none }].toArray true).wp Tryz.prog Q a0 w := by
  have hF := hL.fine
  refine wp_region_flowI [some 64, some 65, some 66, some 67, some 68, some 69, some 70, some 71, some 72, some 73, some 74, some 75, some 76, some 6] (fun i => ([.is (.pointer (some ⟨q, 0, none⟩)), .is (.pointer (some ⟨g, 0, none⟩)), .is (.pointer (some ⟨g, 0, none⟩)), .is (.agg #[.int .u32 (y.a : Int), .int .i32 y.d, .int .u8 (y.k : Int), .int .u32 (y.s : Int)]), revF D X base hbase M y, .is (.int .i64 (codeRev M y : Int)), .is (.pointer (some ⟨X, 0, none⟩)), .is (.pointer (some ⟨g, 0, none⟩)), .is (.pointer (some ⟨g, 0, none⟩)), .is (.agg #[.int .u32 (y.a : Int), .int .i32 y.d, .int .u8 (y.k : Int), .int .u32 (y.s : Int)]), .is (.agg #[.int .u32 (y.a : Int), .int .i32 y.d, .int .u8 (y.k : Int), .int .u32 (y.s : Int)]), .is (.int .i64 (codeRev M y : Int)), .is (.bool true), .is (.bool true)] : List (FlwG (relC D X))).getD i .any) (Two base q X D E M (afterRev M y) 4 11) (by kernel_rfl) (by rw [hsz]; kernel_rfl) rfl ⟨D, E, fun _ => rfl, fun _ => rfl, hL.below (below_drewN (Below.refl _ _) 1), hR.below (below_drewN (Below.refl _ _) 1), hd, fun i hi => .inl hi, hbw, fun i hi => .inl hi⟩ ?_ ?_
  · have hGW : ∀ {W}, (relC D X).r w W → Laid W := fun hr => hgl.chg hr hgD
    have hBW : ∀ {W}, (relC D X).r w W → base ≤ W.heap.size := fun hr => Nat.le_trans hbw (Chg.size hr)
    have hoth : ∀ {S} {W W' : World} (i : Nat), Two base q X D E M (afterRev M y) 4 11 S W → 4 ≠ i → 11 ≠ i → Below W.heap.size W W' → (relC D X).r W W' ∧ Two base q X D E M (afterRev M y) 4 11 (putS S i) W' := fun i h h1 h2 hb => ⟨Chg.of_below hb, h.other h1 h2 hb⟩
    refine ⟨step_freeI rfl (fun aF wF S hs hr hS hI => ?_), ?_⟩
    · obtain ⟨x0, -⟩ := hs
      exact opC_move (Eq.trans x0 h0) ⟨rfl, hoth 0 hI (by decide) (by decide) (below_same wF)⟩
    refine ⟨step_freeI rfl (fun aF wF S hs hr hS hI => ?_), ?_⟩
    · obtain ⟨x0, -⟩ := hs
      have e0 : aF.eval (.tmp 8) = .pointer (some ⟨g, 0, none⟩) := Eq.trans x0 h8
      refine opC_value (v := .pointer (some ⟨g, 0, none⟩)) ?_ ⟨rfl, hoth 1 hI (by decide) (by decide) (below_same wF)⟩
      have t0 := ev_of e0
      go_simp
    refine ⟨step_freeI rfl (fun aF wF S hs hr hS hI => ?_), ?_⟩
    · obtain ⟨x0, -⟩ := hs
      have e0 : aF.eval (.tmp 65) = .pointer (some ⟨g, 0, none⟩) := x0
      refine opC_value (v := .pointer (some ⟨g, 0, none⟩)) ?_ ⟨rfl, hoth 2 hI (by decide) (by decide) (below_same wF)⟩
      have t0 := ev_of e0
      go_simp
    refine ⟨step_freeI rfl (fun aF wF S hs hr hS hI => ?_), ?_⟩
    · obtain ⟨x0, -⟩ := hs
      exact opC_load x0 (hK9 hr) ⟨rfl, hoth 3 hI (by decide) (by decide) (below_same wF)⟩
    refine ⟨step_freeI rfl (fun aF wF S hs hr hS hI => ?_), ?_⟩
    · obtain ⟨x0, x1, -⟩ := hs
      have e0 : aF.eval (.tmp 64) = .pointer (some ⟨q, 0, none⟩) := x0
      have e1 : aF.eval (.tmp 67) = .agg #[.int .u32 (y.a : Int), .int .i32 y.d, .int .u8 (y.k : Int), .int .u32 (y.s : Int)] := x1
      refine opC_callK (args := #[.pointer (some ⟨q, 0, none⟩), .agg #[.int .u32 (y.a : Int), .int .i32 y.d, .int .u8 (y.k : Int), .int .u32 (y.s : Int)]]) (enters_of Tryz.func19 (by kernel_rfl) rfl) (by simp [e0, e1]) ?_
      have hc := Rev_any q D M y hy wF (hI.led hS) (by omega)
      unfold Ky.v at hc
      refine hc.mono fun e w' hp => ?_
      have hpl := rev_led D hp
      have hch : (relC D X).r wF w' := by
        rcases hpl with ⟨h1, _⟩ | ⟨_, h2⟩
        · exact ⟨h1.os, h1.tape, h1.output, h1.size, fun i hi hd => h1.block i hi (fun h => hd (.inl h))⟩
        · exact Chg.of_below h2
      obtain ⟨v, rfl, hv⟩ := rev_is hp (hBW hr)
      exact ⟨v, rfl, hv, hch, hI.first (by decide) hS hpl⟩
    refine ⟨step_freeI rfl (fun aF wF S hs hr hS hI => ?_), ?_⟩
    · obtain ⟨x0, -⟩ := hs
      have x0 : RevIs base M y (aF.eval (.tmp 68)) wF := x0
      exact opC_callK (args := #[aF.eval (.tmp 68)]) (enters_of Tryz.func18 (by kernel_rfl) rfl) (by simp) ((code_rev x0 (hGW hr)).mono fun e w' h => ⟨_, h.1, rfl, hoth 5 hI (by decide) (by decide) h.2⟩)
    refine ⟨step_freeI rfl (fun aF wF S hs hr hS hI => ?_), ?_⟩
    · obtain ⟨x0, -⟩ := hs
      exact opC_move (Eq.trans x0 h1) ⟨rfl, hoth 6 hI (by decide) (by decide) (below_same wF)⟩
    refine ⟨step_freeI rfl (fun aF wF S hs hr hS hI => ?_), ?_⟩
    · obtain ⟨x0, -⟩ := hs
      have e0 : aF.eval (.tmp 8) = .pointer (some ⟨g, 0, none⟩) := Eq.trans x0 h8
      refine opC_value (v := .pointer (some ⟨g, 0, none⟩)) ?_ ⟨rfl, hoth 7 hI (by decide) (by decide) (below_same wF)⟩
      have t0 := ev_of e0
      go_simp
    refine ⟨step_freeI rfl (fun aF wF S hs hr hS hI => ?_), ?_⟩
    · obtain ⟨x0, -⟩ := hs
      have e0 : aF.eval (.tmp 71) = .pointer (some ⟨g, 0, none⟩) := x0
      refine opC_value (v := .pointer (some ⟨g, 0, none⟩)) ?_ ⟨rfl, hoth 8 hI (by decide) (by decide) (below_same wF)⟩
      have t0 := ev_of e0
      go_simp
    refine ⟨step_freeI rfl (fun aF wF S hs hr hS hI => ?_), ?_⟩
    · obtain ⟨x0, -⟩ := hs
      exact opC_load x0 (hK9 hr) ⟨rfl, hoth 9 hI (by decide) (by decide) (below_same wF)⟩
    refine ⟨step_freeI rfl (fun aF wF S hs hr hS hI => ?_), ?_⟩
    · obtain ⟨x0, -⟩ := hs
      have e0 : aF.eval (.tmp 73) = .agg #[.int .u32 (y.a : Int), .int .i32 y.d, .int .u8 (y.k : Int), .int .u32 (y.s : Int)] := x0
      have hc := Key_any y wF
      unfold Ky.v at hc
      exact opC_callK (args := #[.agg #[.int .u32 (y.a : Int), .int .i32 y.d, .int .u8 (y.k : Int), .int .u32 (y.s : Int)]]) (enters_of Tryz.func27 (by kernel_rfl) rfl) (by simp [e0]) (hc.mono fun e w' h => ⟨_, h.1, rfl, hoth 10 hI (by decide) (by decide) h.2⟩)
    refine ⟨step_freeI rfl (fun aF wF S hs hr hS hI => ?_), ?_⟩
    · obtain ⟨x0, x1, -⟩ := hs
      have e0 : aF.eval (.tmp 70) = .pointer (some ⟨X, 0, none⟩) := x0
      have e1 : aF.eval (.tmp 74) = .agg #[.int .u32 (y.a : Int), .int .i32 y.d, .int .u8 (y.k : Int), .int .u32 (y.s : Int)] := x1
      refine opC_callK (args := #[.pointer (some ⟨X, 0, none⟩), .agg #[.int .u32 (y.a : Int), .int .i32 y.d, .int .u8 (y.k : Int), .int .u32 (y.s : Int)]]) (enters_of Tryz.func26 (by kernel_rfl) rfl) (by simp [e0, e1]) ?_
      have hc := RRev_any X E M y hy wF (hI.ref hS) (hF.tame (by omega)) hM
      unfold Ky.v at hc
      refine hc.mono fun e w' hp => ?_
      obtain ⟨h1, h2⟩ := rev_ref hF hp
      refine ⟨_, h1, rfl, ?_, hI.second (G := fun _ => False) (by decide) hS (fun j hj => hj.elim) ?_⟩
      · rcases h2 with ⟨k1, _⟩ | ⟨_, k2⟩
        · exact ⟨k1.os, k1.tape, k1.output, k1.size, fun i hi hd => k1.block i hi (fun h => hd (.inr h))⟩
        · exact Chg.of_below k2
      · rcases h2 with ⟨k1, E2, k2, k3⟩ | k2
        · exact .inl ⟨k1, E2, k2, fun i hi => (k3 i hi).elim (fun h => .inl (.inl h)) .inr⟩
        · exact .inr k2
    refine ⟨step_freeI rfl (fun aF wF S hs hr hS hI => ?_), ?_⟩
    · obtain ⟨x0, x1, -⟩ := hs
      have e0 : aF.eval (.tmp 69) = .int .i64 (codeRev M y : Int) := x0
      have e1 : aF.eval (.tmp 75) = .int .i64 (codeRev M y : Int) := x1
      refine opC_value (v := .bool true) ?_ ⟨rfl, hoth 12 hI (by decide) (by decide) (below_same wF)⟩
      have t0 := ev_of e0
      have t1 := ev_of e1
      simp [execOp, go_sem, t0, t1]
    refine ⟨step_freeI rfl (fun aF wF S hs hr hS hI => ?_), ?_⟩
    · obtain ⟨x0, -⟩ := hs
      have e0 : aF.eval (.tmp 76) = .bool true := x0
      exact opC_assign e0 ⟨rfl, hoth 13 hI (by decide) (by decide) (below_same wF)⟩
    exact trivial
  · intro f w' S hf hr hS hI
    have h6 := hf 13 6 rfl
    have h1 := putF_size f [some 64, some 65, some 66, some 67, some 68, some 69, some 70, some 71, some 72, some 73, some 74, some 75, some 76, some 6] 0 a0
    have h2 := putF_new f [some 64, some 65, some 66, some 67, some 68, some 69, some 70, some 71, some 72, some 73, some 74, some 75, some 76, some 6] 0 a0 6 13 (by rw [hsz]; decide) rfl (uniq_at (by kernel_rfl))
    rw [Nat.zero_add, show f 13 = .bool true from h6] at h2
    obtain ⟨A, hA⟩ : ∃ A, putF f [some 64, some 65, some 66, some 67, some 68, some 69, some 70, some 71, some 72, some 73, some 74, some 75, some 76, some 6] 0 a0 = A := ⟨_, rfl⟩
    rw [hA] at h1 h2 ⊢
    obtain ⟨T, Ed⟩ := A
    have h3 := h1.2
    simp only at h3
    subst h3
    exact hQ T w' h2 hr (hI.last (hS 4 (by decide)) (hS 11 (by decide)))
end Go.Proofs.YtdnnkdldolhbpaaGreatDoor
namespace Go.Proofs.YtdnnkdldolhbpaaGreatDoor
open Go.ChangeShapes Go.WideShapes Go.ChangeAt Go.RowKit Go.Maps

def turnP (Z : Obj) (C : Obj → Prop) : Turn := ⟨fun o o' => o' = o ∨ ((o = Z ∨ C o) ∧ C o'), fun _ => .inl rfl, fun {a b c} h1 h2 => by
  rcases h1 with rfl | ⟨h3, h4⟩
  · exact h2
  · rcases h2 with rfl | ⟨_, h5⟩
    · exact .inr ⟨h3, h4⟩
    · exact .inr ⟨h3, h5⟩⟩
theorem turn_P {Z : Obj} {C : Obj → Prop} {o o' : Obj} (h : o = Z ∨ C o) (h' : C o') : (turnP Z C).s o o' := .inr ⟨h, h'⟩
def newP (base : Nat) (Z : Obj) (C : Obj → Prop) : FlwG (relT base (turnP Z C)) := ⟨fun v w => ∃ g, v = .pointer (some ⟨g, 0, none⟩) ∧ base ≤ g ∧ ∃ o, w.heap[g]? = some o ∧ (o = Z ∨ C o), fun {_ w w'} ⟨g, h1, h2, o, h3, h4⟩ hb => by
  obtain ⟨o', h5, h6⟩ := hb.turn g o h3
  refine ⟨g, h1, h2, o', h5, ?_⟩
  rcases h6 with rfl | ⟨_, h7⟩
  · exact h4
  · exact .inr h7⟩
def doneP (base : Nat) (Z : Obj) (C : Obj → Prop) : FlwG (relT base (turnP Z C)) := ⟨fun v w => ∃ g, v = .pointer (some ⟨g, 0, none⟩) ∧ base ≤ g ∧ ∃ o, w.heap[g]? = some o ∧ C o, fun {_ w w'} ⟨g, h1, h2, o, h3, h4⟩ hb => by
  obtain ⟨o', h5, h6⟩ := hb.turn g o h3
  refine ⟨g, h1, h2, o', h5, ?_⟩
  rcases h6 with rfl | ⟨_, h7⟩
  · exact h4
  · exact h7⟩
def zLine : Obj := .cells #[.int .u32 0, .int .i32 0, .int .u8 0, .int .u32 0, .slice none 0 0, .int .i64 0] 42 (0, 0)
def isLine (x : Li) (o : Obj) : Prop := ∃ v, o = .cells #[.int .u32 (x.y.a : Int), .int .i32 x.y.d, .int .u8 (x.y.k : Int), .int .u32 (x.y.s : Int), v, .int .i64 (x.o : Int)] 42 (0, 0)
def tupF {R : Rel} (x : Li) : FlwG R := ⟨fun v _ => ∃ A c, v = .tuple #[linW x.y (.slice A x.l.length c) x.o, .bool true], fun h _ => h⟩
def linF {R : Rel} (x : Li) : FlwG R := ⟨fun v _ => ∃ A c, v = linW x.y (.slice A x.l.length c) x.o, fun h _ => h⟩
set_option maxRecDepth 100000 in
set_option maxHeartbeats 4000000 in
theorem back_line {Q : Exit → Act → World → Prop} {a0 : Act} (hsz : a0.tmps.size = 96) {w : World} (q X g bk : Nat) (D E : Nat → Prop) (M : List Li) (x : Li) (h0 : a0.eval (.tmp 0) = .pointer (some ⟨q, 0, none⟩)) (h1 : a0.eval (.tmp 1) = .pointer (some ⟨X, 0, none⟩)) (h5 : a0.eval (.tmp 5) = .pointer (some ⟨g, 0, none⟩))
    (hL : Led w q D M) (hR : RefL w X E M) (hM : M.length ≤ 1000000) (hM0 : 0 < M.length) (hbk : bk < 256) (hx : M[bk % M.length]? = some x) (hB : ∀ W', Below w.heap.size w W' → (Instr.loadAt 5 (.pointer (some ⟨g, 7, none⟩))).run Tryz.prog W' = .ok (.int .u8 (bk : Int)) W')
    (hQ : ∀ (u : Nat → Value) w' gb v, u 14 = .pointer (some ⟨gb, 0, none⟩) → w.heap.size ≤ gb → Blk w' gb 42 #[.int .u32 (x.y.a : Int), .int .i32 x.y.d, .int .u8 (x.y.k : Int), .int .u32 (x.y.s : Int), v, .int .i64 (x.o : Int)] → Below w.heap.size w w' → Q .normal (putF u [some 51, some 52, some 53, some 54, some 55, some 56, some 57, some 58, some 59, some 60, some 61, some 50, some 62, some 63, some 8, none, some 9] 0 a0) w') :
    (Code.region 9 [{ dst := some 51, op := Go.Op.move (Go.Operand.tmp 0), type := 24, pos := "law.go:59", after := #[], guard := none }, { dst := some 52, op := Go.Op.fieldAddr 36 (Go.Operand.tmp 5) 4, type := 0, pos := "law.go:59", after := #[], guard := none }, { dst := some 53, op := Go.Op.load 5 (Go.Operand.tmp 52), type := 5, pos := "law.go:59", after := #[{ on := 1, ground := Go.Ground.data }], guard := none }, { dst := some 54, op := Go.Op.convert 5 3 (Go.Operand.tmp 53), type := 3, pos := "law.go:59", after := #[{ on := 2, ground := Go.Ground.data }], guard := none }, { dst := some 55, op := Go.Op.move (Go.Operand.tmp 1), type := 26, pos := "law.go:59", after := #[], guard := none }, { dst := some 56, op := Go.Op.nilCheck (Go.Operand.tmp 55), type := 0, pos := "law.go:59", after := #[{ on := 4, ground := Go.Ground.data }], guard := none }, { dst := some 57, op := Go.Op.fieldAddr 29 (Go.Operand.tmp 56) 0, type := 0, pos := "law.go:59", after := #[{ on := 5, ground := Go.Ground.data }], guard := none }, { dst := some 58, op := Go.Op.load 27 (Go.Operand.tmp 57), type := 27, pos := "law.go:59", after := #[{ on := 6, ground := Go.Ground.data }], guard := none }, { dst := some 59, op := Go.Op.call { callee := Go.Callee.builtin Go.Builtin.len, args := #[Go.Operand.tmp 58], argTypes := #[27] }, type := 3, pos := "law.go:59", after := #[{ on := 7, ground := Go.Ground.data }], guard := none }, { dst := some 60, op := Go.Op.binOp Go.BinOp.rem 3 (Go.Operand.tmp 54) (Go.Operand.tmp 59) 3, type := 3, pos := "law.go:59", after := #[{ on := 3, ground := Go.Ground.data }, { on := 8, ground := Go.Ground.data }], guard := none }, { dst := some 61, op := Go.Op.call { callee := Go.Callee.value (Go.Operand.func 12), args := #[Go.Operand.tmp 51, Go.Operand.tmp 60], argTypes := #[24, 3] }, type := 43, pos := "law.go:59", after := #[{ on := 0, ground := Go.Ground.data }, { on := 9, ground := Go.Ground.data }], guard := none }, { dst := some 50, op := Go.Op.move (Go.Operand.tmp 61), type := 43, pos := "law.go:59", after := #[{ on := 10, ground := Go.Ground.data }], guard := none }, { dst := some 62, op := Go.Op.extract (Go.Operand.tmp 50) 0, type := 42, pos := "law.go:59", after := #[{ on := 11, ground := Go.Ground.data }], guard := none }, { dst := some 63, op := Go.Op.extract (Go.Operand.tmp 50) 1, type := 4, pos := "law.go:59", after := #[{ on := 11, ground := Go.Ground.data }, { on := 15, ground := Go.Ground.gcOnly Go.Departure.lateStores }], guard := none }, { dst := some 8, op := Go.Op.alloc 42, type := 0, pos := "law.go:59", after := #[], guard := none }, { dst := none, op := Go.Op.store 42 (Go.Operand.tmp 8) (Go.Operand.tmp 62), type := 0, pos := "law.go:59", after := #[{ on := 14, ground := Go.Ground.data }, { on := 12, ground := Go.Ground.data }, { on := 10, ground := Go.Ground.chain }, { on := 0, ground := Go.Ground.phase }, { on := 1, ground := Go.Ground.phase }, { on := 2, ground := Go.Ground.phase }, { on := 3, ground := Go.Ground.phase }, { on := 4, ground := Go.Ground.phase }, { on := 5, ground := Go.Ground.phase }, { on := 6, ground := Go.Ground.phase }, { on := 7, ground := Go.Ground.phase }, { on := 8, ground := Go.Ground.phase }, { on := 9, ground := Go.Ground.phase }, { on := 10, ground := Go.Ground.phase }, { on := 11, ground := Go.Ground.phase }, { on := 12, ground := Go.Ground.phase }, { on := 13, ground := Go.Ground.textOnly Go.Departure.lateStores }, { on := 14, ground := Go.Ground.phase }], guard := none }, { dst := some 9, op := Go.Op.assign (Go.Operand.tmp 63), type := 4, pos := "law.go:59", after := #[{ on := 13, ground := Go.Ground.data }, { on := 15, ground := Go.Ground.chain }, { on := 0, ground := Go.Ground.phase }, { on := 1, ground := Go.Ground.phase }, { on := 2, ground := Go.Ground.phase }, { on := 3, ground := Go.Ground.phase }, { on := 4, ground := Go.Ground.phase }, { on := 5, ground := Go.Ground.phase }, { on := 6, ground := Go.Ground.phase }, { on := 7, ground := Go.Ground.phase }, { on := 8, ground := Go.Ground.phase }, { on := 9, ground := Go.Ground.phase }, { on := 10, ground := Go.Ground.phase }, { on := 11, ground := Go.Ground.phase }, { on := 12, ground := Go.Ground.phase }, { on := 13, ground := Go.Ground.phase }, { on := 14, ground := Go.Ground.phase }, { on := 15, ground := Go.Ground.phase }], guard := none }].toArray true).wp Tryz.prog Q a0 w := by
  have CL : ∀ W', Below w.heap.size w W' → Calls Tryz.prog 12 #[.pointer (some ⟨q, 0, none⟩), .int .i64 ((bk % M.length : Nat) : Int)] W' (LinePost (some x) W') := fun W' hb => by
    have hlt := Nat.mod_lt bk hM0
    have := Line_any q D M ((bk % M.length : Nat) : Int) (by omega) W' (hL.below hb) hM
    rw [if_neg (by omega), show (((bk % M.length : Nat) : Int)).toNat = bk % M.length from rfl, hx] at this
    exact this
  obtain ⟨A, cM, V, hX, hc, hm, hV, hE, hEl⟩ := hR
  have LX : ∀ W', Below w.heap.size w W' → (Instr.loadAt 27 (.pointer (some ⟨X, 0, none⟩))).run Tryz.prog W' = .ok (.slice A M.length cM) W' := fun W' hb => ledger_load14 (hX.below hb hX.lt)
  have hmn : ¬ M = [] := fun e => by rw [e] at hM0; simp at hM0
  have hbw : IntKind.i64.wrap (bk : Int) = (bk : Int) := by rw [IntKind.wrap_i64]; omega
  have hmod : Int.tmod (bk : Int) (M.length : Int) = ((bk % M.length : Nat) : Int) := by rw [Int.tmod_eq_emod_of_nonneg (by omega)]; rfl
  refine wp_region_flowG (R := relT w.heap.size (turnP zLine (isLine x))) [some 51, some 52, some 53, some 54, some 55, some 56, some 57, some 58, some 59, some 60, some 61, some 50, some 62, some 63, some 8, none, some 9] (fun i => ([.is (.pointer (some ⟨q, 0, none⟩)), .is (.pointer (some ⟨g, 7, none⟩)), .is (.int .u8 (bk : Int)), .is (.int .i64 (bk : Int)), .is (.pointer (some ⟨X, 0, none⟩)), .is (.pointer (some ⟨X, 0, none⟩)), .is (.pointer (some ⟨X, 0, none⟩)), .is (.slice A M.length cM), .is (.int .i64 (M.length : Int)), .is (.int .i64 ((bk % M.length : Nat) : Int)), tupF x, tupF x, linF x, .is (.bool true), newP w.heap.size zLine (isLine x), doneP w.heap.size zLine (isLine x), .is (.bool true)] : List (FlwG _)).getD i .any) (by kernel_rfl) (by rw [hsz]; kernel_rfl) rfl ?_ ?_
  · skip
    refine ⟨step_freeG rfl (fun aF wF hs hb => ?_), ?_⟩
    · obtain ⟨x0, -⟩ := hs
      have e0 : aF.eval (.tmp 0) = .pointer (some ⟨q, 0, none⟩) := Eq.trans x0 h0
      exact opC_move e0 ⟨rfl, (relT _ _).refl wF⟩
    refine ⟨step_freeG rfl (fun aF wF hs hb => ?_), ?_⟩
    · obtain ⟨x0, -⟩ := hs
      have e0 : aF.eval (.tmp 5) = .pointer (some ⟨g, 0, none⟩) := Eq.trans x0 h5
      refine opC_value (v := .pointer (some ⟨g, 7, none⟩)) ?_ ⟨rfl, (relT _ _).refl wF⟩
      have t0 := ev_of e0
      go_simp
    refine ⟨step_freeG rfl (fun aF wF hs hb => ?_), ?_⟩
    · obtain ⟨x0, -⟩ := hs
      have e0 : aF.eval (.tmp 52) = .pointer (some ⟨g, 7, none⟩) := x0
      exact opC_load e0 (hB wF (hb.below)) ⟨rfl, (relT _ _).refl wF⟩
    refine ⟨step_freeG rfl (fun aF wF hs hb => ?_), ?_⟩
    · obtain ⟨x0, -⟩ := hs
      have e0 : aF.eval (.tmp 53) = .int .u8 (bk : Int) := x0
      refine opC_value (v := .int .i64 (bk : Int)) ?_ ⟨rfl, (relT _ _).refl wF⟩
      have t0 := ev_of e0
      go_simp
    refine ⟨step_freeG rfl (fun aF wF hs hb => ?_), ?_⟩
    · obtain ⟨x0, -⟩ := hs
      have e0 : aF.eval (.tmp 1) = .pointer (some ⟨X, 0, none⟩) := Eq.trans x0 h1
      exact opC_move e0 ⟨rfl, (relT _ _).refl wF⟩
    refine ⟨step_freeG rfl (fun aF wF hs hb => ?_), ?_⟩
    · obtain ⟨x0, -⟩ := hs
      have e0 : aF.eval (.tmp 55) = .pointer (some ⟨X, 0, none⟩) := x0
      refine opC_value (v := .pointer (some ⟨X, 0, none⟩)) ?_ ⟨rfl, (relT _ _).refl wF⟩
      have t0 := ev_of e0
      go_simp
    refine ⟨step_freeG rfl (fun aF wF hs hb => ?_), ?_⟩
    · obtain ⟨x0, -⟩ := hs
      have e0 : aF.eval (.tmp 56) = .pointer (some ⟨X, 0, none⟩) := x0
      refine opC_value (v := .pointer (some ⟨X, 0, none⟩)) ?_ ⟨rfl, (relT _ _).refl wF⟩
      have t0 := ev_of e0
      go_simp
    refine ⟨step_freeG rfl (fun aF wF hs hb => ?_), ?_⟩
    · obtain ⟨x0, -⟩ := hs
      have e0 : aF.eval (.tmp 57) = .pointer (some ⟨X, 0, none⟩) := x0
      exact opC_load e0 (LX wF (hb.below)) ⟨rfl, (relT _ _).refl wF⟩
    refine ⟨step_freeG rfl (fun aF wF hs hb => ?_), ?_⟩
    · obtain ⟨x0, -⟩ := hs
      have e0 : aF.eval (.tmp 58) = .slice A M.length cM := x0
      refine opC_value (v := .int .i64 (M.length : Int)) ?_ ⟨rfl, (relT _ _).refl wF⟩
      have t0 := ev_of e0
      simp [go_sem, t0]
    refine ⟨step_freeG rfl (fun aF wF hs hb => ?_), ?_⟩
    · obtain ⟨x0, x1, -⟩ := hs
      have e0 : aF.eval (.tmp 54) = .int .i64 (bk : Int) := x0
      have e1 : aF.eval (.tmp 59) = .int .i64 (M.length : Int) := x1
      refine opC_value (v := .int .i64 ((bk % M.length : Nat) : Int)) ?_ ⟨rfl, (relT _ _).refl wF⟩
      have t0 := ev_of e0
      have t1 := ev_of e1
      simp [execOp, go_sem, t0, t1, hmod, hmn]
    refine ⟨step_freeG rfl (fun aF wF hs hb => ?_), ?_⟩
    · obtain ⟨x0, x1, -⟩ := hs
      have e0 : aF.eval (.tmp 51) = .pointer (some ⟨q, 0, none⟩) := x0
      have e1 : aF.eval (.tmp 60) = .int .i64 ((bk % M.length : Nat) : Int) := x1
      refine opC_callK (args := #[.pointer (some ⟨q, 0, none⟩), .int .i64 ((bk % M.length : Nat) : Int)]) (enters_of Tryz.func12 (by kernel_rfl) rfl) (by simp [e0, e1]) ((CL wF hb.below).mono fun e w' hp => ?_)
      obtain ⟨A2, c2, rfl, -, h3⟩ := hp
      exact ⟨_, rfl, ⟨A2, c2, rfl⟩, TurnR.of_below h3 hb.size⟩
    refine ⟨step_freeG rfl (fun aF wF hs hb => ?_), ?_⟩
    · obtain ⟨x0, -⟩ := hs
      exact opC_move rfl ⟨x0, (relT _ _).refl wF⟩
    refine ⟨step_freeG rfl (fun aF wF hs hb => ?_), ?_⟩
    · obtain ⟨x0, -⟩ := hs
      obtain ⟨A2, c2, hv⟩ : (tupF x : FlwG (relT w.heap.size (turnP zLine (isLine x)))).p (aF.eval (.tmp 50)) wF := x0
      refine opC_value (v := linW x.y (.slice A2 x.l.length c2) x.o) ?_ ⟨⟨A2, c2, rfl⟩, (relT _ _).refl wF⟩
      have t0 := ev_of hv
      simp [execOp, go_sem, t0]
    refine ⟨step_freeG rfl (fun aF wF hs hb => ?_), ?_⟩
    · obtain ⟨x0, -⟩ := hs
      obtain ⟨A2, c2, hv⟩ : (tupF x : FlwG (relT w.heap.size (turnP zLine (isLine x)))).p (aF.eval (.tmp 50)) wF := x0
      refine opC_value (v := .bool true) ?_ ⟨rfl, (relT _ _).refl wF⟩
      have t0 := ev_of hv
      simp [execOp, go_sem, t0]
    refine ⟨step_freeG rfl (fun aF wF hs hb => ?_), ?_⟩
    · refine opC_alloc (cs := #[.int .u32 0, .int .i32 0, .int .u8 0, .int .u32 0, .slice none 0 0, .int .i64 0]) (by go_simp) ⟨⟨wF.heap.size, rfl, hb.size, _, heap_alloc_new wF _, .inl rfl⟩, TurnR.of_below (b_alloc wF _) hb.size⟩
    refine ⟨step_freeG rfl (fun aF wF hs hb => ?_), ?_⟩
    · obtain ⟨x0, x1, -⟩ := hs
      obtain ⟨gg, hg1, hg2, ob, hg3, hg4⟩ : (newP w.heap.size zLine (isLine x)).p (aF.eval (.tmp 8)) wF := x0
      obtain ⟨A2, c2, hv⟩ : (linF x : FlwG (relT w.heap.size (turnP zLine (isLine x)))).p (aF.eval (.tmp 62)) wF := x1
      obtain ⟨cs, hcs, hc6⟩ : ∃ cs : Array Value, ob = .cells cs 42 (0, 0) ∧ cs.size = 6 := by
        rcases hg4 with rfl | ⟨v, rfl⟩
        · exact ⟨_, rfl, rfl⟩
        · exact ⟨_, rfl, rfl⟩
      subst hcs
      exact opC_store hg1 hv hg3 hc6 (by kernel_rfl) (by simp [Value.oneCell']) (fun w9 ho hv9 => ⟨⟨gg, hg1, hg2, _, hv9, ⟨_, rfl⟩⟩, TurnR.only ho hg2 hg3 hv9 (turn_P hg4 ⟨_, rfl⟩)⟩)
    refine ⟨step_freeG rfl (fun aF wF hs hb => ?_), ?_⟩
    · obtain ⟨x0, -⟩ := hs
      have e0 : aF.eval (.tmp 63) = .bool true := x0
      exact opC_assign e0 ⟨rfl, (relT _ _).refl wF⟩
    exact trivial
  · intro u w' hf hn hb
    obtain ⟨gb, g1, g2, ob, g3, v, rfl⟩ := hn 15 _ 8 rfl rfl
    have hu : (putF u [some 51, some 52, some 53, some 54, some 55, some 56, some 57, some 58, some 59, some 60, some 61, some 50, some 62, some 63, some 8, none, some 9] 0 a0).eval (.tmp 8) = u 14 := by
      have h2 := putF_new u [some 51, some 52, some 53, some 54, some 55, some 56, some 57, some 58, some 59, some 60, some 61, some 50, some 62, some 63, some 8, none, some 9] 0 a0 8 14 (by rw [hsz]; decide) rfl (uniq_at (by kernel_rfl))
      rw [Nat.zero_add] at h2
      unfold Act.eval
      simp [Array.getD_eq_getD_getElem?, h2]
    exact hQ u w' gb v (hu.symm.trans g1) g2 g3 hb.below
end Go.Proofs.YtdnnkdldolhbpaaGreatDoor
namespace Go.Proofs.YtdnnkdldolhbpaaGreatDoor
open Go.ChangeShapes Go.WideShapes Go.ChangeAt Go.RowKit Go.Maps

def actC (dd : Nat) (y : Ky) (v : Value) (raw : Bool) (bk : Nat) : Array Value := #[.int .u8 (dd : Int), .int .u32 (y.a : Int), .int .i32 y.d, .int .u8 (y.k : Int), .int .u32 (y.s : Int), v, .bool raw, .int .u8 (bk : Int)]
/-- A line that may come behind these. -/
def Goes (M : List Li) (x : Li) : Prop := (x.o = 0 ∧ liveL M x.y = none) ∨ ∃ i, x.o = i + 1 ∧ liveL M x.y = some i
def DoPost (q X : Nat) (D : Nat → Prop) (M : List Li) (w : World) (e : Ending) (w' : World) : Prop :=
  e = .returned (.bool true) ∧ Chg (fun i => D i ∨ i = X) w w' ∧ ∃ (M' : List Li) (D' E' : Nat → Prop), Led w' q D' M' ∧ RefL w' X E' M' ∧ (∀ i, D' i → ¬ E' i) ∧ (∀ i, D' i → D i ∨ w.heap.size ≤ i) ∧ (M' = M ∨ ∃ x, M' = M ++ [x] ∧ Goes M x ∧ x.y.a < 5)
theorem after_post (M : List Li) (y : Ky) (l : List (Nat × Int)) (hy : y.a < 5) : afterPost M y l = M ∨ ∃ x, afterPost M y l = M ++ [x] ∧ Goes M x ∧ x.y.a < 5 := by
  classical
  unfold afterPost
  split
  · rename_i h
    exact .inr ⟨_, rfl, .inl ⟨rfl, h.2.1⟩, hy⟩
  · exact .inl rfl
theorem after_rev (M : List Li) (y : Ky) (hy : y.a < 5) : afterRev M y = M ∨ ∃ x, afterRev M y = M ++ [x] ∧ Goes M x ∧ x.y.a < 5 := by
  classical
  unfold afterRev
  split
  · rename_i h
    have h2 : ∃ i, revOk M y i := by first | exact h | exact ⟨_, h⟩
    obtain ⟨i, hi⟩ := h2
    exact .inr ⟨_, rfl, .inr ⟨i, by simp [rev_at hi.1], hi.1⟩, hy⟩
  · exact .inl rfl
theorem act_key {w : World} {g : Nat} {c0 c1 c2 c3 c4 c5 c6 c7 : Value} (h : Blk w g 36 #[c0, c1, c2, c3, c4, c5, c6, c7]) : (Instr.loadAt 33 (.pointer (some ⟨g, 1, none⟩))).run Tryz.prog w = .ok (.agg #[c1, c2, c3, c4]) w := by
  have x1 := h.cell 1
  have x2 := h.cell 2
  have x3 := h.cell 3
  have x4 := h.cell 4
  simp at x1 x2 x3 x4
  go_simp
theorem line_key {w : World} {g : Nat} {c0 c1 c2 c3 c4 c5 : Value} (h : Blk w g 42 #[c0, c1, c2, c3, c4, c5]) : (Instr.loadAt 33 (.pointer (some ⟨g, 0, none⟩))).run Tryz.prog w = .ok (.agg #[c0, c1, c2, c3]) w := by
  have x0 := h.cell 0
  have x1 := h.cell 1
  have x2 := h.cell 2
  have x3 := h.cell 3
  simp at x0 x1 x2 x3
  go_simp
theorem act_u8 {w : World} {g : Nat} {c0 c1 c2 c3 c4 c5 c6 c7 : Value} (h : Blk w g 36 #[c0, c1, c2, c3, c4, c5, c6, c7]) : (Instr.loadAt 5 (.pointer (some ⟨g, 7, none⟩))).run Tryz.prog w = .ok c7 w := by
  have x7 := h.cell 7
  simp at x7
  go_simp
theorem tmp_of_eval {T : Array Value} {Ed : List Deferred} {d : Tmp} {v : Value} (h : T[d]? = some v) : (⟨T, Ed⟩ : Act).eval (.tmp d) = v := by
  unfold Act.eval
  simp [Array.getD_eq_getD_getElem?, h]
theorem putF_pack {Q : Exit → Act → World → Prop} {a0 : Act} {w' : World} (u : Nat → Value) (ds : List (Option Tmp)) (h : ∀ T : Array Value, T.size = a0.tmps.size → (∀ d : Tmp, (∀ i : Nat, ds[i]? ≠ some (some d)) → T[d]? = a0.tmps[d]?) → (∀ (d : Tmp) (i : Nat), d < a0.tmps.size → ds[i]? = some (some d) → (∀ j : Nat, ds[j]? = some (some d) → j = i) → T[d]? = some (u i)) → Q .normal ⟨T, a0.defers⟩ w') : Q .normal (putF u ds 0 a0) w' := by
  have h1 := putF_size u ds 0 a0
  have h2 := fun (d : Tmp) hd => putF_old u ds 0 a0 d hd
  have h3 := fun (d : Tmp) (i : Nat) x y z => putF_new u ds 0 a0 d i x y z
  simp only [Nat.zero_add] at h3
  obtain ⟨A, hA⟩ : ∃ A, putF u ds 0 a0 = A := ⟨_, rfl⟩
  rw [hA] at h1 h2 h3 ⊢
  obtain ⟨T, Ed⟩ := A
  have h4 := h1.2
  simp only at h4
  subst h4
  exact h T h1.1 h2 h3
theorem Rs.up {α : Type} {T : Lies α} {w : World} {B B' : Nat} {A : Option Addr} {l : List α} (h : Rs T w B A l) (hb : B ≤ B') : Rs T w B' A l := fun hn => by
  obtain ⟨b, o, h1, h2, h3⟩ := h hn
  exact ⟨b, o, h1, Nat.lt_of_lt_of_le h2 hb, h3⟩
def StopW (p : Prop) : Prop := p
theorem stopAt {P : Program} {ops : Array Oper} {Q : Exit → Act → World → Prop} {o : Oper} {rest : List Oper} {a : Act} {w : World} (h : StopW (wpList P ops Q (o :: rest) a w)) : wpList P ops Q (o :: rest) a w := h
set_option maxRecDepth 100000 in
set_option maxHeartbeats 8000000 in
theorem Do_any (q X : Nat) (D E : Nat → Prop) (M : List Li) (y : Ky) (hy : y.In) (dd bk : Nat) (hdd : dd < 256) (hbk : bk < 256) (raw : Bool) (P : Option Addr) (n c : Nat) (l : List (Nat × Int)) (w : World)
    (hL : Led w q D M) (hR : RefL w X E M) (hd : ∀ i, D i → ¬ E i) (hM : M.length + 1 ≤ 1000) (hlo : ∀ x ∈ M, x.y.a < 5) (hP : Rs legT w w.heap.size P l) (hn : l.length = n) (hnc : n ≤ c) (_ : c ≤ maxLen) (hI : ∀ u ∈ l, LegIn u) (hgl : Laid w) (hgD : ¬ (D 0 ∨ 0 = X)) :
    Calls Tryz.prog 9 #[.pointer (some ⟨q, 0, none⟩), .pointer (some ⟨X, 0, none⟩), (.agg (actC dd y (.slice P n c) raw bk))] w (DoPost q X D M w) := by
  subst hn
  unfold actC
  obtain ⟨AV, hAV⟩ : ∃ AV : Array Value, AV = #[.int .u8 (dd : Int), .int .u32 (y.a : Int), .int .i32 y.d, .int .u8 (y.k : Int), .int .u32 (y.s : Int), .slice P l.length c, .bool raw, .int .u8 (bk : Int)] := ⟨_, rfl⟩
  have HA0 := Lib.hid (Blk.new w 36 AV)
  have HB0 := Lib.hid (b_alloc w (.cells AV 36))
  subst hAV
  obtain ⟨W0, hW⟩ : ∃ W, w.alloc (.cells #[.int .u8 (dd : Int), .int .u32 (y.a : Int), .int .i32 y.d, .int .u8 (y.k : Int), .int .u32 (y.s : Int), .slice P l.length c, .bool raw, .int .u8 (bk : Int)] 36) = W := ⟨_, rfl⟩
  have HW := Lib.hid hW
  rw [hW] at HA0 HB0
  clear hW
  have m5 := HA0.out.cell 5
  have nl := HA0.out.lt
  simp at m5
  go_enter Tryz.func9, Tryz.ntmps9
  go_upto_region 1 with (fail)
  rw [HW.out]
  clear HW
  obtain ⟨k, hk⟩ : ∃ k, min l.length 12 = k := ⟨_, rfl⟩
  have hk1 : k ≤ l.length := by omega
  have hk2 : k ≤ 12 := by omega
  have hmin : min (l.length : Int) 12 = (k : Int) := by omega
  clear hk
  have hO1 := Lib.hid (OwnS.made (T := legT) (e := 53) W0 (cap := 0) (cur := #[]) (b := W0.heap.size) (Nat.le_refl _) (by decide) rfl)
  have hPT : Rs legT w w.heap.size P (l.take k) := hP.take k
  have HB0' := Lib.hid (HB0.out.alloc HB0.out.size (.cells #[] 53))
  have HRT := Lib.hid (hPT.below HB0'.out)
  have HAa := Lib.hid (HA0.out.alloc (.cells #[] 53))
  have HLk := Lib.hid (show (l.take k).length = k by rw [List.length_take]; omega)
  go_wp2_with (with_reducible refine stopAt (o := ⟨some 19, _, _, _, _, _⟩) ?_)
  unfold StopW
  refine wpList_appendS (o := ⟨some 19, _, _, _, _, _⟩) rfl rowLeg (.tmp 11) (.tmp 18) rfl W0.heap.size _ 0 [] ?h1 hO1.out w.heap.size P k c (l.take k) ?h2 HRT.out HLk.out ?h3 ?h4 ?h5 ?_
  case h1 => rfl
  case h2 => rfl
  case h3 => unfold maxLen; omega
  case h4 => omega
  case h5 => simp
  intro v1 w1 ho1 hg1 _ _
  simp only [Nat.zero_add, List.nil_append] at ho1
  have hb1 := HB0'.out.grown hg1 HB0'.out.size (fun g hg => by have := (hO1.out.lt g hg).1; have := HB0.out.size; omega)
  have ha1 := HAa.out.grown hg1 (fun h => by
    have e : w.heap.size = W0.heap.size := by simpa [Value.ownBlock] using h
    omega)
  have hs1 : W0.heap.size < w1.heap.size := by
    have := hg1.size
    simp at this
    omega
  obtain ⟨_, A1, c1, rfl, hc1, hm1, hrow1⟩ := ho1.form (by decide)
  have HO1 := Lib.hid ho1
  have HB1 := Lib.hid hb1
  have HA1 := Lib.hid ha1
  have HR1 := Lib.hid hrow1
  clear ho1 hb1 ha1 hg1 hrow1 hO1 HB0' HRT HAa HA0 hPT hP m5 hmin
  have m1 := HA1.out.cell 1
  have z1 := HA1.out.frozen 1
  have m0 := HA1.out.cell 0
  simp at m1 m0
  have hy5 : Ky.In ⟨y.a % 5, y.d, y.k, y.s⟩ := ⟨by have := hy.a; show y.a % 5 < 4294967296; omega, hy.d, hy.k, hy.s⟩
  have ha5 : ((y.a : Int) % 5) = ((y.a % 5 : Nat) : Int) := by omega
  obtain ⟨b, hb5⟩ : ∃ b, y.a % 5 = b := ⟨_, rfl⟩
  rw [hb5] at ha5 hy5
  have hb55 : b < 5 := by omega
  go_upto_region 3 with (fail)
  clear ha5 hb5
  have HB2 := Lib.hid (HB1.out.setCell (p := ⟨w.heap.size, 1, none⟩) (Nat.le_refl _) (.int .u32 (b : Int)))
  have HA2 := Lib.hid (HA1.out.set_ 1 (.int .u32 (b : Int)))
  obtain ⟨W2, hW2⟩ : ∃ W, w1.setCell ⟨w.heap.size, 1, none⟩ (.int .u32 (b : Int)) = W := ⟨_, rfl⟩
  have HO2 : Hid (OwnS legT 53 W2 W0.heap.size (.slice A1 k c1) k (l.take k)) := Lib.hid (HO1.out.same (fun g hg => by
    rw [← hW2]
    refine Below.heap_setCell _ _ _ _ ?_
    have := (HO1.out.lt g hg).1
    show g ≠ w.heap.size
    omega))
  have hs2 : W0.heap.size < W2.heap.size := by rw [← hW2]; simpa [World.setCell] using hs1
  rw [hW2] at HB2 HA2 ⊢
  simp only [List.setIfInBounds_toArray, List.set_cons_succ, List.set_cons_zero] at HA2
  clear hW2 HO1 HB1 HA1 m1 z1 m0 hs1
  have HL2 := Lib.hid (hL.below HB2.out)
  have HE2 := Lib.hid (hR.below HB2.out)
  have HG2 := Lib.hid (hgl.chg (Chg.of_below (D := fun _ => False) HB2.out) (fun h => h))
  have hDX : ∀ i, D i ∨ i = X → i < w.heap.size := fun i hi => hi.elim (hL.lt i) (fun h => by rw [h]; exact hR.lt X hR.self)
  have HDX := Lib.hid hDX
  have HGA := Lib.hid (show ¬ (D w.heap.size ∨ w.heap.size = X) from fun h => by have := hDX _ h; omega)
  have HKA := Lib.hid (fun (W : World) (hr : (relC D X).r W2 W) => act_key (Chg.blk hr HA2.out HGA.out))
  have fin : ∀ (M' : List Li) (T : Array Value) (w' : World), T[6]? = some (.bool true) → Chg (fun i => D i ∨ i = X) W2 w' → (∃ D' E', Led w' q D' M' ∧ RefL w' X E' M' ∧ (∀ i, D' i → ¬ E' i) ∧ ∀ i, D' i → D i ∨ w.heap.size ≤ i) → (M' = M ∨ ∃ x, M' = M ++ [x] ∧ Goes M x ∧ x.y.a < 5) → DoPost q X D M w (.returned (.bool true)) w' := fun M' T w' _ hc ⟨D', E', k1, k2, k3, k4⟩ k5 => ⟨rfl, (Chg.of_below HB2.out).trans hc (fun i hi => .inl hi), M', D', E', k1, k2, k3, k4, k5⟩
  have FIN := Lib.hid fin
  clear fin hDX
  have m0 := HA2.out.cell 0
  simp at m0
  obtain ⟨r, hr⟩ : ∃ r, dd % 5 = r := ⟨_, rfl⟩
  have hr5 : (dd : Int) % 5 = (r : Int) := by omega
  clear hr
  by_cases hr3 : r = 3
  · subst hr3
    go_upto_region 5 with (fail)
    refine pair_rev rfl q X w.heap.size w.heap.size D E M ⟨b, y.d, y.k, y.s⟩ rfl rfl rfl HL2.out HE2.out hd (by omega) hy5 (fun {W} hr => HKA.out W hr) HDX.out HB2.out.size HG2.out hgD ?_
    intro T w' hT hc hex
    have FF := Lib.hid (FIN.out _ T w' hT hc hex (after_rev _ _ hb55))
    have HT := Lib.hid hT
    clear hT hc hex
    go_wp2_with fail
    exact fin_tmp rfl HT.out FF.out
  by_cases hr4 : r = 4
  · subst hr4
    obtain ⟨A9, c9, V9, hX9, _⟩ := HE2.out
    have x9 := hX9.cell 0
    simp at x9
    by_cases hM0 : M.length = 0
    · have hM1 : M = [] := List.length_eq_zero_iff.1 hM0
      go_wp2_with fail
      refine fin_tmp rfl (by rfl) ?_
      exact ⟨rfl, Chg.of_below HB2.out, M, D, E, HL2.out, HE2.out, hd, fun i hi => .inl hi, .inl rfl⟩
    · have hM1 : ¬ M = [] := fun h => hM0 (by rw [h]; rfl)
      have hk9 : bk % M.length < M.length := Nat.mod_lt _ (by omega)
      have hx9 := List.getElem?_eq_getElem hk9
      generalize M[bk % M.length] = x at hx9
      have hinx := HL2.out.fine.inn x (List.mem_of_getElem? hx9)
      go_upto_region 9 with (fail)
      refine back_line rfl q X w.heap.size bk D E M x rfl rfl rfl HL2.out HE2.out (by omega) (by omega) hbk hx9 (fun W' hb => act_u8 (HA2.out.below hb HA2.out.lt)) ?_
      intro u w3 gb v hu hgb hbl hb3
      refine putF_pack u _ ?_
      intro T hTs hold hnew
      have h0 := hold 0 (fun i h => absurd (List.mem_of_getElem? h) (by decide))
      have h1 := hold 1 (fun i h => absurd (List.mem_of_getElem? h) (by decide))
      have h8 := hnew 8 14 (show 8 < 96 by decide) rfl (uniq_at (by kernel_rfl))
      rw [hu] at h8
      have HHL := Lib.hid (HL2.out.below hb3)
      have HHE := Lib.hid (HE2.out.below hb3)
      have HHG := Lib.hid (HG2.out.chg (Chg.of_below (D := fun _ => False) hb3) (fun h => h))
      have HHB := Lib.hid hb3
      have HHK := Lib.hid (fun (W : World) (hr : (relC D X).r w3 W) => line_key (Chg.blk hr hbl (fun h => by have := HDX.out _ h; omega)))
      clear hu hold hnew hb3 hbl
      have h0 : T[0]? = some (.pointer (some ⟨q, 0, none⟩)) := h0
      have h1 : T[1]? = some (.pointer (some ⟨X, 0, none⟩)) := h1
      go_upto_region 10 with (fail)
      refine pair_back hTs q X gb w.heap.size D E M x.y (tmp_of_eval h0) (tmp_of_eval h1) (tmp_of_eval h8) HHL.out HHE.out hd (by omega) hinx.1 (fun {W} hr => HHK.out W hr) HDX.out (Nat.le_trans HB2.out.size HHB.out.size) HHG.out hgD ?_
      intro T' w' hT hc hex
      have FF := Lib.hid (FIN.out _ T' w' hT ((Chg.of_below HHB.out).trans hc (fun i hi => .inl hi)) hex (after_rev _ _ (hlo x (List.mem_of_getElem? hx9))))
      have HT := Lib.hid hT
      clear hT hc hex
      go_wp2_with fail
      exact fin_tmp rfl HT.out FF.out
  · have hrs1 : Rs legT W2 W2.heap.size A1 (l.take k) := by
      obtain ⟨_, A', c', he, _, _, hr⟩ := HO2.out.form (by decide)
      injection he with e1
      subst e1
      exact hr
    have HRS1 := Lib.hid hrs1
    clear hrs1
    have HK1 := Lib.hid (Make_any ⟨b, y.d, y.k, y.s⟩ A1 k c1 W2.heap.size (l.take k) W2 HRS1.out HLk.out (by omega) (Nat.le_refl _) (fun u hu => hI u (List.mem_of_mem_take hu)))
    have m1 := HA2.out.cell 1
    have m2 := HA2.out.cell 2
    have m3 := HA2.out.cell 3
    have m4 := HA2.out.cell 4
    simp at m1 m2 m3 m4
    unfold Ky.v at HK1
    go_wp2_with fail
    refine HK1.out.mono ?_
    rintro e w3 ⟨A3, c3, rfl, ho3, hb3⟩
    have hIn3 := mkL_in (l.take k)
    have hn3 := mkL_len (l.take k)
    generalize mkL (l.take k) = L3 at ho3 hIn3 hn3
    obtain ⟨n3, hn3e⟩ : ∃ n, L3.length = n := ⟨_, rfl⟩
    rw [hn3e] at ho3
    have hrs3 : Rs legT w3 w3.heap.size A3 L3 := by
      obtain ⟨_, A', c', he, _, _, hr⟩ := ho3.form (by decide)
      injection he with e1
      subst e1
      exact hr
    have hlt3 : ∀ p, A3 = some p → w.heap.size ≤ p.block := fun p hp => by
      subst hp
      have := (ho3.lt p.block rfl).1
      omega
    have hlt1 : ∀ p, A1 = some p → w.heap.size ≤ p.block := fun p hp => by
      subst hp
      have := (HO2.out.lt p.block rfl).1
      omega
    have hb3' := HB2.out.trans (hb3.mono HB2.out.size)
    have HE3 := Lib.hid (Blk.new w3 40 #[.int .u32 (b : Int), .int .i32 y.d, .int .u8 (y.k : Int), .int .u32 (y.s : Int), .slice A3 n3 c3])
    have HB4 := Lib.hid (hb3'.alloc hb3'.size (.cells #[.int .u32 (b : Int), .int .i32 y.d, .int .u8 (y.k : Int), .int .u32 (y.s : Int), .slice A3 n3 c3] 40))
    have hb24 : Below W2.heap.size W2 (w3.alloc (.cells #[.int .u32 (b : Int), .int .i32 y.d, .int .u8 (y.k : Int), .int .u32 (y.s : Int), .slice A3 n3 c3] 40)) := hb3.alloc hb3.size _
    have HRS3 := Lib.hid ((hrs3.below (b_alloc w3 (.cells #[.int .u32 (b : Int), .int .i32 y.d, .int .u8 (y.k : Int), .int .u32 (y.s : Int), .slice A3 n3 c3] 40))).up (b_alloc w3 (.cells #[.int .u32 (b : Int), .int .i32 y.d, .int .u8 (y.k : Int), .int .u32 (y.s : Int), .slice A3 n3 c3] 40)).size)
    have HLT3 := Lib.hid hlt3
    have HLT1 := Lib.hid hlt1
    have HIN3 := Lib.hid hIn3
    have HN3 := Lib.hid hn3e
    have hs3 : W2.heap.size ≤ w3.heap.size := hb3.size
    unfold entV entC at *
    go_upto_region 12 with (fail)
    obtain ⟨W4, hW4⟩ : ∃ W, w3.alloc (.cells #[.int .u32 (b : Int), .int .i32 y.d, .int .u8 (y.k : Int), .int .u32 (y.s : Int), .slice A3 n3 c3] 40) = W := ⟨_, rfl⟩
    rw [hW4] at HE3 HB4 hb24 HRS3 ⊢
    clear hW4
    have HA4 := Lib.hid (HA2.out.below hb24 HA2.out.lt)
    have HRS14 := Lib.hid ((HRS1.out.below hb24).up hb24.size)
    have HL4 := Lib.hid (HL2.out.below hb24)
    have HE4 := Lib.hid (HE2.out.below hb24)
    have HG4 := Lib.hid (HG2.out.chg (Chg.of_below (D := fun _ => False) hb24) (fun h => h))
    have HB24 := Lib.hid hb24
    have HGE := Lib.hid (show ¬ (D w3.heap.size ∨ w3.heap.size = X) from fun h => by
      have := HDX.out _ h
      have := HB2.out.size
      omega)
    have hw3 : w.heap.size < w3.heap.size := by omega
    clear hb24 hb3 hb3' ho3 hrs3 hlt3 hlt1 hIn3 hn3e m0 m1 m2 m3 m4 HK1
    have m1 := HA4.out.cell 1
    have m2 := HA4.out.cell 2
    have m3 := HA4.out.cell 3
    have m4 := HA4.out.cell 4
    have m6 := HA4.out.cell 6
    simp at m1 m2 m3 m4 m6
    cases raw with
    | false =>
      go_upto_region 14 with (fail)
      refine pair_post rfl q X w3.heap.size w.heap.size D E M ⟨b, y.d, y.k, y.s⟩ A3 c3 L3 rfl rfl rfl HL4.out HE4.out hd (by omega) hy5 HIN3.out (by have := HN3.out; omega) (by rw [HN3.out]; exact HE3.out) HGE.out HRS3.out (fun p hp h => by have := HLT3.out p hp; have := HDX.out _ h; omega) HDX.out HB4.out.size HG4.out hgD ?_
      intro T' w' hT hc hex
      have FF := Lib.hid (FIN.out _ T' w' hT ((Chg.of_below HB24.out).trans hc (fun i hi => .inl hi)) hex (after_post _ _ _ hb55))
      have HT := Lib.hid hT
      clear hT hc hex
      go_wp2_with fail
      exact fin_tmp rfl HT.out FF.out
    | true =>
      have z0 := HE3.out.frozen 0
      have z1 := HE3.out.frozen 1
      have z2 := HE3.out.frozen 2
      have z3 := HE3.out.frozen 3
      have z4 := HE3.out.frozen 4
      have n0 := HE3.out.cell 0
      have n1 := HE3.out.cell 1
      have n2 := HE3.out.cell 2
      have n3' := HE3.out.cell 3
      have n4 := HE3.out.cell 4
      simp at n0 n1 n2 n3' n4
      go_upto_region 14 with (fail)
      have HE5 := Lib.hid (set5c HE3.out (.int .u32 (b : Int)) (.int .i32 y.d) (.int .u8 (y.k : Int)) (.int .u32 (y.s : Int)) (.slice A1 k c1))
      have hb45 := below_set5c (Below.refl w3.heap.size W4) (Nat.le_refl _) (.int .u32 (b : Int)) (.int .i32 y.d) (.int .u8 (y.k : Int)) (.int .u32 (y.s : Int)) (.slice A1 k c1)
      have hb25 := below_set5c (g := w3.heap.size) HB24.out hs3 (.int .u32 (b : Int)) (.int .i32 y.d) (.int .u8 (y.k : Int)) (.int .u32 (y.s : Int)) (.slice A1 k c1)
      obtain ⟨W5, hW5⟩ : ∃ W, (((((W4.setCell ⟨w3.heap.size, 0, none⟩ (.int .u32 (b : Int))).setCell ⟨w3.heap.size, 1, none⟩ (.int .i32 y.d)).setCell ⟨w3.heap.size, 2, none⟩ (.int .u8 (y.k : Int))).setCell ⟨w3.heap.size, 3, none⟩ (.int .u32 (y.s : Int))).setCell ⟨w3.heap.size, 4, none⟩ (.slice A1 k c1)) = W := ⟨_, rfl⟩
      rw [hW5] at HE5 hb45 hb25 ⊢
      clear hW5
      have HL5 := Lib.hid (HL2.out.below hb25)
      have HE5' := Lib.hid (HE2.out.below hb25)
      have HG5 := Lib.hid (HG2.out.chg (Chg.of_below (D := fun _ => False) hb25) (fun h => h))
      have HRS5 := Lib.hid ((HRS1.out.below hb25).up hb25.size)
      have HB25 := Lib.hid hb25
      have HB5 := Lib.hid (HB2.out.trans (hb25.mono HB2.out.size))
      clear hb45 hb25
      refine pair_post rfl q X w3.heap.size w.heap.size D E M ⟨b, y.d, y.k, y.s⟩ A1 c1 (l.take k) rfl rfl rfl HL5.out HE5'.out hd (by omega) hy5 (fun u hu => hI u (List.mem_of_mem_take hu)) (by have := HLk.out; omega) (by rw [HLk.out]; exact HE5.out) HGE.out HRS5.out (fun p hp h => by have := HLT1.out p hp; have := HDX.out _ h; omega) HDX.out HB5.out.size HG5.out hgD ?_
      intro T' w' hT hc hex
      have FF := Lib.hid (FIN.out _ T' w' hT ((Chg.of_below HB25.out).trans hc (fun i hi => .inl hi)) hex (after_post _ _ _ hb55))
      have HT := Lib.hid hT
      clear hT hc hex
      go_wp2_with fail
      exact fin_tmp rfl HT.out FF.out
end Go.Proofs.YtdnnkdldolhbpaaGreatDoor
