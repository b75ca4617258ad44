/-
  Ledger.add: the region that writes the sums. Conditions: the ledger is there.
-/
import Derived.Test.YtabiaeicejgeiaaGreatDoorLedG1
namespace Go.Proofs.YtabiaeicejgeiaaGreatDoor
open Go.ChangeShapes Go.WideShapes Go.ChangeAt Go.RowKit Go.Maps Go.ChangeMaps

set_option maxRecDepth 100000 in
set_option maxHeartbeats 8000000 in
theorem add_reg10 {Q : Exit → Act → World → Prop} {a0 : Act} {W : World} {q b g6 g8 : Nat} {y : Ky} {r1 r2 : Nat → Int} {f : Nat → Option Value} {X0 X1 X2 : Obj} {born : Nat} (h0 : a0.eval (.tmp 0) = .pointer (some ⟨q, 0, none⟩)) (h5 : a0.eval (.tmp 5) = .int .u32 (y.a : Int)) (h6 : a0.eval (.tmp 6) = .pointer (some ⟨g6, 0, none⟩)) (h8 : a0.eval (.tmp 8) = .pointer (some ⟨g8, 0, none⟩)) (hsz : a0.tmps.size = 78)
    (HE : EntryOf Tryz.prog 83 u32In u32E b (u32E y.a) (.agg (vec r1)) f X0 X1 X2 born) (hX : W.heap[b]? = some X0)
    (LB : ∀ W', AtR b (turn3 X0 X1 X2) W W' → (Instr.loadAt 83 (.pointer (some ⟨q, 2, none⟩))).run Tryz.prog W' = .ok (.map (some b)) W')
    (L6 : ∀ W', AtR b (turn3 X0 X1 X2) W W' → (Instr.loadAt 85 (.pointer (some ⟨g6, 0, none⟩))).run Tryz.prog W' = .ok (.agg (vec r1)) W')
    (L8 : ∀ W', AtR b (turn3 X0 X1 X2) W W' → (Instr.loadAt 85 (.pointer (some ⟨g8, 0, none⟩))).run Tryz.prog W' = .ok (.agg (vec r2)) W')
    (TH : ∀ W', AtR b (turn3 X0 X1 X2) W W' → W'.there q 3 10)
    (hQ : ∀ (u : Nat → Value) (W' : World), AtR b (turn3 X0 X1 X2) W W' → W'.heap[b]? = some X2 → Q .normal (putF u [some 56, some 57, some 58, some 59, some 60, some 61, some 62, some 63, some 64, some 65, none, some 66, some 67] 0 a0) (W'.setCells q 3 (vec r2).toList)) :
    (Code.region 10 #[{ dst := some 56, op := Go.Op.move (Go.Operand.tmp 0), type := 24, pos := "ledger.go:235", after := #[], guard := none }, { dst := some 57, op := Go.Op.nilCheck (Go.Operand.tmp 56), type := 0, pos := "ledger.go:235", after := #[{ on := 0, ground := Go.Ground.data }], guard := none }, { dst := some 58, op := Go.Op.fieldAddr 87 (Go.Operand.tmp 57) 2, type := 0, pos := "ledger.go:235", after := #[{ on := 1, ground := Go.Ground.data }], guard := none }, { dst := some 59, op := Go.Op.load 83 (Go.Operand.tmp 58), type := 83, pos := "ledger.go:235", after := #[{ on := 2, ground := Go.Ground.data }], guard := none }, { dst := some 60, op := Go.Op.move (Go.Operand.tmp 5), type := 30, pos := "ledger.go:235", after := #[], guard := none }, { dst := some 61, op := Go.Op.move (Go.Operand.tmp 0), type := 24, pos := "ledger.go:235", after := #[{ on := 10, ground := Go.Ground.gcOnly Go.Departure.lateStores }], guard := none }, { dst := some 62, op := Go.Op.load 85 (Go.Operand.tmp 6), type := 85, pos := "ledger.go:235", after := #[{ on := 8, ground := Go.Ground.gcOnly Go.Departure.tupleMapEntryFirst }], guard := none }, { dst := some 63, op := Go.Op.load 85 (Go.Operand.tmp 8), type := 85, pos := "ledger.go:235", after := #[{ on := 10, ground := Go.Ground.gcOnly Go.Departure.lateStores }], guard := none }, { dst := some 64, op := Go.Op.mapEntry 83 (Go.Operand.tmp 59) (Go.Operand.tmp 60), type := 0, pos := "ledger.go:235", after := #[{ on := 3, ground := Go.Ground.data }, { on := 4, ground := Go.Ground.data }, { on := 0, ground := Go.Ground.textOnly Go.Departure.tupleMapEntryFirst }, { on := 1, ground := Go.Ground.textOnly Go.Departure.tupleMapEntryFirst }, { on := 2, ground := Go.Ground.textOnly Go.Departure.tupleMapEntryFirst }, { on := 3, ground := Go.Ground.textOnly Go.Departure.tupleMapEntryFirst }, { on := 4, ground := Go.Ground.textOnly Go.Departure.tupleMapEntryFirst }, { on := 5, ground := Go.Ground.textOnly Go.Departure.lateStores }, { on := 6, ground := Go.Ground.textOnly Go.Departure.tupleMapEntryFirst }, { on := 7, ground := Go.Ground.textOnly Go.Departure.lateStores }], guard := none }, { dst := some 65, op := Go.Op.extract (Go.Operand.tmp 64) 1, type := 3, pos := "ledger.go:235", after := #[{ on := 8, ground := Go.Ground.data }], guard := none }, { dst := none, op := Go.Op.entryStore 83 (Go.Operand.tmp 59) (Go.Operand.tmp 65) (Go.Operand.tmp 62), type := 0, pos := "ledger.go:235", after := #[{ on := 3, ground := Go.Ground.data }, { on := 9, ground := Go.Ground.data }, { on := 6, ground := Go.Ground.data }, { on := 8, ground := Go.Ground.chain }, { on := 0, ground := Go.Ground.phase }, { on := 1, ground := Go.Ground.phase }, { on := 2, ground := Go.Ground.phase }, { on := 3, ground := Go.Ground.phase }, { on := 4, ground := Go.Ground.phase }, { on := 5, ground := Go.Ground.textOnly Go.Departure.lateStores }, { on := 6, ground := Go.Ground.phase }, { on := 7, ground := Go.Ground.textOnly Go.Departure.lateStores }, { on := 8, ground := Go.Ground.phase }], guard := none }, { dst := some 66, op := Go.Op.nilCheck (Go.Operand.tmp 61), type := 0, pos := "ledger.go:235", after := #[{ on := 5, ground := Go.Ground.data }, { on := 0, ground := Go.Ground.phase }, { on := 1, ground := Go.Ground.phase }, { on := 2, ground := Go.Ground.phase }, { on := 3, ground := Go.Ground.phase }, { on := 4, ground := Go.Ground.phase }, { on := 5, ground := Go.Ground.phase }, { on := 6, ground := Go.Ground.phase }, { on := 7, ground := Go.Ground.phase }, { on := 8, ground := Go.Ground.phase }, { on := 9, ground := Go.Ground.phase }, { on := 10, ground := Go.Ground.phase }], guard := none }, { dst := some 67, op := Go.Op.fieldAddr 87 (Go.Operand.tmp 66) 3, type := 0, pos := "ledger.go:235", after := #[{ on := 11, ground := Go.Ground.data }, { on := 0, ground := Go.Ground.phase }, { on := 1, ground := Go.Ground.phase }, { on := 2, ground := Go.Ground.phase }, { on := 3, ground := Go.Ground.phase }, { on := 4, ground := Go.Ground.phase }, { on := 5, ground := Go.Ground.phase }, { on := 6, ground := Go.Ground.phase }, { on := 7, ground := Go.Ground.phase }, { on := 8, ground := Go.Ground.phase }, { on := 9, ground := Go.Ground.phase }, { on := 10, ground := Go.Ground.phase }], guard := none }, { dst := none, op := Go.Op.store 85 (Go.Operand.tmp 67) (Go.Operand.tmp 63), type := 0, pos := "ledger.go:235", after := #[{ on := 12, ground := Go.Ground.data }, { on := 7, ground := Go.Ground.data }, { on := 10, ground := Go.Ground.chain }, { on := 0, ground := Go.Ground.phase }, { on := 1, ground := Go.Ground.phase }, { on := 2, ground := Go.Ground.phase }, { on := 3, ground := Go.Ground.phase }, { on := 4, ground := Go.Ground.phase }, { on := 5, ground := Go.Ground.phase }, { on := 6, ground := Go.Ground.phase }, { on := 7, ground := Go.Ground.phase }, { on := 8, ground := Go.Ground.phase }, { on := 9, ground := Go.Ground.phase }, { on := 10, ground := Go.Ground.phase }], guard := none }] true).wp Tryz.prog Q a0 W := by
  have HX : ∀ W', AtR b (turn3 X0 X1 X2) W W' → (W'.heap[b]? = some X0 ∨ X12 b X1 X2 W') := fun W' hb => ((mapF0 b X0 X1 X2).mono (v := .map (some b)) ⟨rfl, .inl hX⟩ hb).2
  refine wp_region_flow_lastG (l := [{ dst := some 56, op := Go.Op.move (Go.Operand.tmp 0), type := 24, pos := "ledger.go:235", after := #[], guard := none }, { dst := some 57, op := Go.Op.nilCheck (Go.Operand.tmp 56), type := 0, pos := "ledger.go:235", after := #[{ on := 0, ground := Go.Ground.data }], guard := none }, { dst := some 58, op := Go.Op.fieldAddr 87 (Go.Operand.tmp 57) 2, type := 0, pos := "ledger.go:235", after := #[{ on := 1, ground := Go.Ground.data }], guard := none }, { dst := some 59, op := Go.Op.load 83 (Go.Operand.tmp 58), type := 83, pos := "ledger.go:235", after := #[{ on := 2, ground := Go.Ground.data }], guard := none }, { dst := some 60, op := Go.Op.move (Go.Operand.tmp 5), type := 30, pos := "ledger.go:235", after := #[], guard := none }, { dst := some 61, op := Go.Op.move (Go.Operand.tmp 0), type := 24, pos := "ledger.go:235", after := #[{ on := 10, ground := Go.Ground.gcOnly Go.Departure.lateStores }], guard := none }, { dst := some 62, op := Go.Op.load 85 (Go.Operand.tmp 6), type := 85, pos := "ledger.go:235", after := #[{ on := 8, ground := Go.Ground.gcOnly Go.Departure.tupleMapEntryFirst }], guard := none }, { dst := some 63, op := Go.Op.load 85 (Go.Operand.tmp 8), type := 85, pos := "ledger.go:235", after := #[{ on := 10, ground := Go.Ground.gcOnly Go.Departure.lateStores }], guard := none }, { dst := some 64, op := Go.Op.mapEntry 83 (Go.Operand.tmp 59) (Go.Operand.tmp 60), type := 0, pos := "ledger.go:235", after := #[{ on := 3, ground := Go.Ground.data }, { on := 4, ground := Go.Ground.data }, { on := 0, ground := Go.Ground.textOnly Go.Departure.tupleMapEntryFirst }, { on := 1, ground := Go.Ground.textOnly Go.Departure.tupleMapEntryFirst }, { on := 2, ground := Go.Ground.textOnly Go.Departure.tupleMapEntryFirst }, { on := 3, ground := Go.Ground.textOnly Go.Departure.tupleMapEntryFirst }, { on := 4, ground := Go.Ground.textOnly Go.Departure.tupleMapEntryFirst }, { on := 5, ground := Go.Ground.textOnly Go.Departure.lateStores }, { on := 6, ground := Go.Ground.textOnly Go.Departure.tupleMapEntryFirst }, { on := 7, ground := Go.Ground.textOnly Go.Departure.lateStores }], guard := none }, { dst := some 65, op := Go.Op.extract (Go.Operand.tmp 64) 1, type := 3, pos := "ledger.go:235", after := #[{ on := 8, ground := Go.Ground.data }], guard := none }, { dst := none, op := Go.Op.entryStore 83 (Go.Operand.tmp 59) (Go.Operand.tmp 65) (Go.Operand.tmp 62), type := 0, pos := "ledger.go:235", after := #[{ on := 3, ground := Go.Ground.data }, { on := 9, ground := Go.Ground.data }, { on := 6, ground := Go.Ground.data }, { on := 8, ground := Go.Ground.chain }, { on := 0, ground := Go.Ground.phase }, { on := 1, ground := Go.Ground.phase }, { on := 2, ground := Go.Ground.phase }, { on := 3, ground := Go.Ground.phase }, { on := 4, ground := Go.Ground.phase }, { on := 5, ground := Go.Ground.textOnly Go.Departure.lateStores }, { on := 6, ground := Go.Ground.phase }, { on := 7, ground := Go.Ground.textOnly Go.Departure.lateStores }, { on := 8, ground := Go.Ground.phase }], guard := none }, { dst := some 66, op := Go.Op.nilCheck (Go.Operand.tmp 61), type := 0, pos := "ledger.go:235", after := #[{ on := 5, ground := Go.Ground.data }, { on := 0, ground := Go.Ground.phase }, { on := 1, ground := Go.Ground.phase }, { on := 2, ground := Go.Ground.phase }, { on := 3, ground := Go.Ground.phase }, { on := 4, ground := Go.Ground.phase }, { on := 5, ground := Go.Ground.phase }, { on := 6, ground := Go.Ground.phase }, { on := 7, ground := Go.Ground.phase }, { on := 8, ground := Go.Ground.phase }, { on := 9, ground := Go.Ground.phase }, { on := 10, ground := Go.Ground.phase }], guard := none }, { dst := some 67, op := Go.Op.fieldAddr 87 (Go.Operand.tmp 66) 3, type := 0, pos := "ledger.go:235", after := #[{ on := 11, ground := Go.Ground.data }, { on := 0, ground := Go.Ground.phase }, { on := 1, ground := Go.Ground.phase }, { on := 2, ground := Go.Ground.phase }, { on := 3, ground := Go.Ground.phase }, { on := 4, ground := Go.Ground.phase }, { on := 5, ground := Go.Ground.phase }, { on := 6, ground := Go.Ground.phase }, { on := 7, ground := Go.Ground.phase }, { on := 8, ground := Go.Ground.phase }, { on := 9, ground := Go.Ground.phase }, { on := 10, ground := Go.Ground.phase }], guard := none }]) (ol := { dst := none, op := Go.Op.store 85 (Go.Operand.tmp 67) (Go.Operand.tmp 63), type := 0, pos := "ledger.go:235", after := #[{ on := 12, ground := Go.Ground.data }, { on := 7, ground := Go.Ground.data }, { on := 10, ground := Go.Ground.chain }, { on := 0, ground := Go.Ground.phase }, { on := 1, ground := Go.Ground.phase }, { on := 2, ground := Go.Ground.phase }, { on := 3, ground := Go.Ground.phase }, { on := 4, ground := Go.Ground.phase }, { on := 5, ground := Go.Ground.phase }, { on := 6, ground := Go.Ground.phase }, { on := 7, ground := Go.Ground.phase }, { on := 8, ground := Go.Ground.phase }, { on := 9, ground := Go.Ground.phase }, { on := 10, ground := Go.Ground.phase }], guard := none }) rfl [some 56, some 57, some 58, some 59, some 60, some 61, some 62, some 63, some 64, some 65, none, some 66, some 67] (fun i => ([.is (.pointer (some ⟨q, 0, none⟩)), .is (.pointer (some ⟨q, 0, none⟩)), .is (.pointer (some ⟨q, 2, none⟩)), mapF0 b X0 X1 X2, .is (.int .u32 (y.a : Int)), .is (.pointer (some ⟨q, 0, none⟩)), .is (.agg (vec r1)), .is (.agg (vec r2)), entFm b X1 X2 X0 born, bornF b X1 X2 X0 born, doneM b X0 X1 X2, .is (.pointer (some ⟨q, 0, none⟩)), .is (.pointer (some ⟨q, 3, none⟩))] : List (FlwG _)).getD i .any) (by kernel_rfl) (by rw [hsz]; kernel_rfl) (by kernel_rfl) rfl rfl ?_ ?_
  · refine ⟨step_freeG rfl (fun aF wF hs hb => ?_), ?_⟩
    · obtain ⟨x0, -⟩ := hs
      have e0 : aF.eval (.tmp 0) = .pointer (some ⟨q, 0, none⟩) := x0.trans h0
      exact opC_move e0 ⟨rfl, (relA _ _).refl wF⟩
    refine ⟨step_freeG rfl (fun aF wF hs hb => ?_), ?_⟩
    · obtain ⟨x0, -⟩ := hs
      have e0 : aF.eval (.tmp 56) = .pointer (some ⟨q, 0, none⟩) := x0
      refine opC_value (v := .pointer (some ⟨q, 0, none⟩)) ?_ ⟨rfl, (relA _ _).refl wF⟩
      have t0 := ev_of e0
      simp [execOp, go_sem, t0]
    refine ⟨step_freeG rfl (fun aF wF hs hb => ?_), ?_⟩
    · obtain ⟨x0, -⟩ := hs
      have e0 : aF.eval (.tmp 57) = .pointer (some ⟨q, 0, none⟩) := x0
      refine opC_value (v := .pointer (some ⟨q, 2, none⟩)) ?_ ⟨rfl, (relA _ _).refl wF⟩
      have t0 := ev_of e0
      simp [execOp, go_sem, t0]
    refine ⟨step_freeG rfl (fun aF wF hs hb => ?_), ?_⟩
    · obtain ⟨x0, -⟩ := hs
      have e0 : aF.eval (.tmp 58) = .pointer (some ⟨q, 2, none⟩) := x0
      exact opC_load e0 (LB wF hb) ⟨⟨rfl, HX wF hb⟩, (relA _ _).refl wF⟩
    refine ⟨step_freeG rfl (fun aF wF hs hb => ?_), ?_⟩
    · obtain ⟨x0, -⟩ := hs
      have e0 : aF.eval (.tmp 5) = .int .u32 (y.a : Int) := x0.trans h5
      exact opC_move e0 ⟨rfl, (relA _ _).refl wF⟩
    refine ⟨step_freeG rfl (fun aF wF hs hb => ?_), ?_⟩
    · obtain ⟨x0, -⟩ := hs
      have e0 : aF.eval (.tmp 0) = .pointer (some ⟨q, 0, none⟩) := x0.trans h0
      exact opC_move e0 ⟨rfl, (relA _ _).refl wF⟩
    refine ⟨step_freeG rfl (fun aF wF hs hb => ?_), ?_⟩
    · obtain ⟨x0, -⟩ := hs
      have e0 : aF.eval (.tmp 6) = .pointer (some ⟨g6, 0, none⟩) := x0.trans h6
      exact opC_load e0 (L6 wF (hb)) ⟨rfl, (relA _ _).refl wF⟩
    refine ⟨step_freeG rfl (fun aF wF hs hb => ?_), ?_⟩
    · obtain ⟨x0, -⟩ := hs
      have e0 : aF.eval (.tmp 8) = .pointer (some ⟨g8, 0, none⟩) := x0.trans h8
      exact opC_load e0 (L8 wF (hb)) ⟨rfl, (relA _ _).refl wF⟩
    refine ⟨step_freeG rfl (fun aF wF hs hb => ?_), ?_⟩
    · obtain ⟨x0, x1, -⟩ := hs
      obtain ⟨m1, m2⟩ : (mapF0 b X0 X1 X2).p (aF.eval (.tmp 59)) wF := x0
      have e1 : aF.eval (.tmp 60) = .int .u32 (y.a : Int) := x1
      exact entry_step HE m2 (by simp [execOp, m1, e1, u32E]) (by exact ⟨_, rfl⟩)
    refine ⟨step_freeG rfl (fun aF wF hs hb => ?_), ?_⟩
    · obtain ⟨x0, -⟩ := hs
      obtain ⟨ve, m1, m2⟩ : (entFm b X1 X2 X0 born).p (aF.eval (.tmp 64)) wF := x0
      refine opC_value (v := goI born) ?_ ⟨⟨rfl, m2⟩, (relA _ _).refl wF⟩
      have t0 := ev_of m1
      simp [execOp, go_sem, t0]
    refine ⟨step_freeG rfl (fun aF wF hs hb => ?_), ?_⟩
    · obtain ⟨x0, x1, x2, -⟩ := hs
      obtain ⟨m1, -⟩ : (mapF0 b X0 X1 X2).p (aF.eval (.tmp 59)) wF := x0
      obtain ⟨m3, m4⟩ : (bornF b X1 X2 X0 born).p (aF.eval (.tmp 65)) wF := x1
      have e2 : aF.eval (.tmp 62) = .agg (vec r1) := x2
      exact estore_step HE m4 (by simp [execOp, m1, m3, e2])
    refine ⟨step_freeG rfl (fun aF wF hs hb => ?_), ?_⟩
    · obtain ⟨x0, -⟩ := hs
      have e0 : aF.eval (.tmp 61) = .pointer (some ⟨q, 0, none⟩) := x0
      refine opC_value (v := .pointer (some ⟨q, 0, none⟩)) ?_ ⟨rfl, (relA _ _).refl wF⟩
      have t0 := ev_of e0
      simp [execOp, go_sem, t0]
    refine ⟨step_freeG rfl (fun aF wF hs hb => ?_), ?_⟩
    · obtain ⟨x0, -⟩ := hs
      have e0 : aF.eval (.tmp 66) = .pointer (some ⟨q, 0, none⟩) := x0
      refine opC_value (v := .pointer (some ⟨q, 3, none⟩)) ?_ ⟨rfl, (relA _ _).refl wF⟩
      have t0 := ev_of e0
      simp [execOp, go_sem, t0]
    exact trivial

  · intro u W' hf hn hb
    have h2 := hn 10 _ 59 rfl rfl
    have e1 := hf 12 67 rfl
    have e2 := hf 7 63 rfl
    have z1 : (putF u [some 56, some 57, some 58, some 59, some 60, some 61, some 62, some 63, some 64, some 65, none, some 66, some 67] 0 a0).eval (.tmp 67) = u 12 := by
      have hz : a0.tmps.size = 78 := hsz
      simp only [putF, Act.put, Act.eval]
      simp [hz]
    have z2 : (putF u [some 56, some 57, some 58, some 59, some 60, some 61, some 62, some 63, some 64, some 65, none, some 66, some 67] 0 a0).eval (.tmp 63) = u 7 := by
      have hz : a0.tmps.size = 78 := hsz
      simp only [putF, Act.put, Act.eval]
      simp [hz]
    have e1' : (putF u [some 56, some 57, some 58, some 59, some 60, some 61, some 62, some 63, some 64, some 65, none, some 66, some 67] 0 a0).eval (.tmp 67) = .pointer (some ⟨q, 3, none⟩) := z1.trans e1
    have e2' : (putF u [some 56, some 57, some 58, some 59, some 60, some 61, some 62, some 63, some 64, some 65, none, some 66, some 67] 0 a0).eval (.tmp 63) = .agg (vec r2) := z2.trans e2
    have hst := run_storeAt_mid (P := Tryz.prog) W' q 3 85 (vec r2) (TH W' hb) (by kernel_rfl) (vec_one _)
    have hq := hQ u W' hb h2
    obtain ⟨A9, hA9⟩ : ∃ A9, putF u [some 56, some 57, some 58, some 59, some 60, some 61, some 62, some 63, some 64, some 65, none, some 66, some 67] 0 a0 = A9 := ⟨_, rfl⟩
    rw [hA9] at e1' e2' hq ⊢
    clear hA9 z1 z2 hQ hf hn
    refine opC_skip (w' := W'.setCells q 3 (vec r2).toList) ?_ hq
    simp only [execOp, e1', e2', hst, Sem.run_bind, Sem.run_pure, Result.andThen_ok]
end Go.Proofs.YtabiaeicejgeiaaGreatDoor
