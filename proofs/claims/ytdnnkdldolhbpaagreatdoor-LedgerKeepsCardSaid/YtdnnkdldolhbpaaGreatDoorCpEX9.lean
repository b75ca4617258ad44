/-
A ledger's Copy: one map of live lines. Conditions: the maps are there.
A ledger's Copy: its sums. Conditions: the maps are there.
A ledger's Copy. Conditions: the ledger is there, its lines are few.
-/
import Derived.Test.YtdnnkdldolhbpaaGreatDoorCpDX9
namespace Go.Proofs.YtdnnkdldolhbpaaGreatDoor
open Go.ChangeShapes Go.WideShapes Go.ChangeAt Go.RowKit Go.Maps Go.MapKept

def cloF (base : Nat) (f : Ky → Option Value) : Flw := ⟨fun v w => ∃ r, v = .map (some r) ∧ base ≤ r ∧ MapF w Ky.In Ky.v r f, fun ⟨r, h1, h2, h3⟩ hb => ⟨r, h1, h2, h3.below hb h3.lt⟩⟩
set_option maxRecDepth 100000 in
set_option maxHeartbeats 4000000 in
theorem copy_map {Q : Exit → Act → World → Prop} {a0 : Act} (hsz : a0.tmps.size = 80) {w : World} (c g2 a b : Nat) (ha : u32In a) (fb : Ky → Option Value) (fo : Nat → Option Value)
    (h3 : a0.eval (.tmp 3) = .pointer (some ⟨c, 0, none⟩)) (h6 : a0.eval (.tmp 6) = .int .u32 (a : Int)) (h7 : a0.eval (.tmp 7) = .map (some b)) {x : Value} {cs : List Value}
    (hc : Blk w c 87 (x :: .map (some g2) :: cs).toArray) (hb : MapF w Ky.In Ky.v b fb) (hg : MapF w u32In u32E g2 fo)
    (hQ : ∀ (f : Nat → Value) w1 w2 r, w.heap.size ≤ r → Below w.heap.size w w1 → MapF w1 Ky.In Ky.v r fb → MapF w2 u32In u32E g2 (upd fo a (some (.map (some r)))) → w1.mapTurned w2 g2 → Q .normal (putF f [some 63, some 64, some 65, some 66, some 67, some 68, some 69] 0 a0) w2) :
    (Code.region 12 [{ dst := some 63, op := Go.Op.move (Go.Operand.tmp 3), type := 24, pos := "ledger.go:160", after := #[], guard := none }, { dst := some 64, op := Go.Op.nilCheck (Go.Operand.tmp 63), type := 0, pos := "ledger.go:160", after := #[{ on := 0, ground := Go.Ground.data }], guard := none }, { dst := some 65, op := Go.Op.fieldAddr 87 (Go.Operand.tmp 64) 1, type := 0, pos := "ledger.go:160", after := #[{ on := 1, ground := Go.Ground.data }], guard := none }, { dst := some 66, op := Go.Op.load 82 (Go.Operand.tmp 65), type := 82, pos := "ledger.go:160", after := #[{ on := 2, ground := Go.Ground.data }], guard := none }, { dst := some 67, op := Go.Op.move (Go.Operand.tmp 6), type := 30, pos := "ledger.go:160", after := #[], guard := none }, { dst := some 68, op := Go.Op.move (Go.Operand.tmp 7), type := 93, pos := "ledger.go:160", after := #[], guard := none }, { dst := some 69, op := Go.Op.call { callee := Go.Callee.value (Go.Operand.func 31), args := #[Go.Operand.tmp 68], argTypes := #[93] }, type := 93, pos := "ledger.go:160", after := #[{ on := 5, ground := Go.Ground.data }], guard := none }, { dst := none, op := Go.Op.mapUpdate 82 (Go.Operand.tmp 66) (Go.Operand.tmp 67) (Go.Operand.tmp 69), type := 0, pos := "ledger.go:160", after := #[{ on := 3, ground := Go.Ground.data }, { on := 4, ground := Go.Ground.data }, { on := 6, ground := Go.Ground.data }, { on := 6, ground := Go.Ground.chain }, { on := 0, ground := Go.Ground.phase }, { on := 1, ground := Go.Ground.phase }, { on := 2, ground := Go.Ground.phase }, { on := 3, ground := Go.Ground.phase }, { on := 4, ground := Go.Ground.phase }, { on := 5, ground := Go.Ground.phase }, { on := 6, ground := Go.Ground.phase }], guard := none }].toArray true).wp Tryz.prog Q a0 w := by
  have LD : ∀ W', Below w.heap.size w W' → (Instr.loadAt 82 (.pointer (some ⟨c, 1, none⟩))).run Tryz.prog W' = .ok (.map (some g2)) W' := fun W' hb' => by
    have x0 := (hc.below hb' hc.lt).cell 1
    simp at x0
    go_simp
  have LO : ∀ W', Below w.heap.size w W' → Calls Tryz.prog 31 #[.map (some b)] W' (ToF (cloF w.heap.size fb) W') := fun W' hb' => (CloneM_any b fb W' (hb.below hb' hb.lt)).mono fun e w' ⟨h1, h2, h3⟩ => ⟨_, h1, ⟨_, rfl, hb'.size, h2⟩, h3⟩
  refine wp_region_flow_last (l := [{ dst := some 63, op := Go.Op.move (Go.Operand.tmp 3), type := 24, pos := "ledger.go:160", after := #[], guard := none }, { dst := some 64, op := Go.Op.nilCheck (Go.Operand.tmp 63), type := 0, pos := "ledger.go:160", after := #[{ on := 0, ground := Go.Ground.data }], guard := none }, { dst := some 65, op := Go.Op.fieldAddr 87 (Go.Operand.tmp 64) 1, type := 0, pos := "ledger.go:160", after := #[{ on := 1, ground := Go.Ground.data }], guard := none }, { dst := some 66, op := Go.Op.load 82 (Go.Operand.tmp 65), type := 82, pos := "ledger.go:160", after := #[{ on := 2, ground := Go.Ground.data }], guard := none }, { dst := some 67, op := Go.Op.move (Go.Operand.tmp 6), type := 30, pos := "ledger.go:160", after := #[], guard := none }, { dst := some 68, op := Go.Op.move (Go.Operand.tmp 7), type := 93, pos := "ledger.go:160", after := #[], guard := none }, { dst := some 69, op := Go.Op.call { callee := Go.Callee.value (Go.Operand.func 31), args := #[Go.Operand.tmp 68], argTypes := #[93] }, type := 93, pos := "ledger.go:160", after := #[{ on := 5, ground := Go.Ground.data }], guard := none }]) (ol := { dst := none, op := Go.Op.mapUpdate 82 (Go.Operand.tmp 66) (Go.Operand.tmp 67) (Go.Operand.tmp 69), type := 0, pos := "ledger.go:160", after := #[{ on := 3, ground := Go.Ground.data }, { on := 4, ground := Go.Ground.data }, { on := 6, ground := Go.Ground.data }, { on := 6, ground := Go.Ground.chain }, { on := 0, ground := Go.Ground.phase }, { on := 1, ground := Go.Ground.phase }, { on := 2, ground := Go.Ground.phase }, { on := 3, ground := Go.Ground.phase }, { on := 4, ground := Go.Ground.phase }, { on := 5, ground := Go.Ground.phase }, { on := 6, ground := Go.Ground.phase }], guard := none }) rfl [some 63, some 64, some 65, some 66, some 67, some 68, some 69] (fun i => ([.is (.pointer (some ⟨c, 0, none⟩)), .is (.pointer (some ⟨c, 0, none⟩)), .is (.pointer (some ⟨c, 1, none⟩)), .is (.map (some g2)), .is (.int .u32 (a : Int)), .is (.map (some b)), cloF w.heap.size fb] : List Flw).getD i .any) (by kernel_rfl) (by rw [hsz]; kernel_rfl) (by kernel_rfl) rfl rfl ?_ ?_
  · skip
    refine ⟨step_free rfl (fun aF wF hs hb => ?_), ?_⟩
    · obtain ⟨x0, -⟩ := hs
      have e0 : aF.eval (.tmp 3) = .pointer (some ⟨c, 0, none⟩) := Eq.trans x0 h3
      exact opC_move e0 ⟨rfl, below_same wF⟩
    refine ⟨step_free rfl (fun aF wF hs hb => ?_), ?_⟩
    · obtain ⟨x0, -⟩ := hs
      have e0 : aF.eval (.tmp 63) = .pointer (some ⟨c, 0, none⟩) := x0
      refine opC_value (v := .pointer (some ⟨c, 0, none⟩)) ?_ ⟨rfl, below_same wF⟩
      have t0 := ev_of e0
      go_simp
    refine ⟨step_free rfl (fun aF wF hs hb => ?_), ?_⟩
    · obtain ⟨x0, -⟩ := hs
      have e0 : aF.eval (.tmp 64) = .pointer (some ⟨c, 0, none⟩) := x0
      refine opC_value (v := .pointer (some ⟨c, 1, none⟩)) ?_ ⟨rfl, below_same wF⟩
      have t0 := ev_of e0
      go_simp
    refine ⟨step_free rfl (fun aF wF hs hb => ?_), ?_⟩
    · obtain ⟨x0, -⟩ := hs
      have e0 : aF.eval (.tmp 65) = .pointer (some ⟨c, 1, none⟩) := x0
      exact opC_load e0 (LD wF hb) ⟨rfl, below_same wF⟩
    refine ⟨step_free rfl (fun aF wF hs hb => ?_), ?_⟩
    · obtain ⟨x0, -⟩ := hs
      have e0 : aF.eval (.tmp 6) = .int .u32 (a : Int) := Eq.trans x0 h6
      exact opC_move e0 ⟨rfl, below_same wF⟩
    refine ⟨step_free rfl (fun aF wF hs hb => ?_), ?_⟩
    · obtain ⟨x0, -⟩ := hs
      have e0 : aF.eval (.tmp 7) = .map (some b) := Eq.trans x0 h7
      exact opC_move e0 ⟨rfl, below_same wF⟩
    refine ⟨step_free rfl (fun aF wF hs hb => ?_), ?_⟩
    · obtain ⟨x0, -⟩ := hs
      have e0 : aF.eval (.tmp 68) = .map (some b) := x0
      exact opC_callF (args := #[.map (some b)]) (enters_of Tryz.func31 (by kernel_rfl) rfl) (by simp [e0]) ((LO wF hb)) (fun _ _ h1 h2 => ⟨h1, h2⟩)
    exact trivial
  · intro f w9 hf hb9
    obtain ⟨r, e69, hr, hm⟩ : (cloF w.heap.size fb).p (f 6) w9 := hf 6 69 rfl
    have e66 : f 3 = .map (some g2) := hf 3 66 rfl
    have e67 : f 4 = .int .u32 (a : Int) := hf 4 67 rfl
    refine pack_last f _ ?_
    intro T hTs hold hnew hTe
    have h69 := hnew 69 6 (by rw [hsz]; decide) rfl (uniq_at (by kernel_rfl))
    have h66 := hnew 66 3 (by rw [hsz]; decide) rfl (uniq_at (by kernel_rfl))
    have h67 := hnew 67 4 (by rw [hsz]; decide) rfl (uniq_at (by kernel_rfl))
    rw [e69] at h69
    rw [e66] at h66
    rw [e67] at h67
    obtain ⟨w2, hst, hm2, ht⟩ := (hg.below hb9 hg.lt).store keyU32 Tryz.underlying82 ha (.map (some r))
    unfold u32E at hst
    have hfin := hQ f w9 w2 r hr hb9 hm hm2 ht
    rw [← hTe] at hfin
    have t0 := ev_of (tmp_of_eval (Ed := a0.defers) h66)
    have t1 := ev_of (tmp_of_eval (Ed := a0.defers) h67)
    have t2 := ev_of (tmp_of_eval (Ed := a0.defers) h69)
    simp only at t0 t1 t2
    constructor
    simp [execOp, go_sem, t0, t1, t2, hst]
    exact hfin
end Go.Proofs.YtdnnkdldolhbpaaGreatDoor
namespace Go.Proofs.YtdnnkdldolhbpaaGreatDoor
open Go.ChangeShapes Go.WideShapes Go.ChangeAt Go.RowKit Go.Maps Go.MapKept

set_option maxRecDepth 100000 in
set_option maxHeartbeats 4000000 in
theorem copy_sums {Q : Exit → Act → World → Prop} {a0 : Act} (hsz : a0.tmps.size = 80) {w : World} (c q g3 : Nat) (bm : Option Nat) (fb : Nat → Option Value)
    (h0 : a0.eval (.tmp 0) = .pointer (some ⟨q, 0, none⟩)) (h3 : a0.eval (.tmp 3) = .pointer (some ⟨c, 0, none⟩)) {x y x' y' : Value} {cs cs' : List Value}
    (hc : Blk w c 87 (x :: y :: .map (some g3) :: cs).toArray) (hq : Blk w q 87 (x' :: y' :: .map bm :: cs').toArray) (hg : MapF w u32In u32E g3 (fun _ => none)) (hb : MapO w u32In u32E bm fb) (hne : bm ≠ some g3) (hv : ∀ a v, fb a = some v → ∃ g, v = .agg (vec g))
    (hQ : ∀ (f : Nat → Value) w1 w2, Below w.heap.size w w1 → MapF w2 u32In u32E g3 fb → w1.grownBy w2 (some g3) → Q .normal ((putF f [some 70, some 71, some 72, some 73, some 74, some 75, some 76, some 77] 0 a0).put (some 78) (.tuple #[])) w2) :
    (Code.region 13 [{ dst := some 70, op := Go.Op.move (Go.Operand.tmp 3), type := 24, pos := "ledger.go:162", after := #[], guard := none }, { dst := some 71, op := Go.Op.nilCheck (Go.Operand.tmp 70), type := 0, pos := "ledger.go:162", after := #[{ on := 0, ground := Go.Ground.data }], guard := none }, { dst := some 72, op := Go.Op.fieldAddr 87 (Go.Operand.tmp 71) 2, type := 0, pos := "ledger.go:162", after := #[{ on := 1, ground := Go.Ground.data }], guard := none }, { dst := some 73, op := Go.Op.load 83 (Go.Operand.tmp 72), type := 83, pos := "ledger.go:162", after := #[{ on := 2, ground := Go.Ground.data }], guard := none }, { dst := some 74, op := Go.Op.move (Go.Operand.tmp 0), type := 24, pos := "ledger.go:162", after := #[], guard := none }, { dst := some 75, op := Go.Op.nilCheck (Go.Operand.tmp 74), type := 0, pos := "ledger.go:162", after := #[{ on := 4, ground := Go.Ground.data }], guard := none }, { dst := some 76, op := Go.Op.fieldAddr 87 (Go.Operand.tmp 75) 2, type := 0, pos := "ledger.go:162", after := #[{ on := 5, ground := Go.Ground.data }], guard := none }, { dst := some 77, op := Go.Op.load 83 (Go.Operand.tmp 76), type := 83, pos := "ledger.go:162", after := #[{ on := 6, ground := Go.Ground.data }], guard := none }, { dst := some 78, op := Go.Op.call { callee := Go.Callee.value (Go.Operand.func 32), args := #[Go.Operand.tmp 73, Go.Operand.tmp 77], argTypes := #[83, 83] }, type := 0, pos := "ledger.go:162", after := #[{ on := 3, ground := Go.Ground.data }, { on := 7, ground := Go.Ground.data }], guard := none }].toArray true).wp Tryz.prog Q a0 w := by
  have LD : ∀ W', Below w.heap.size w W' → (Instr.loadAt 83 (.pointer (some ⟨c, 2, none⟩))).run Tryz.prog W' = .ok (.map (some g3)) W' := fun W' hb' => by
    have x0 := (hc.below hb' hc.lt).cell 2
    simp at x0
    go_simp
  have LQ : ∀ W', Below w.heap.size w W' → (Instr.loadAt 83 (.pointer (some ⟨q, 2, none⟩))).run Tryz.prog W' = .ok (.map bm) W' := fun W' hb' => by
    have x0 := (hq.below hb' hq.lt).cell 2
    simp at x0
    go_simp
  refine wp_region_flow_last (l := [{ dst := some 70, op := Go.Op.move (Go.Operand.tmp 3), type := 24, pos := "ledger.go:162", after := #[], guard := none }, { dst := some 71, op := Go.Op.nilCheck (Go.Operand.tmp 70), type := 0, pos := "ledger.go:162", after := #[{ on := 0, ground := Go.Ground.data }], guard := none }, { dst := some 72, op := Go.Op.fieldAddr 87 (Go.Operand.tmp 71) 2, type := 0, pos := "ledger.go:162", after := #[{ on := 1, ground := Go.Ground.data }], guard := none }, { dst := some 73, op := Go.Op.load 83 (Go.Operand.tmp 72), type := 83, pos := "ledger.go:162", after := #[{ on := 2, ground := Go.Ground.data }], guard := none }, { dst := some 74, op := Go.Op.move (Go.Operand.tmp 0), type := 24, pos := "ledger.go:162", after := #[], guard := none }, { dst := some 75, op := Go.Op.nilCheck (Go.Operand.tmp 74), type := 0, pos := "ledger.go:162", after := #[{ on := 4, ground := Go.Ground.data }], guard := none }, { dst := some 76, op := Go.Op.fieldAddr 87 (Go.Operand.tmp 75) 2, type := 0, pos := "ledger.go:162", after := #[{ on := 5, ground := Go.Ground.data }], guard := none }, { dst := some 77, op := Go.Op.load 83 (Go.Operand.tmp 76), type := 83, pos := "ledger.go:162", after := #[{ on := 6, ground := Go.Ground.data }], guard := none }]) (ol := { dst := some 78, op := Go.Op.call { callee := Go.Callee.value (Go.Operand.func 32), args := #[Go.Operand.tmp 73, Go.Operand.tmp 77], argTypes := #[83, 83] }, type := 0, pos := "ledger.go:162", after := #[{ on := 3, ground := Go.Ground.data }, { on := 7, ground := Go.Ground.data }], guard := none }) rfl [some 70, some 71, some 72, some 73, some 74, some 75, some 76, some 77] (fun i => ([.is (.pointer (some ⟨c, 0, none⟩)), .is (.pointer (some ⟨c, 0, none⟩)), .is (.pointer (some ⟨c, 2, none⟩)), .is (.map (some g3)), .is (.pointer (some ⟨q, 0, none⟩)), .is (.pointer (some ⟨q, 0, none⟩)), .is (.pointer (some ⟨q, 2, none⟩)), .is (.map bm)] : List Flw).getD i .any) (by kernel_rfl) (by rw [hsz]; kernel_rfl) (by kernel_rfl) rfl rfl ?_ ?_
  · skip
    refine ⟨step_free rfl (fun aF wF hs hb => ?_), ?_⟩
    · obtain ⟨x0, -⟩ := hs
      have e0 : aF.eval (.tmp 3) = .pointer (some ⟨c, 0, none⟩) := Eq.trans x0 h3
      exact opC_move e0 ⟨rfl, below_same wF⟩
    refine ⟨step_free rfl (fun aF wF hs hb => ?_), ?_⟩
    · obtain ⟨x0, -⟩ := hs
      have e0 : aF.eval (.tmp 70) = .pointer (some ⟨c, 0, none⟩) := x0
      refine opC_value (v := .pointer (some ⟨c, 0, none⟩)) ?_ ⟨rfl, below_same wF⟩
      have t0 := ev_of e0
      go_simp
    refine ⟨step_free rfl (fun aF wF hs hb => ?_), ?_⟩
    · obtain ⟨x0, -⟩ := hs
      have e0 : aF.eval (.tmp 71) = .pointer (some ⟨c, 0, none⟩) := x0
      refine opC_value (v := .pointer (some ⟨c, 2, none⟩)) ?_ ⟨rfl, below_same wF⟩
      have t0 := ev_of e0
      go_simp
    refine ⟨step_free rfl (fun aF wF hs hb => ?_), ?_⟩
    · obtain ⟨x0, -⟩ := hs
      have e0 : aF.eval (.tmp 72) = .pointer (some ⟨c, 2, none⟩) := x0
      exact opC_load e0 (LD wF hb) ⟨rfl, below_same wF⟩
    refine ⟨step_free rfl (fun aF wF hs hb => ?_), ?_⟩
    · obtain ⟨x0, -⟩ := hs
      have e0 : aF.eval (.tmp 0) = .pointer (some ⟨q, 0, none⟩) := Eq.trans x0 h0
      exact opC_move e0 ⟨rfl, below_same wF⟩
    refine ⟨step_free rfl (fun aF wF hs hb => ?_), ?_⟩
    · obtain ⟨x0, -⟩ := hs
      have e0 : aF.eval (.tmp 74) = .pointer (some ⟨q, 0, none⟩) := x0
      refine opC_value (v := .pointer (some ⟨q, 0, none⟩)) ?_ ⟨rfl, below_same wF⟩
      have t0 := ev_of e0
      go_simp
    refine ⟨step_free rfl (fun aF wF hs hb => ?_), ?_⟩
    · obtain ⟨x0, -⟩ := hs
      have e0 : aF.eval (.tmp 75) = .pointer (some ⟨q, 0, none⟩) := x0
      refine opC_value (v := .pointer (some ⟨q, 2, none⟩)) ?_ ⟨rfl, below_same wF⟩
      have t0 := ev_of e0
      go_simp
    refine ⟨step_free rfl (fun aF wF hs hb => ?_), ?_⟩
    · obtain ⟨x0, -⟩ := hs
      have e0 : aF.eval (.tmp 76) = .pointer (some ⟨q, 2, none⟩) := x0
      exact opC_load e0 (LQ wF hb) ⟨rfl, below_same wF⟩
    exact trivial
  · intro f w9 hf hb9
    have e73 : f 3 = .map (some g3) := hf 3 73 rfl
    have e77 : f 7 = .map bm := hf 7 77 rfl
    refine pack_last f _ ?_
    intro T hTs hold hnew hTe
    have h73 := hnew 73 3 (by rw [hsz]; decide) rfl (uniq_at (by kernel_rfl))
    have h77 := hnew 77 7 (by rw [hsz]; decide) rfl (uniq_at (by kernel_rfl))
    rw [e73] at h73
    rw [e77] at h77
    have t0 : (⟨T, a0.defers⟩ : Act).eval (.tmp 73) = .map (some g3) := tmp_of_eval h73
    have t1 : (⟨T, a0.defers⟩ : Act).eval (.tmp 77) = .map bm := tmp_of_eval h77
    refine opC_callK (args := #[.map (some g3), .map bm]) (enters_of Tryz.func32 (by kernel_rfl) rfl) (by simp [t0, t1]) ((CopyM_any g3 bm fb w9 (hg.below hb9 hg.lt) (hb.keep (fun b hbb => hb9.block b (hb.lt hbb))) hne hv).mono fun e w2 ⟨k1, k2, k3⟩ => ⟨_, k1, ?_⟩)
    have hfin := hQ f w9 w2 hb9 k2 k3
    rw [← hTe] at hfin
    exact hfin
end Go.Proofs.YtdnnkdldolhbpaaGreatDoor
namespace Go.Proofs.YtdnnkdldolhbpaaGreatDoor
open Go.ChangeShapes Go.WideShapes Go.ChangeAt Go.RowKit Go.Maps Go.MapKept

def CpPost (M : List Li) (w : World) (e : Ending) (w' : World) : Prop := ∃ (c : Nat) (D' : Nat → Prop), e = .returned (.pointer (some ⟨c, 0, none⟩)) ∧ Led w' c D' M ∧ (∀ i, D' i → w.heap.size ≤ i) ∧ Below w.heap.size w w'
theorem Done.past {w w' : World} {base : Nat} {M : List Li} {V : List LinV} (h : Done w base M V) {g3 : Nat} {es : Array MapEntry} {cl : Nat} (hk : ∀ i, i < w.heap.size → i ≠ g3 → w'.heap[i]? = w.heap[i]?) (hg : w.heap[g3]? = some (.map es cl)) : Done w' base M V :=
  ⟨h.len, fun j v x hv hx => by
    obtain ⟨k1, k2, k3, k4⟩ := h.at_ j v x hv hx
    refine ⟨k1, k2, k3, k4.same fun g hgb => hk g (k4.lt g hgb).2 (fun e => ?_)⟩
    subst e
    obtain ⟨cs, hcs⟩ := own_blk14 k4 hgb
    rw [show w.heap[g]? = _ from hcs] at hg
    cases hg⟩
theorem Done.keep2 {w w' : World} {base r : Nat} {M : List Li} {V : List LinV} (h : Done w base M V) (hk : ∀ i, i < w.heap.size → i ≠ r → w'.heap[i]? = w.heap[i]?) (hn : ∀ cs, ¬ Blk w r 53 cs) : Done w' base M V :=
  ⟨h.len, fun j v x hv hx => by
    obtain ⟨k1, k2, k3, k4⟩ := h.at_ j v x hv hx
    refine ⟨k1, k2, k3, k4.same fun g hgb => hk g (k4.lt g hgb).2 (fun e => ?_)⟩
    subst e
    obtain ⟨cs, hcs⟩ := own_blk14 k4 hgb
    exact hn cs hcs⟩
theorem MapR.no_blk {κ : Type} {w : World} {In : κ → Prop} {enc : κ → Value} {m : Option Nat} {r : Nat} {f : κ → Option Value} {left : κ → Prop} {cnt : Nat} (h : MapR w In enc m r f left cnt) {t : TypeId} {cs : Array Value} : ¬ Blk w r t cs := fun hb => by
  cases m with
  | none =>
    have h1 := h.1
    rw [show w.heap[r]? = _ from hb] at h1
    cases h1
  | some b =>
    obtain ⟨es, clock, since, seen, c0, _, _, hr, _⟩ := h
    rw [show w.heap[r]? = _ from hb] at hr
    cases hr
theorem LiveDone.past {w w' : World} {base g2 g3 : Nat} {L : Ky → Option Nat} {inn inn' : Nat → Option Nat} {left : Nat → Prop} (h : LiveDone w base g2 L inn inn' left) (hk : ∀ i, i < w.heap.size → i ≠ g3 → w'.heap[i]? = w.heap[i]?) (hg : g2 ≠ g3) (hn : ∀ a r, inn' a = some r → r ≠ g3) : LiveDone w' base g2 L inn inn' left :=
  ⟨h.out.keep (hk g2 h.out.lt hg), h.no, h.yes, fun a r hr => by
    obtain ⟨k1, k2, k3⟩ := h.at_ a r hr
    exact ⟨k1, k2, k3.keep (hk r k3.lt (hn a r hr))⟩, h.one⟩
theorem led_copy {w w2 : World} {c g1 g2 g3 : Nat} {M : List Li} {Vd : List LinV} {inn inn' : Nat → Option Nat} {left : Nat → Prop} {D : Nat → Prop} {lm : Option Nat} (hC : Blk w2 c 87 (ledC (.slice (some ⟨g1, 0, none⟩) M.length M.length) (.map (some g2)) (.map (some g3)) M)) (hc : w.heap.size ≤ c)
    (hO : OwnS linT 42 w2 w.heap.size (.slice (some ⟨g1, 0, none⟩) M.length M.length) M.length Vd) (hD : Done w2 w.heap.size M Vd) (hl : Vd.length = M.length) (hL : LiveDone w2 w.heap.size g2 (liveL M) inn inn' left) (hn : ∀ a, ¬ left a) (h4 : LiveAt w D (liveL M) lm inn) (hg2 : w.heap.size ≤ g2) (hg3 : w.heap.size ≤ g3)
    (hB : MapF w2 u32In u32E g3 (fun a => if hasLn M a then some (.agg (vec (bal M a))) else none)) (hne : g2 ≠ g3) (h3 : ∀ a r, inn' a = some r → r ≠ g3) (hF : Fine M) : Led w2 c (fun i => w.heap.size ≤ i ∧ i < w2.heap.size) M := by
  refine ⟨_, Vd, some g2, some g3, inn', hC, own_lower hO (Nat.zero_le _), ⟨hl, fun i v x hv hx => ?_, fun i v x hv hx => ?_, fun i v p hv hp => ?_⟩, ⟨fun hh => (by cases hh), fun b hb => ?_, fun a r hr => ?_, fun y hy => ?_, hL.one⟩, ⟨fun hh => (by cases hh), fun b hb => ?_⟩, hF, ⟨hc, hC.lt⟩, fun b hb => hO.lt b hb, fun i hi => hi.2, ⟨fun hh => (by cases hh), fun hh => (by cases hh)⟩, fun b hb => ?_⟩
  · obtain ⟨k1, k2, k3, _⟩ := hD.at_ i v x hv hx
    exact ⟨k1, k2, k3⟩
  · obtain ⟨_, _, k3, k4⟩ := hD.at_ i v x hv hx
    obtain ⟨_, A', c', he, _, _, hr⟩ := k4.form (by decide)
    injection he with e1
    rw [e1]
    refine ⟨hr, fun p hp => ?_⟩
    have hlt := k4.lt p.block (by rw [e1, hp]; rfl)
    exact hlt
  · have hi : i < M.length := by rw [← hl]; exact (List.getElem?_eq_some_iff.1 hv).1
    obtain ⟨_, _, k3, k4⟩ := hD.at_ i v _ hv (List.getElem?_eq_getElem hi)
    rw [hp] at k4
    exact own_blk14 k4 rfl
  · cases hb
    exact ⟨⟨hg2, hL.out.lt⟩, hL.out, fun a e => (hL.at_ a _ e).2.1 rfl⟩
  · obtain ⟨k1, _, k3⟩ := hL.at_ a r hr
    exact ⟨⟨k1, k3.lt⟩, k3⟩
  · exact h4.no y ((hL.yes y.a (hn _)).1 hy)
  · cases hb
    exact ⟨⟨hg3, hB.lt⟩, hB⟩
  · cases hb
    exact ⟨fun e => hne (Option.some.inj e), fun a e => h3 a _ e rfl⟩
set_option maxRecDepth 100000 in
set_option maxHeartbeats 4000000 in
theorem Copy_any (q : Nat) (D : Nat → Prop) (M : List Li) (w : World) (h : Led w q D M) (hM : M.length ≤ 1000000) : Calls Tryz.prog 10 #[.pointer (some ⟨q, 0, none⟩)] w (CpPost M w) := by
  obtain ⟨lv, V, lm, bm, inn, h1, h2, h3, h4, h5, h6, h7, h8, h9, h10, h11⟩ := h
  obtain ⟨hVl, A, cM, rfl, hc, hm, hrow⟩ := h2.form (by decide)
  obtain ⟨inn0, h40, hlo⟩ : ∃ inn0 : Nat → Option Nat, LiveAt w D (liveL M) lm inn0 ∧ MapO w u32In u32E lm (fun a => (inn0 a).map (fun r => .map (some r))) := by
    cases lm with
    | none => exact ⟨fun _ => none, ⟨h4.nil, (fun b hb => by cases hb), (fun a r hr => by cases hr), (fun y _ => h4.nil rfl y), (fun a a' r hr => by cases hr)⟩, fun x => rfl⟩
    | some b => exact ⟨inn, h4, (h4.out b rfl).2.1⟩
  have hbo : MapO w u32In u32E bm (fun a => if hasLn M a then some (.agg (vec (bal M a))) else none) := by
    cases bm with
    | none =>
      have := h5.nil rfl
      subst this
      exact fun x => rfl
    | some b => exact (h5.out b rfl).2
  have HH1 := Lib.hid h1
  have HLO := Lib.hid hlo
  have HBO := Lib.hid hbo
  have HROW := Lib.hid hrow
  have H3 := Lib.hid h3
  have H4 := Lib.hid h40
  have H5 := Lib.hid h5
  have H6 := Lib.hid h6
  clear h1 hlo hbo hrow h3 h4 h40 h5 h6 h7 h8 h10 h11 h2
  go_enter Tryz.func10, Tryz.ntmps10
  go_upto_region 3 with (fail)
  refine copy_begin rfl q A cM lm bm M _ _ hM rfl rfl rfl HH1.out HLO.out HBO.out ?_
  intro f w1 c g1 g2 g3 hf hb1 hc1 hbc hg hne hz1 hz2 hz3
  simp only [putF, Act.put, List.setIfInBounds_toArray, List.set_cons_zero, List.set_cons_succ]
  rw [hf]
  have HB1 := Lib.hid hb1
  have HQ1 := Lib.hid (HH1.out.below hb1 HH1.out.lt)
  have HC1 := Lib.hid hbc
  have HG1 := Lib.hid (own_zero hz1 hg.1 hM)
  have HZ2 := Lib.hid hz2
  have HZ3 := Lib.hid hz3
  have HF := Lib.hid hf
  have hg1 := hg.1
  have hg2 := hg.2.1
  have hg3 := hg.2.2
  have hcg1 : c ≠ g1 := fun e => by
    subst e
    exact blk_ne (show Blk w1 c _ _ from hz1) hbc (by decide) rfl
  have hg12 : g2 ≠ g1 := fun e => by
    subst e
    rw [hz1] at hz2
    cases hz2
  have hg13 : g3 ≠ g1 := fun e => by
    subst e
    rw [hz1] at hz3
    cases hz3
  have hcg2 : c ≠ g2 := fun e => by
    subst e
    rw [show w1.heap[c]? = _ from hbc] at hz2
    cases hz2
  have hcg3 : c ≠ g3 := fun e => by
    subst e
    rw [show w1.heap[c]? = _ from hbc] at hz3
    cases hz3
  clear hz1 hz2 hz3 hf hbc hb1 hg
  have q0 := HQ1.out.cell 0
  simp [ledC] at q0
  go_wp2_with fail
  go_loopw [4, 5, 39] (fun _ _ i wr => ∃ (k : Nat) (Vd : List LinV), Hid (Vd.length = k) ∧ k ≤ M.length ∧ i = .int .i64 k ∧ Hid (Done wr w.heap.size M Vd) ∧ Hid (OwnS linT 42 wr w.heap.size (.slice (some ⟨g1, 0, none⟩) M.length M.length) M.length (Vd ++ List.replicate (M.length - k) linZ)) ∧ Hid (Below w.heap.size w wr) ∧
    Hid (Blk wr c 87 (ledC (.slice (some ⟨g1, 0, none⟩) M.length M.length) (.map (some g2)) (.map (some g3)) M)) ∧ Hid (wr.heap[g2]? = some (.map #[] 0)) ∧ Hid (wr.heap[g3]? = some (.map #[] 0))) (fun _ _ i _ => M.length - (intOf i).toNat)
  case atStart => exact ⟨0, [], Lib.hid rfl, Nat.zero_le _, rfl, Lib.hid (Done.nil _ _ _), HG1, HB1, HC1, HZ2, HZ3⟩
  case round =>
    obtain ⟨k, Vd, HK, hkM, rfl, HD, HO, HBL, HC, HM2, HM3⟩ := hrel
    by_cases hlt : k < M.length
    · have hkV : k < V.length := by rw [hVl]; exact hlt
      obtain ⟨b0, o0, rfl, hb0, hcell⟩ := (HROW.out.below HBL.out).at_ hkV
      obtain ⟨hy, ho, hn⟩ := H3.out.y k _ _ (List.getElem?_eq_getElem hkV) (List.getElem?_eq_getElem hlt)
      have hr3 := (H3.out.r k _ _ (List.getElem?_eq_getElem hkV) (List.getElem?_eq_getElem hlt)).1
      have hxM := List.getElem?_eq_getElem hlt
      have hin := H6.out.inn _ (List.getElem_mem hlt)
      generalize V[k] = v at *
      generalize M[k] = x at *
      obtain ⟨vy, vA, vn, vc, vo⟩ := v
      simp only at hy ho hn hr3
      subst hy ho hn
      have d0 := hcell 0 _ rfl
      have d1 := hcell 1 _ rfl
      have d2 := hcell 2 _ rfl
      have d3 := hcell 3 _ rfl
      have d4 := hcell 4 _ rfl
      have d5 := hcell 5 _ rfl
      simp only [show linT.k = 6 from rfl, Nat.add_zero, ← Nat.add_assoc] at d0 d1 d2 d3 d4 d5
      obtain ⟨Z, hZ⟩ : ∃ Z : Array Value, Z = #[.int .u32 (x.y.a : Int), .int .i32 x.y.d, .int .u8 (x.y.k : Int), .int .u32 (x.y.s : Int), .slice vA x.l.length vc, .int .i64 (x.o : Int)] := ⟨_, rfl⟩
      have HN := Lib.hid (Blk.new wr 42 Z)
      have hba := b_alloc wr (.cells Z 42)
      have HC5 := Lib.hid (HC.out.below hba HC.out.lt)
      have HO5 := Lib.hid (HO.out.below hba)
      have HR5 := Lib.hid ((hr3.below HBL.out).up (Nat.le_trans HBL.out.size hba.size))
      have hr5' := hr3.below (HBL.out.trans (hba.mono HBL.out.size))
      have HR5 := Lib.hid (hr5'.up (Nat.le_trans HBL.out.size hba.size))
      have HBA := Lib.hid hba
      have HIN := Lib.hid hin
      have HXM := Lib.hid hxM
      clear hcell hr3 hr5' hba hin hxM
      subst hZ
      go_upto_region 7 with (fail)
      obtain ⟨W5, hW5⟩ : ∃ W, wr.alloc (.cells #[.int .u32 (x.y.a : Int), .int .i32 x.y.d, .int .u8 (x.y.k : Int), .int .u32 (x.y.s : Int), .slice vA x.l.length vc, .int .i64 (x.o : Int)] 42) = W := ⟨_, rfl⟩
      rw [hW5] at HN HC5 HO5 HR5 HBA ⊢
      clear hW5
      refine copy_line rfl c wr.heap.size g1 M.length k x.y vA vc x.o x.l _ hlt rfl rfl rfl HC5.out HN.out HR5.out HIN.out.2.2.2.1.1 (by have := HIN.out.2.2.2.1.2; omega) (own_lower HO5.out (Nat.zero_le _)) ?_
      intro f2 w6 A6 c6 hb6 hO6
      simp only [putF, Act.put, List.setIfInBounds_toArray, List.set_cons_zero, List.set_cons_succ]
      have hgw : g1 < wr.heap.size := by
        rcases HO.out.lt g1 rfl with ⟨_, h⟩
        exact h
      have hO7 := own_setLin (HO5.out.below hb6) (k := k) (by rw [List.length_append, List.length_replicate, HK.out]; omega) ⟨x.y, A6, x.l.length, c6, x.o⟩
      have hset := set_zero (V := Vd) (n := M.length) (by rw [HK.out]; exact hlt) ⟨x.y, A6, x.l.length, c6, x.o⟩
      rw [HK.out] at hset
      rw [hset] at hO7
      have hL6 : ∃ cs, Blk w6 g1 42 cs := own_blk14 (HO5.out.below hb6) rfl
      obtain ⟨cs6, hL6⟩ := hL6
      have hbw6 : Below wr.heap.size wr w6 := HBA.out.trans (hb6.mono HBA.out.size)
      have hL0 : ∃ cs, Blk wr g1 42 cs := own_blk14 HO.out rfl
      obtain ⟨cs0, hL0⟩ := hL0
      have hD7 := ((HD.out.keep (w' := w6) hL0 (fun i hi _ => hbw6.block i hi)).keep (w' := setLin w6 g1 (k * 6) x.y (.slice A6 x.l.length c6) x.o) hL6 (fun i _ hi => heap_setLin _ _ _ _ _ _ _ hi))
      have hO8 := (own_lower hO6 (Nat.le_trans HBL.out.size HBA.out.size)).same (w' := setLin w6 g1 (k * 6) x.y (.slice A6 x.l.length c6) x.o) (fun g hg => heap_setLin _ _ _ _ _ _ _ (fun e => by
        subst e
        exact hO6.ne_blk hL6 (by decide) hg))
      have hD8 := hD7.snoc (x := x) (by rw [HK.out]; exact HXM.out) ⟨x.y, A6, x.l.length, c6, x.o⟩ rfl rfl rfl hO8
      have hB8 := below_setLin (g := g1) (HBL.out.trans (hbw6.mono HBL.out.size)) hg1 (k * 6) x.y (.slice A6 x.l.length c6) x.o
      have hC8 : Blk (setLin w6 g1 (k * 6) x.y (.slice A6 x.l.length c6) x.o) c 87 _ := (heap_setLin _ _ _ _ _ _ _ hcg1).trans (HC.out.below hbw6 HC.out.lt)
      have hM28 := (heap_setLin w6 g1 (k * 6) x.y (.slice A6 x.l.length c6) x.o _ hg12).trans ((hbw6.block g2 (lt_heap HM2.out)).trans HM2.out)
      have hM38 := (heap_setLin w6 g1 (k * 6) x.y (.slice A6 x.l.length c6) x.o _ hg13).trans ((hbw6.block g3 (lt_heap HM3.out)).trans HM3.out)
      obtain ⟨W8, hW8⟩ : ∃ W, setLin w6 g1 (k * 6) x.y (.slice A6 x.l.length c6) x.o = W := ⟨_, rfl⟩
      rw [hW8] at hO7 hD8 hB8 hC8 hM28 hM38 ⊢
      have HO8 := Lib.hid hO7
      have HD8 := Lib.hid hD8
      have HB8 := Lib.hid hB8
      have HC8 := Lib.hid hC8
      have HM28 := Lib.hid hM28
      have HM38 := Lib.hid hM38
      have HKL := Lib.hid (show (Vd ++ [(⟨x.y, A6, x.l.length, c6, x.o⟩ : LinV)]).length = k + 1 by simp [HK.out])
      clear hW8 hO7 hD7 hD8 hB8 hC8 hM28 hM38 hset hL6 hL0 hbw6 hO8 hb6 hO6
      go_wp2_with fail
      go_roundw
      case rel => exact ⟨k + 1, _, HKL, by omega, by go_num, HD8, HO8, HB8, HC8, HM28, HM38⟩
      case measure => simp [intOf]; omega
    · obtain rfl : k = M.length := by omega
      obtain ⟨wA, rfl⟩ : ∃ x, x = wr := ⟨wr, rfl⟩
      have hO := HO.out
      rw [Nat.sub_self, List.replicate_zero, List.append_nil] at hO
      have HO := Lib.hid hO
      clear hO
      have hqw := HH1.out.below HBL.out HH1.out.lt
      have q1 := hqw.cell 1
      simp [ledC] at q1
      have HLW := Lib.hid (HLO.out.keep (w' := wA) (fun b hb => HBL.out.block b (HLO.out.lt hb)))
      have HLT := Lib.hid (fun b hb => HLO.out.lt (b := b) hb)
      have HBT := Lib.hid (fun b hb => HBO.out.lt (b := b) hb)
      clear q0 hqw
      go_wp2_with (at_range; refine wpList_rangeF (f := (fun a => (inn0 a).map (fun r => .map (some r)))) rfl _ rfl keyU32 Tryz.underlying82 rfl HLW.out ?_; intro w3 cnt3 hr3 hg3' hs3)
      go_frame
      have hb3 : Below wA.heap.size wA w3 := below_of_grown hg3'
      have HR3 := Lib.hid hr3
      have hgw := hb3.size
      have hD3 : Done w3 w.heap.size M Vd := by
        obtain ⟨cs0, hL0⟩ := own_blk14 HO.out rfl
        exact HD.out.keep hL0 (fun i hi _ => hb3.block i hi)
      have HD3 := Lib.hid hD3
      have HO3 := Lib.hid (HO.out.below hb3)
      have HB3 := Lib.hid (HBL.out.trans (hb3.mono HBL.out.size))
      have HC3 := Lib.hid (HC.out.below hb3 HC.out.lt)
      have HG23 := Lib.hid ((hb3.block g2 (lt_heap HM2.out)).trans HM2.out)
      have HG33 := Lib.hid ((hb3.block g3 (lt_heap HM3.out)).trans HM3.out)
      have hrg1 : wA.heap.size ≠ g1 := fun e => by
        have := (HO.out.lt g1 rfl).2
        omega
      have hrg2 : wA.heap.size ≠ g2 := fun e => by
        have := lt_heap HM2.out
        omega
      have hrg3 : wA.heap.size ≠ g3 := fun e => by
        have := lt_heap HM3.out
        omega
      have hrc : wA.heap.size ≠ c := fun e => by
        have := HC.out.lt
        omega
      have hgs := HBL.out.size
      have HK2 := HK
      clear hr3 hg3' hb3 HD HO HBL HC HM2 HM3 q1 HLW
      go_loopw [6, 7] (fun _ _ w9 => ∃ (left : Nat → Prop) (cnt : Nat) (inn' : Nat → Option Nat), Hid (MapR w9 u32In u32E lm wA.heap.size (fun a => (inn0 a).map (fun r => .map (some r))) left cnt) ∧ Hid (LiveDone w9 w.heap.size g2 (liveL M) inn0 inn' left) ∧ Hid (Done w9 w.heap.size M Vd) ∧ Hid (OwnS linT 42 w9 w.heap.size (.slice (some ⟨g1, 0, none⟩) M.length M.length) M.length Vd) ∧ Hid (Below w.heap.size w w9) ∧
        Hid (Blk w9 c 87 (ledC (.slice (some ⟨g1, 0, none⟩) M.length M.length) (.map (some g2)) (.map (some g3)) M)) ∧ Hid (w9.heap[g3]? = some (.map #[] 0)) ∧ wA.heap.size < w9.heap.size ∧ ∀ a r, inn' a = some r → r ≠ g3 ∧ r ≠ wA.heap.size) (fun _ _ w9 => mapLeft w9 lm wA.heap.size)
      case atStart =>
        refine ⟨_, cnt3, fun _ => none, HR3, Lib.hid ⟨⟨#[], 0, HG23.out, by simp, by simp, stamped_empty 0⟩, fun _ _ => rfl, fun a ha => ?_, fun a r hr => (by cases hr), fun a a' r hr => (by cases hr)⟩, HD3, HO3, HB3, HC3, HG33, by omega, fun a r hr => (by cases hr)⟩
        refine ⟨fun _ => ?_, fun _ => rfl⟩
        cases e : inn0 a with
        | none => rfl
        | some b => exact absurd ⟨_, by rw [e]; rfl⟩ ha
      case round =>
        obtain ⟨left, cnt, inn', HR, HLD, HD, HO, HBL, HC, HM3, hsz, hin3⟩ := hrel
        go_wp2_with (at_next; refine wpList_nextF (m := lm) (f := (fun a => (inn0 a).map (fun r => .map (some r)))) rfl _ rfl keyU32 rfl HR.out ?_ ?_)
        · intro _ hl0
          have HL0 := Lib.hid hl0
          clear hl0
          go_upto_region 13 with (fail)
          refine copy_sums rfl c q g3 bm _ rfl rfl HC.out (HH1.out.below HBL.out HH1.out.lt) ⟨#[], 0, HM3.out, by simp, by simp, stamped_empty 0⟩ (HBO.out.keep (fun b hb => HBL.out.block b (HBT.out b hb))) (fun e => by have := HBT.out g3 e; omega) (fun a v hv => ?_) ?_
          · split at hv
            · injection hv with hv
              exact ⟨_, hv.symm⟩
            · cases hv
          intro f2 w10 w11 hb10 hm11 hg11
          simp only [putF, Act.put, List.setIfInBounds_toArray, List.set_cons_zero, List.set_cons_succ]
          have hk : ∀ i, i < wr.heap.size → i ≠ g3 → w11.heap[i]? = wr.heap[i]? := fun i hi hne => (hg11.block i (Nat.lt_of_lt_of_le hi hb10.size) (fun e => hne (Option.some.inj e))).trans (hb10.block i hi)
          have hC' : Blk w11 c 87 _ := (hk c HC.out.lt hcg3).trans HC.out
          have hO' := HO.out.same (w' := w11) (fun g hg => hk g (HO.out.lt g hg).2 (fun e => by
            cases hg
            exact hg13 e.symm))
          have hD' := HD.out.past (w' := w11) hk HM3.out
          have hLD' := HLD.out.past (w' := w11) hk hne (fun a r hr => (hin3 a r hr).1)
          have hbw : Below w.heap.size w w11 := (HBL.out.trans (hb10.mono HBL.out.size)).grown hg11 (Nat.le_trans HBL.out.size hb10.size) (fun k hk => by cases hk; exact hg3)
          have hend := led_copy hC' hc1 hO' hD' HK2.out hLD' HL0.out H4.out hg2 hg3 hm11 hne (fun a r hr => (hin3 a r hr).1) H6.out
          have HE := Lib.hid hend
          have HBW := Lib.hid hbw
          clear hk hC' hO' hD' hLD' hbw hend hb10 hm11 hg11
          go_wp2_with fail
          refine fin_tmp rfl (by rfl) ?_
          exact ⟨c, _, rfl, HE.out, fun i hi => hi.1, HBW.out⟩
        · intro x v w10 cnt1 hx hlx b hix hv hr1 hlt1 hg10 hs10 hen
          subst hv
          unfold u32E at hen
          have hk10 : ∀ i, i < wr.heap.size → i ≠ wA.heap.size → w10.heap[i]? = wr.heap[i]? := fun i hi hne => hg10.block i hi (fun e => hne (Option.some.inj e))
          have hb10 : Below w.heap.size w w10 := HBL.out.grown hg10 HBL.out.size (fun k hk => by cases hk; exact hgs)
          have HC10 : Hid (Blk w10 c 87 (ledC (.slice (some ⟨g1, 0, none⟩) M.length M.length) (.map (some g2)) (.map (some g3)) M)) := Lib.hid ((hk10 c HC.out.lt hrc.symm).trans HC.out)
          have hO10 := HO.out.same (w' := w10) (fun g hg => hk10 g (HO.out.lt g hg).2 (fun e => by
            cases hg
            exact hrg1 e.symm))
          have hD10 := HD.out.keep2 (w' := w10) hk10 (fun cs hcs => HR.out.no_blk hcs)
          have hL10 := HLD.out.past (w' := w10) hk10 hrg2.symm (fun a r hr => (hin3 a r hr).2)
          have hM10 := (hk10 g3 (lt_heap HM3.out) hrg3.symm).trans HM3.out
          have hbM := ((H4.out.at_ x b hix).2).below hb10 ((H4.out.at_ x b hix).2.lt)
          have HO10 := Lib.hid hO10
          have HD10 := Lib.hid hD10
          have HL10 := Lib.hid hL10
          have HM10 := Lib.hid hM10
          have HBM := Lib.hid hbM
          have HB10 := Lib.hid hb10
          have HR10 := Lib.hid hr1
          have HIX := Lib.hid hix
          have HLX := Lib.hid hlx
          have hRl := HR.out.left_eq
          have HRL := Lib.hid hRl
          have hin10 := hin3
          have HIN3 := Lib.hid hin10
          have hsz10 : w10.heap.size = wr.heap.size := hs10
          clear hO10 hD10 hL10 hM10 hbM hb10 hr1 hix hlx hg10 HO HD HLD HC HM3 HR hk10 hin3 hin10 hRl hs10
          go_upto_region 12 with (fail)
          refine copy_map rfl c g2 x b hx _ _ rfl rfl rfl HC10.out HBM.out HL10.out.out ?_
          intro f2 w11 w12 r hr hb11 hm11 ho12 ht12
          simp only [putF, Act.put, List.setIfInBounds_toArray, List.set_cons_zero, List.set_cons_succ]
          have hgt := ht12.grown
          have hk12 : ∀ i, i < w10.heap.size → i ≠ g2 → w12.heap[i]? = w10.heap[i]? := fun i hi hne => (hgt.block i (Nat.lt_of_lt_of_le hi hb11.size) (fun e => hne (Option.some.inj e))).trans (hb11.block i hi)
          have hstep := HL10.out.step HIX.out HLX.out (fun i _ hi => hb11.block i hi) hr hm11 hg2 (by rw [hsz10]; exact HBL.out.size) ho12 ht12
          have HST := Lib.hid hstep
          have HC12 : Hid (Blk w12 c 87 (ledC (.slice (some ⟨g1, 0, none⟩) M.length M.length) (.map (some g2)) (.map (some g3)) M)) := Lib.hid ((hk12 c HC10.out.lt hcg2).trans HC10.out)
          have HO12 := Lib.hid (HO10.out.same (w' := w12) (fun g hg => hk12 g (HO10.out.lt g hg).2 (fun e => by
            cases hg
            exact hg12 e.symm)))
          have HD12 := Lib.hid (HD10.out.past (w' := w12) hk12 HL10.out.out.choose_spec.choose_spec.1)
          have HM12 := Lib.hid ((hk12 g3 (lt_heap HM10.out) (fun e => hne e.symm)).trans HM10.out)
          have HB12 := Lib.hid ((HB10.out.trans (hb11.mono HB10.out.size)).grown hgt (Nat.le_trans HB10.out.size hb11.size) (fun k hk => by cases hk; exact hg2))
          have HR12 := Lib.hid (HR10.out.keep (w' := w12) (fun b hb => hk12 b (by have := HLT.out b hb; have := HB10.out.size; omega) (fun e => by have := HLT.out b hb; omega)) (hk12 _ (by omega) hrg2))
          have hs12 : w10.heap.size ≤ w12.heap.size := Nat.le_trans hb11.size hgt.size
          have hin12 : ∀ a r', (if a = x then some r else inn' a) = some r' → r' ≠ g3 ∧ r' ≠ wA.heap.size := fun a r' hr' => by
            by_cases e : a = x
            · rw [if_pos e] at hr'
              cases hr'
              have h1 := lt_heap HM10.out
              omega
            · rw [if_neg e] at hr'
              exact HIN3.out a r' hr'
          have HIN12 := Lib.hid hin12
          clear hgt hk12 hstep hin12 hb11 hm11 ho12 ht12
          go_wp2_with fail
          refine ⟨?_, ?measure⟩
          · repeat apply Exists.intro
            refine ⟨?_, rfl⟩
            exact ⟨fun y => left y ∧ y ≠ x, cnt1, _, HR12, HST, HD12, HO12, HB12, HC12, HM12, by omega, HIN12.out⟩
          case measure =>
            rw [HRL.out, HR12.out.left_eq]
            exact hlt1
end Go.Proofs.YtdnnkdldolhbpaaGreatDoor
