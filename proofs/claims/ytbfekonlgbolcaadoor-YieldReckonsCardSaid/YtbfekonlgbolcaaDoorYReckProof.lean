/-
  YieldReckons returns true, whatever comes in, and leaves its arguments as they were. Condition: errors.errorType starts as the program's text lays it (the card ties it).
-/
import Derived.Test.YtbfekonlgbolcaaDoorYReck
import Derived.Test.YtbfekonlgbolcaaDoorDoor
import Derived.Lib.SmallJoins
namespace Go.Proofs.YtbfekonlgbolcaaDoor.yreckProof
open Go.ChangeShapes Go.WideShapes Go.ChangeAt Go.RowKit Go.Joins Go.Deep

theorem reads (os : Os) {H : Type} (enc : TypeId × Value → H) : ∃ places, DataW.whole enc Tryd.prog ((laidWorld os).forCall (fun _ _ => 0) ⟨#[], #[.agg #[.int .u32 0, .int .u8 0], .int .i64 0, .int .i64 0, .int .u64 0], []⟩).memory Tryd.f3.params.toList Rows.yieldReckonsSpec.vars false #[Value.agg #[.int .u32 0, .int .u8 0], .int .i64 0, .int .i64 0, .int .u64 0].toList 8 = some ([.agg [.lit (.int .u32 0), .lit (.int .u8 0)], .lit (.int .i64 0), .lit (.int .i64 0), .lit (.int .u64 0)], [], places) :=
  ⟨[], by kernel_rfl⟩

set_option maxRecDepth 100000 in
theorem lifted (os : Os) (started : os.Started) (H : Type) (enc : TypeId × Value → H) (F : Stop.Interp) :
    ReturnsInHanded {} Tryd.checked os 3 .any ((OpenSpec.ofChange Rows.yieldReckonsSpec).preRow enc Tryd.prog Tryd.f3 Rows.yieldReckonsRow.domain false Rows.yieldReckonsRow.laid) (((OpenSpec.ofChange Rows.yieldReckonsSpec).at F).post enc Tryd.prog Tryd.f3 false true false false) := by
  obtain ⟨places, hx⟩ := reads os enc
  refine returnsInHanded_of_row (C := Tryd.checked) (s := OpenSpec.ofChange Rows.yieldReckonsSpec) own started (by kernel_rfl) Tryd.func3
    (witness_row_at (enc := enc) (C := Tryd.checked) false (laidWorld os) #[.agg #[.int .u32 0, .int .u8 0], .int .i64 0, .int .i64 0, .int .u64 0] rfl (by kernel_rfl) (by kernel_rfl) (by kernel_rfl)
      (OpenSpec.preRow_of_cond 8 hx (by kernel_rfl) (fun k hk => by cases hk) (by kernel_rfl) (laidWorld_met os _))) ?_
  intro W base args ds gs before hval0 hW _ _ hsz0 hL _ _
  have hsz : (DataW.weightsEach Tryd.prog (Tryd.f3.params.toList ++ Rows.yieldReckonsSpec.plain.varTypes Tryd.prog) (ds ++ gs)).all (· ≤ reachBytes) = true := hsz0
  clear hsz0
  have hlw : Laid W := laid_of hL
  have hval : ∀ (j : Nat) t v, Tryd.f3.params[j]? = some t → args[j]? = some v → Value.okWide Tryd.prog W .any base t v := hval0
  have hW' := hW
  obtain ⟨p, q, hA0, hV, rfl, _, _⟩ := hW
  have hA : DataW.TrodAll enc Tryd.prog W 0 (fun _ => true) true Tryd.f3.params.toList args.toList ds p := hA0
  rw [Tryd.params3] at hA hval hsz
  obtain ⟨v0, v1, v2, v3, d0, d1, d2, d3, p0, p1, p2, p3, rfl, rfl, rfl, h0, h1, h2, h3⟩ := trodAll_four hA
  obtain ⟨rfl, rfl⟩ := trodVars_none hV
  obtain ⟨e00, e01, x00, x01, fu0, rfl, rfl, rfl, g00, g01⟩ := open_agg2 Tryd.underlying24 (by kernel_rfl) (by kernel_rfl) (hval 0 24 v0 rfl rfl) h0
  obtain ⟨y00, k00, rfl, wf00⟩ := DataW.trod_int Tryd.underlying22 g00
  obtain rfl := List.head_eq_of_cons_eq k00
  obtain ⟨y01, k01, rfl, wf01⟩ := DataW.trod_int Tryd.underlying5 g01
  obtain rfl := List.head_eq_of_cons_eq k01
  obtain ⟨p, rfl, ha0⟩ := wf_u32 wf00
  obtain ⟨b, rfl, hb0⟩ := wf_u8 wf01
  obtain ⟨P, rfl, rfl, rfl, w1⟩ := open_int Tryd.underlying25 (hval 1 25 v1 rfl rfl) h1
  obtain ⟨d, rfl, rfl, rfl, w2⟩ := open_int Tryd.underlying3 (hval 2 3 v2 rfl rfl) h2
  obtain ⟨z3, rfl, rfl, rfl, w3⟩ := open_int Tryd.underlying26 (hval 3 26 v3 rfl rfl) h3
  obtain ⟨c, rfl, ha3⟩ := wf_u64 w3
  refine (YReck_any _ hlw).mono fun e W' hpost => ?_
  obtain ⟨he, hbl⟩ := hpost
  subst he
  exact ⟨_, rfl, law_post hW' hbl (by kernel_rfl) rfl rfl rfl rfl (by
    intro t ht
    have ht' : t = 24 ∨ t = 25 ∨ t = 3 ∨ t = 26 := by
      rw [Tryd.params3] at ht
      simpa using ht
    rcases ht' with rfl | rfl | rfl | rfl <;> exact ⟨by kernel_rfl, of_decide_eq_true (by kernel_rfl)⟩)⟩

theorem said : Rows.YieldReckonsSaid :=
  OpenClaim.holds_of_cond 3 Tryd.f3 rfl rfl rfl rfl rfl rfl rfl ⟨rfl, rfl, rfl, rfl, rfl⟩ rfl rfl rfl rfl rfl (by kernel_rfl) Tryd.func3 (by kernel_rfl)
    (of_decide_eq_true (by kernel_rfl)) (by unfold Func.isWrapper; first | (rw [if_pos (by decide +kernel)]; kernel_rfl) | (rw [if_neg (by decide +kernel)]; exact ⟨rfl, rfl⟩))
    (fun os started H enc _ F => by rw [OpenClaim.pre_eq_preRow]; exact lifted os started H enc F)

theorem plain (f : FuncId) (fn : Func) (hf : Tryd.pinned.checked.prog.funcNamed "arrears/arrearslaw09.YieldReckons" = some f) (hfn : Tryd.pinned.checked.prog.funcs[f]? = some fn) :
    true = Tryd.pinned.checked.prog.looks [] ∧ ∀ (j : Nat) t, fn.params[j]? = some t → Tryd.pinned.checked.prog.wantsStandIn t = false := by
  obtain rfl : f = 3 := Option.some.inj ((show Tryd.prog.funcNamed "arrears/arrearslaw09.YieldReckons" = some 3 by kernel_rfl).symm.trans hf) |>.symm
  obtain rfl : fn = Tryd.f3 := (Option.some.inj (Tryd.func3.symm.trans hfn)).symm
  refine ⟨by kernel_rfl, fun j t ht => ?_⟩
  rw [Tryd.params3] at ht
  have ht' : t = 24 ∨ t = 25 ∨ t = 3 ∨ t = 26 := by simpa using Array.mem_of_getElem? ht
  have q_rate : Tryd.prog.wantsStandIn 24 = false := by kernel_rfl
  have q_coin : Tryd.prog.wantsStandIn 25 = false := by kernel_rfl
  have q_int : Tryd.prog.wantsStandIn 3 = false := by kernel_rfl
  have q_u64 : Tryd.prog.wantsStandIn 26 = false := by kernel_rfl
  rcases ht' with rfl | rfl | rfl | rfl
  · exact q_rate
  · exact q_coin
  · exact q_int
  · exact q_u64

theorem card : Rows.YieldReckonsCardSaid :=
  Claim7.holds_tied_plain_at .later [] _ _ _ _ said (fun _ h => by cases h) (by kernel_rfl) (fun _ h => by cases h) yieldReckons_row_tie rfl ⟨rfl, rfl⟩ (by kernel_rfl) rfl plain (by kernel_rfl)
end Go.Proofs.YtbfekonlgbolcaaDoor.yreckProof
