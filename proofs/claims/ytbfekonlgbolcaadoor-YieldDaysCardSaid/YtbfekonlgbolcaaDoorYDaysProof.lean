/-
  YieldDays returns true, whatever comes in, and leaves its arguments as they were. Condition: errors.errorType starts as the program's text lays it (the card ties it).
-/
import Derived.Test.YtbfekonlgbolcaaDoorYDays
import Derived.Test.YtbfekonlgbolcaaDoorDoorD
import Derived.Lib.SmallJoins
namespace Go.Proofs.YtbfekonlgbolcaaDoor.ydaysProof
open Go.ChangeShapes Go.WideShapes Go.ChangeAt Go.RowKit Go.Joins Go.Deep

theorem reads (os : Os) {H : Type} (enc : TypeId × Value → H) : ∃ places, DataW.whole enc Tryd.prog ((lensWorld os).forCall (fun _ _ => 0) ⟨#[], #[.agg #[.int .u32 0, .int .u8 0], .int .i64 0, .int .i32 0, .int .u64 0], []⟩).memory Tryd.f4.params.toList Rows.yieldDaysSpec.vars false #[Value.agg #[.int .u32 0, .int .u8 0], .int .i64 0, .int .i32 0, .int .u64 0].toList 8 = some ([.agg [.lit (.int .u32 0), .lit (.int .u8 0)], .lit (.int .i64 0), .lit (.int .i32 0), .lit (.int .u64 0)], [], places) :=
  ⟨[], by kernel_rfl⟩

set_option maxRecDepth 100000 in
theorem lifted (os : Os) (started : os.Started) (H : Type) (enc : TypeId × Value → H) (F : Stop.Interp) :
    ReturnsInHanded {} Tryd.checked os 4 .any ((OpenSpec.ofChange Rows.yieldDaysSpec).preRow enc Tryd.prog Tryd.f4 Rows.yieldDaysRow.domain false Rows.yieldDaysRow.laid) (((OpenSpec.ofChange Rows.yieldDaysSpec).at F).post enc Tryd.prog Tryd.f4 false true false false) := by
  obtain ⟨places, hx⟩ := reads os enc
  refine returnsInHanded_of_row (C := Tryd.checked) (s := OpenSpec.ofChange Rows.yieldDaysSpec) own started (by kernel_rfl) Tryd.func4
    (witness_row_at (enc := enc) (C := Tryd.checked) false (lensWorld os) #[.agg #[.int .u32 0, .int .u8 0], .int .i64 0, .int .i32 0, .int .u64 0] rfl (by kernel_rfl) (by kernel_rfl) (by kernel_rfl)
      (OpenSpec.preRow_of_cond 8 hx (by kernel_rfl) (fun k hk => by cases hk) (by kernel_rfl) (lensWorld_two os _))) ?_
  intro W base args ds gs before hval0 hW _ _ hsz0 hL _ _
  have hsz : (DataW.weightsEach Tryd.prog (Tryd.f4.params.toList ++ Rows.yieldDaysSpec.plain.varTypes Tryd.prog) (ds ++ gs)).all (· ≤ reachBytes) = true := hsz0
  clear hsz0
  have hlw : Lens W := lens_of hL (by simp [Rows.yieldDaysRow, Rows.laid_arrears_date_lengths, Rows.laid_errors_errorType, DataW.handleName?])
  have hle : Laid W := laid_of hL (by simp [Rows.yieldDaysRow, Rows.laid_arrears_date_lengths, Rows.laid_errors_errorType, DataW.handleName?])
  have hval : ∀ (j : Nat) t v, Tryd.f4.params[j]? = some t → args[j]? = some v → Value.okWide Tryd.prog W .any base t v := hval0
  have hW' := hW
  obtain ⟨p, q, hA0, hV, rfl, _, _⟩ := hW
  have hA : DataW.TrodAll enc Tryd.prog W 0 (fun _ => true) true Tryd.f4.params.toList args.toList ds p := hA0
  rw [Tryd.params4] at hA hval hsz
  obtain ⟨v0, v1, v2, v3, d0, d1, d2, d3, p0, p1, p2, p3, rfl, rfl, rfl, h0, h1, h2, h3⟩ := trodAll_four hA
  obtain ⟨rfl, rfl⟩ := trodVars_none hV
  obtain ⟨e00, e01, x00, x01, fu0, rfl, rfl, rfl, g00, g01⟩ := open_agg2 Tryd.underlying24 (by kernel_rfl) (by kernel_rfl) (hval 0 24 v0 rfl rfl) h0
  obtain ⟨y00, k00, rfl, wf00⟩ := DataW.trod_int Tryd.underlying22 g00
  obtain rfl := List.head_eq_of_cons_eq k00
  obtain ⟨y01, k01, rfl, wf01⟩ := DataW.trod_int Tryd.underlying5 g01
  obtain rfl := List.head_eq_of_cons_eq k01
  obtain ⟨p, rfl, ha0⟩ := wf_u32 wf00
  obtain ⟨b, rfl, hb0⟩ := wf_u8 wf01
  obtain ⟨P, rfl, rfl, rfl, w1⟩ := open_int Tryd.underlying25 (hval 1 25 v1 rfl rfl) h1
  obtain ⟨n, rfl, rfl, rfl, w2⟩ := open_int Tryd.underlying42 (hval 2 42 v2 rfl rfl) h2
  have ha2 := wf_i32 w2
  obtain ⟨z3, rfl, rfl, rfl, w3⟩ := open_int Tryd.underlying26 (hval 3 26 v3 rfl rfl) h3
  obtain ⟨c, rfl, ha3⟩ := wf_u64 w3
  refine (YDays_any ha2 _ hlw hle).mono fun e W' hpost => ?_
  obtain ⟨he, hbl⟩ := hpost
  subst he
  exact ⟨_, rfl, law_post hW' hbl (by kernel_rfl) rfl rfl rfl rfl (by
    intro t ht
    have ht' : t = 24 ∨ t = 25 ∨ t = 42 ∨ t = 26 := by
      rw [Tryd.params4] at ht
      simpa using ht
    rcases ht' with rfl | rfl | rfl | rfl <;> exact ⟨by kernel_rfl, of_decide_eq_true (by kernel_rfl)⟩)⟩

theorem said : Rows.YieldDaysSaid :=
  OpenClaim.holds_of_cond 4 Tryd.f4 rfl rfl rfl rfl rfl rfl rfl ⟨rfl, rfl, rfl, rfl, rfl⟩ rfl rfl rfl rfl rfl (by kernel_rfl) Tryd.func4 (by kernel_rfl)
    (of_decide_eq_true (by kernel_rfl)) (by unfold Func.isWrapper; first | (rw [if_pos (by decide +kernel)]; kernel_rfl) | (rw [if_neg (by decide +kernel)]; exact ⟨rfl, rfl⟩))
    (fun os started H enc _ F => by rw [OpenClaim.pre_eq_preRow]; exact lifted os started H enc F)

theorem plain (f : FuncId) (fn : Func) (hf : Tryd.pinned.checked.prog.funcNamed "arrears/arrearslaw09.YieldDays" = some f) (hfn : Tryd.pinned.checked.prog.funcs[f]? = some fn) :
    true = Tryd.pinned.checked.prog.looks [] ∧ ∀ (j : Nat) t, fn.params[j]? = some t → Tryd.pinned.checked.prog.wantsStandIn t = false := by
  obtain rfl : f = 4 := Option.some.inj ((show Tryd.prog.funcNamed "arrears/arrearslaw09.YieldDays" = some 4 by kernel_rfl).symm.trans hf) |>.symm
  obtain rfl : fn = Tryd.f4 := (Option.some.inj (Tryd.func4.symm.trans hfn)).symm
  refine ⟨by kernel_rfl, fun j t ht => ?_⟩
  rw [Tryd.params4] at ht
  have ht' : t = 24 ∨ t = 25 ∨ t = 42 ∨ t = 26 := by simpa using Array.mem_of_getElem? ht
  have q_rate : Tryd.prog.wantsStandIn 24 = false := by kernel_rfl
  have q_coin : Tryd.prog.wantsStandIn 25 = false := by kernel_rfl
  have q_day : Tryd.prog.wantsStandIn 42 = false := by kernel_rfl
  have q_u64 : Tryd.prog.wantsStandIn 26 = false := by kernel_rfl
  rcases ht' with rfl | rfl | rfl | rfl
  · exact q_rate
  · exact q_coin
  · exact q_day
  · exact q_u64

theorem card : Rows.YieldDaysCardSaid :=
  Claim7.holds_tied_plain_at .later [] _ _ _ _ said (fun _ h => by cases h) (by kernel_rfl) (fun _ h => by cases h) yieldDays_row_tie rfl ⟨rfl, rfl⟩ (by kernel_rfl) rfl plain (by kernel_rfl)
end Go.Proofs.YtbfekonlgbolcaaDoor.ydaysProof
