/-
  ChartForms returns true, whatever comes in, and leaves its arguments as they were. Condition: errors.errorType starts as the program's text lays it (the card ties it).
-/
import Derived.Test.YtdknhjnbkmcicaaDoorChFE
import Derived.Test.YtdknhjnbkmcicaaDoorDoor
import Derived.Lib.SmallJoins
import Derived.Test.YtdknhjnbkmcicaaDoorShut
namespace Go.Proofs.YtdknhjnbkmcicaaDoor.chFProof
open Go.ChangeShapes Go.WideShapes Go.ChangeAt Go.RowKit Go.Joins Go.Deep

theorem reads (os : Os) {H : Type} (enc : TypeId × Value → H) : ∃ places, DataW.whole enc Tryd.prog ((laidWorld os).forCall (fun _ _ => 0) ⟨#[], #[.agg #[.int .u32 0, .int .i32 0, .int .u8 0, .int .u32 0], .slice Option.none 0 0, .slice Option.none 0 0, .int .u16 0, .int .u8 0], []⟩).memory Tryd.f3.params.toList Rows.chartFormsSpec.vars false #[Value.agg #[.int .u32 0, .int .i32 0, .int .u8 0, .int .u32 0], .slice Option.none 0 0, .slice Option.none 0 0, .int .u16 0, .int .u8 0].toList 8 = some ([.agg [.lit (.int .u32 0), .lit (.int .i32 0), .lit (.int .u8 0), .lit (.int .u32 0)], .nil, .nil, .lit (.int .u16 0), .lit (.int .u8 0)], [], places) :=
  ⟨[], by kernel_rfl⟩

set_option maxRecDepth 100000 in
theorem lifted (os : Os) (started : os.Started) (H : Type) (enc : TypeId × Value → H) (F : Stop.Interp) :
    ReturnsInHanded {} Tryd.checked os 3 .any ((OpenSpec.ofChange Rows.chartFormsSpec).preRow enc Tryd.prog Tryd.f3 Rows.chartFormsRow.domain false Rows.chartFormsRow.laid) (((OpenSpec.ofChange Rows.chartFormsSpec).at F).post enc Tryd.prog Tryd.f3 false true false false) := by
  obtain ⟨places, hx⟩ := reads os enc
  refine returnsInHanded_of_row (C := Tryd.checked) (s := OpenSpec.ofChange Rows.chartFormsSpec) own started (by kernel_rfl) Tryd.func3
    (witness_row_at (enc := enc) (C := Tryd.checked) false (laidWorld os) #[.agg #[.int .u32 0, .int .i32 0, .int .u8 0, .int .u32 0], .slice Option.none 0 0, .slice Option.none 0 0, .int .u16 0, .int .u8 0] rfl (by kernel_rfl) (by kernel_rfl) (by kernel_rfl)
      (OpenSpec.preRow_of_cond 8 hx (by kernel_rfl) (fun k hk => by cases hk) (by kernel_rfl) (laidWorld_met os _))) ?_
  intro W base args ds gs before hval0 hW _ _ hsz0 hL _ _
  have hsz : (DataW.weightsEach Tryd.prog (Tryd.f3.params.toList ++ Rows.chartFormsSpec.plain.varTypes Tryd.prog) (ds ++ gs)).all (· ≤ reachBytes) = true := hsz0
  clear hsz0
  have hlw : Laid W := laid_of hL
  have hval : ∀ (j : Nat) t v, Tryd.f3.params[j]? = some t → args[j]? = some v → Value.okWide Tryd.prog W .any base t v := hval0
  have hW' := hW
  obtain ⟨p, q, hA0, hV, rfl, _, _⟩ := hW
  have hA : DataW.TrodAll enc Tryd.prog W 0 (fun _ => true) true Tryd.f3.params.toList args.toList ds p := hA0
  rw [Tryd.params3] at hA hval hsz
  obtain ⟨v0, vs0, d0, ds0, p0, q0, hargs, rfl, rfl, h0, r0⟩ := trodAll_cons hA
  obtain ⟨v1, vs1, d1, ds1, p1, q1, rfl, rfl, rfl, h1, r1⟩ := trodAll_cons r0
  obtain ⟨v2, vs2, d2, ds2, p2, q2, rfl, rfl, rfl, h2, r2⟩ := trodAll_cons r1
  obtain ⟨v3, vs3, d3, ds3, p3, q3, rfl, rfl, rfl, h3, r3⟩ := trodAll_cons r2
  obtain ⟨v4, vs4, d4, ds4, p4, q4, rfl, rfl, rfl, h4, r4⟩ := trodAll_cons r3
  obtain ⟨rfl, rfl, rfl⟩ := trodAll_nil r4
  obtain rfl : args = #[v0, v1, v2, v3, v4] := Array.toList_inj.1 (hargs.trans rfl)
  obtain ⟨rfl, rfl⟩ := trodVars_none hV
  obtain ⟨a0, rfl, hk0⟩ := open_key (hval 0 25 v0 rfl rfl) h0
  have hlt1 : ∀ x ∈ p1, x.block < W.heap.size := fun x hx => by simpa using hW'.lt x (by simp [hx])
  obtain ⟨A, n, c, l, rfl, hln1, hlc1, hcm1, hR1, hI1⟩ := open_legs (hval 1 26 v1 rfl rfl) h1 hlt1
  have hlt2 : ∀ x ∈ p2, x.block < W.heap.size := fun x hx => by simpa using hW'.lt x (by simp [hx])
  obtain ⟨Ar, nr, cr, lr, rfl, hln2, hlc2, hcm2, hnm2, hR2⟩ := open_bytes (hval 2 27 v2 rfl rfl) h2 hlt2 hsz (j := 2) rfl rfl
  obtain ⟨z3, rfl, rfl, rfl, w3⟩ := open_int Tryd.underlying28 (hval 3 28 v3 rfl rfl) h3
  obtain ⟨ta, rfl, ha3⟩ := wf_u16 w3
  obtain ⟨z4, rfl, rfl, rfl, w4⟩ := open_int Tryd.underlying5 (hval 4 5 v4 rfl rfl) h4
  obtain ⟨tt, rfl, ha4⟩ := wf_u8 w4
  refine (CForms_any a0 hk0 A n c l Ar nr cr lr ta tt ha3 ha4 _ hlw hR1 hln1 hlc1 (by omega) hI1 hR2 hln2 hnm2).mono fun e W' hpost => ?_
  obtain ⟨he, hbl⟩ := hpost
  subst he
  exact ⟨_, rfl, law_post hW' hbl (by kernel_rfl) rfl rfl rfl rfl (by
    intro t ht
    have ht' : t = 25 ∨ t = 26 ∨ t = 27 ∨ t = 28 ∨ t = 5 := by
      rw [Tryd.params3] at ht
      simpa using ht
    rcases ht' with rfl | rfl | rfl | rfl | rfl <;> exact ⟨by kernel_rfl, of_decide_eq_true (by kernel_rfl)⟩)⟩

theorem said : Rows.ChartFormsSaid :=
  OpenClaim.holds_of_cond 3 Tryd.f3 rfl rfl rfl rfl rfl rfl rfl ⟨rfl, rfl, rfl, rfl, rfl⟩ rfl rfl rfl rfl rfl (by kernel_rfl) Tryd.func3 (by kernel_rfl)
    (of_decide_eq_true (by kernel_rfl)) (by unfold Func.isWrapper; first | (rw [if_pos (by decide +kernel)]; kernel_rfl) | (rw [if_neg (by decide +kernel)]; exact ⟨rfl, rfl⟩))
    (fun os started H enc _ F => by rw [OpenClaim.pre_eq_preRow]; exact lifted os started H enc F)

theorem plain (f : FuncId) (fn : Func) (hf : Tryd.pinned.checked.prog.funcNamed "arrears/arrearslaw13.ChartForms" = some f) (hfn : Tryd.pinned.checked.prog.funcs[f]? = some fn) :
    true = Tryd.pinned.checked.prog.looks [] ∧ ∀ (j : Nat) t, fn.params[j]? = some t → Tryd.pinned.checked.prog.wantsStandIn t = false := by
  obtain rfl : f = 3 := Option.some.inj ((show Tryd.prog.funcNamed "arrears/arrearslaw13.ChartForms" = some 3 by kernel_rfl).symm.trans hf) |>.symm
  obtain rfl : fn = Tryd.f3 := (Option.some.inj (Tryd.func3.symm.trans hfn)).symm
  refine ⟨by kernel_rfl, fun j t ht => ?_⟩
  rw [Tryd.params3] at ht
  have ht' : t = 25 ∨ t = 26 ∨ t = 27 ∨ t = 28 ∨ t = 5 := by simpa using Array.mem_of_getElem? ht
  have q_key : Tryd.prog.wantsStandIn 25 = false := by kernel_rfl
  have q_legs : Tryd.prog.wantsStandIn 26 = false := by kernel_rfl
  have q_bytes : Tryd.prog.wantsStandIn 27 = false := by kernel_rfl
  have q_u16 : Tryd.prog.wantsStandIn 28 = false := by kernel_rfl
  have q_u8 : Tryd.prog.wantsStandIn 5 = false := by kernel_rfl
  rcases ht' with rfl | rfl | rfl | rfl | rfl
  · exact q_key
  · exact q_legs
  · exact q_bytes
  · exact q_u16
  · exact q_u8

theorem card : Rows.ChartFormsCardSaid :=
  Claim7.holds_tied_plain_at .later [] _ _ _ _ said (fun _ h => by cases h) (by kernel_rfl) (fun _ h => by cases h) chartForms_row_tie rfl ⟨rfl, rfl⟩ (by kernel_rfl) rfl plain (by kernel_rfl)
end Go.Proofs.YtdknhjnbkmcicaaDoor.chFProof
