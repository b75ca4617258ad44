/-
  DueRight returns true, whatever comes in, and leaves its arguments as they were. Condition: errors.errorType starts as the program's text lays it (the card ties it).
-/
import Derived.Test.YtclmhgaggminpaaDoorDRight
import Derived.Test.YtclmhgaggminpaaDoorDoorE
import Derived.Lib.SmallJoins
namespace Go.Proofs.YtclmhgaggminpaaDoor.dRightProof
open Go.ChangeShapes Go.WideShapes Go.ChangeAt Go.RowKit Go.Joins Go.Deep

theorem reads (os : Os) {H : Type} (enc : TypeId × Value → H) : ∃ places, DataW.whole enc Tryd.prog ((bigWorld os).forCall (fun _ _ => 0) ⟨#[], #[.slice Option.none 0 0, .bool false], []⟩).memory Tryd.f4.params.toList Rows.dueRightSpec.vars false #[Value.slice Option.none 0 0, .bool false].toList 8 = some ([.nil, .lit (.bool false)], [], places) :=
  ⟨[], by kernel_rfl⟩

set_option maxRecDepth 100000 in
theorem lifted (os : Os) (started : os.Started) (H : Type) (enc : TypeId × Value → H) (F : Stop.Interp) :
    ReturnsInHanded {} Tryd.checked os 4 .any ((OpenSpec.ofChange Rows.dueRightSpec).preRow enc Tryd.prog Tryd.f4 Rows.dueRightRow.domain false Rows.dueRightRow.laid) (((OpenSpec.ofChange Rows.dueRightSpec).at F).post enc Tryd.prog Tryd.f4 false true false false) := by
  obtain ⟨places, hx⟩ := reads os enc
  refine returnsInHanded_of_row (C := Tryd.checked) (s := OpenSpec.ofChange Rows.dueRightSpec) own started (by kernel_rfl) Tryd.func4
    (witness_row_at (enc := enc) (C := Tryd.checked) false (bigWorld os) #[.slice Option.none 0 0, .bool false] rfl (by kernel_rfl) (by kernel_rfl) (by kernel_rfl)
      (OpenSpec.preRow_of_cond 8 hx (by kernel_rfl) (fun k hk => by cases hk) (by kernel_rfl) (dueRight_met os _))) ?_
  intro W base args ds gs before hval0 hW _ _ hsz0 hL _ _
  have hsz : (DataW.weightsEach Tryd.prog (Tryd.f4.params.toList ++ Rows.dueRightSpec.plain.varTypes Tryd.prog) (ds ++ gs)).all (· ≤ reachBytes) = true := hsz0
  clear hsz0
  have hlw : Lens W := lens_of hL (List.mem_filter.2 ⟨by unfold Rows.dueRightRow; repeat (first | exact List.Mem.head _ | apply List.Mem.tail), rfl⟩)
  have hlp : Pows W := pows_of hL (List.mem_filter.2 ⟨by unfold Rows.dueRightRow; repeat (first | exact List.Mem.head _ | apply List.Mem.tail), rfl⟩)
  have hval : ∀ (j : Nat) t v, Tryd.f4.params[j]? = some t → args[j]? = some v → Value.okWide Tryd.prog W .any base t v := hval0
  have hW' := hW
  obtain ⟨p, q, hA0, hV, rfl, _, _⟩ := hW
  have hA : DataW.TrodAll enc Tryd.prog W 0 (fun _ => true) true Tryd.f4.params.toList args.toList ds p := hA0
  rw [Tryd.params4] at hA hval hsz
  obtain ⟨v0, v1, d0, d1, p0, p1, rfl, rfl, rfl, h0, h1⟩ := trodAll_two hA
  obtain ⟨rfl, rfl⟩ := trodVars_none hV
  have hlt0 : ∀ x ∈ p0, x.block < W.heap.size := fun x hx => by simpa using hW'.lt x (by simp [hx])
  obtain ⟨A, n, c, l, rfl, hln0, hlc0, hcm0, hnm0, hR0, hAn0, hl0⟩ := open_L (hval 0 30 v0 rfl rfl) h0 hlt0 hsz (j := 0) rfl rfl
  obtain ⟨many, rfl, rfl, rfl⟩ := open_bool Tryd.underlying4 (hval 1 4 v1 rfl rfl) h1
  refine (DRights_any A n c l many _ hR0 hln0 hnm0 hl0 hlw hlp).mono fun e W' hpost => ?_
  obtain ⟨he, hbl⟩ := hpost
  subst he
  exact ⟨_, rfl, law_post hW' hbl (by kernel_rfl) rfl rfl rfl rfl (by
    intro t ht
    have ht' : t = 30 ∨ t = 4 := by
      rw [Tryd.params4] at ht
      simpa using ht
    rcases ht' with rfl | rfl <;> exact ⟨by kernel_rfl, of_decide_eq_true (by kernel_rfl)⟩)⟩

theorem said : Rows.DueRightSaid :=
  OpenClaim.holds_of_cond 4 Tryd.f4 rfl rfl rfl rfl rfl rfl rfl ⟨rfl, rfl, rfl, rfl, rfl⟩ rfl rfl rfl rfl rfl (by kernel_rfl) Tryd.func4 (by kernel_rfl)
    (of_decide_eq_true (by kernel_rfl)) (by unfold Func.isWrapper; first | (rw [if_pos (by decide +kernel)]; kernel_rfl) | (rw [if_neg (by decide +kernel)]; exact ⟨rfl, rfl⟩))
    (fun os started H enc _ F => by rw [OpenClaim.pre_eq_preRow]; exact lifted os started H enc F)

theorem plain (f : FuncId) (fn : Func) (hf : Tryd.pinned.checked.prog.funcNamed "arrears/arrearslaw07.DueRight" = some f) (hfn : Tryd.pinned.checked.prog.funcs[f]? = some fn) :
    true = Tryd.pinned.checked.prog.looks [] ∧ ∀ (j : Nat) t, fn.params[j]? = some t → Tryd.pinned.checked.prog.wantsStandIn t = false := by
  obtain rfl : f = 4 := Option.some.inj ((show Tryd.prog.funcNamed "arrears/arrearslaw07.DueRight" = some 4 by kernel_rfl).symm.trans hf) |>.symm
  obtain rfl : fn = Tryd.f4 := (Option.some.inj (Tryd.func4.symm.trans hfn)).symm
  refine ⟨by kernel_rfl, fun j t ht => ?_⟩
  rw [Tryd.params4] at ht
  have ht' : t = 30 ∨ t = 4 := by simpa using Array.mem_of_getElem? ht
  have q_L : Tryd.prog.wantsStandIn 30 = false := by kernel_rfl
  have q_bool : Tryd.prog.wantsStandIn 4 = false := by kernel_rfl
  rcases ht' with rfl | rfl
  · exact q_L
  · exact q_bool

theorem card : Rows.DueRightCardSaid :=
  Claim7.holds_tied_plain_at .later [] _ _ _ _ said (fun _ h => by cases h) (by kernel_rfl) (fun _ h => by cases h) dueRight_row_tie rfl ⟨rfl, rfl⟩ (by kernel_rfl) rfl plain (by kernel_rfl)
end Go.Proofs.YtclmhgaggminpaaDoor.dRightProof
