/-
StoryOrders returns true, whatever comes in, and leaves its arguments as they were. Conditions: the listed variables start as the program lays them (the card ties them).
-/
import Derived.Test.YtpbfipeinblfgaaGreatDoorSzLR9
import Derived.Test.YtpbfipeinblfgaaGreatDoorDoorEQ9
import Derived.Test.YtpbfipeinblfgaaGreatDoorOpTQ9
import Derived.Test.YtpbfipeinblfgaaGreatDoorShutR9
import Derived.Lib.SmallJoins
namespace Go.Proofs.YtpbfipeinblfgaaGreatDoor.sOrProof
open Go.ChangeShapes Go.WideShapes Go.ChangeAt Go.RowKit Go.Joins Go.Deep

theorem reads (os : Os) {H : Type} (enc : TypeId × Value → H) : ∃ places, DataW.whole enc Tryz.prog ((bigWorld os).forCall (fun _ _ => 0) ⟨#[], #[.agg #[.int .u8 0, .int .i64 0, .int .u32 0, .int .u8 0, .int .i64 0, .int .i32 0, .int .i64 0, .int .i64 0], .slice Option.none 0 0, .slice Option.none 0 0, .int .u16 0], []⟩).memory Tryz.f3.params.toList Rows.storyOrdersSpec.vars false #[Value.agg #[.int .u8 0, .int .i64 0, .int .u32 0, .int .u8 0, .int .i64 0, .int .i32 0, .int .i64 0, .int .i64 0], .slice Option.none 0 0, .slice Option.none 0 0, .int .u16 0].toList 8 = some ([.agg [.lit (.int .u8 0), .lit (.int .i64 0), .agg [.lit (.int .u32 0), .lit (.int .u8 0)], .lit (.int .i64 0), .lit (.int .i32 0), .lit (.int .i64 0), .lit (.int .i64 0)], .nil, .nil, .lit (.int .u16 0)], [], places) :=
  ⟨[], by kernel_rfl⟩

set_option maxRecDepth 100000 in
theorem lifted (os : Os) (started : os.Started) (H : Type) (enc : TypeId × Value → H) (F : Stop.Interp) :
    ReturnsInHanded {} Tryz.checked os 3 .any ((OpenSpec.ofChange Rows.storyOrdersSpec).preRow enc Tryz.prog Tryz.f3 Rows.storyOrdersRow.domain false Rows.storyOrdersRow.laid) (((OpenSpec.ofChange Rows.storyOrdersSpec).at F).post enc Tryz.prog Tryz.f3 false true false false) := by
  obtain ⟨places, hx⟩ := reads os enc
  refine returnsInHanded_of_row (C := Tryz.checked) (s := OpenSpec.ofChange Rows.storyOrdersSpec) own started (by kernel_rfl) Tryz.func3
    (witness_row_at (enc := enc) (C := Tryz.checked) false (bigWorld os) #[.agg #[.int .u8 0, .int .i64 0, .int .u32 0, .int .u8 0, .int .i64 0, .int .i32 0, .int .i64 0, .int .i64 0], .slice Option.none 0 0, .slice Option.none 0 0, .int .u16 0] rfl (by kernel_rfl) (by kernel_rfl) (by kernel_rfl)
      (OpenSpec.preRow_of_cond 8 hx (by kernel_rfl) (fun k hk => by cases hk) (by kernel_rfl) (storyOrders_met os _))) ?_
  intro W base args ds gs before hval0 hW _ _ hsz0 hL hsh _
  have hsz : (DataW.weightsEach Tryz.prog (Tryz.f3.params.toList ++ Rows.storyOrdersSpec.plain.varTypes Tryz.prog) (ds ++ gs)).all (· ≤ reachBytes) = true := hsz0
  clear hsz0
  have hlw : Lens W := lens_of hL (List.mem_filter.2 ⟨by unfold Rows.storyOrdersRow; repeat (first | exact List.Mem.head _ | apply List.Mem.tail), rfl⟩)
  have hlp : Pows W := pows_of hL (List.mem_filter.2 ⟨by unfold Rows.storyOrdersRow; repeat (first | exact List.Mem.head _ | apply List.Mem.tail), rfl⟩)
  obtain ⟨te, pe, hR⟩ := errR_of hL (List.mem_filter.2 ⟨by unfold Rows.storyOrdersRow; repeat (first | exact List.Mem.head _ | apply List.Mem.tail), rfl⟩)
  obtain ⟨mx, hm⟩ := maxLen_of hsh
  have hval : ∀ (j : Nat) t v, Tryz.f3.params[j]? = some t → args[j]? = some v → Value.okWide Tryz.prog W .any base t v := hval0
  have hW' := hW
  obtain ⟨p, q, hA0, hV, rfl, _, _⟩ := hW
  have hA : DataW.TrodAll enc Tryz.prog W 0 (fun _ => true) true Tryz.f3.params.toList args.toList ds p := hA0
  rw [Tryz.params3] at hA hval hsz
  obtain ⟨v0, v1, v2, v3, d0, d1, d2, d3, p0, p1, p2, p3, rfl, rfl, rfl, h0, h1, h2, h3⟩ := trodAll_four hA
  obtain ⟨rfl, rfl⟩ := trodVars_none hV
  obtain ⟨t, rfl, hk0⟩ := open_terms (hval 0 28 v0 rfl rfl) h0
  have hlt1 : ∀ x ∈ p1, x.block < W.heap.size := fun x hx => by simpa using hW'.lt x (by simp [hx])
  obtain ⟨A, n, c, L, rfl, hln1, hlc1, hcm1, hR1, hI1⟩ := open_deeds (hval 1 29 v1 rfl rfl) h1 hlt1
  have hlt2 : ∀ x ∈ p2, x.block < W.heap.size := fun x hx => by simpa using hW'.lt x (by simp [hx])
  obtain ⟨A2, n2, c2, bs, rfl, hln2, hlc2, hcm2, hnm2, hR2⟩ := open_bytes (hval 2 30 v2 rfl rfl) h2 hlt2 hsz (j := 2) rfl rfl
  obtain ⟨z3, rfl, rfl, rfl, w3⟩ := open_int Tryz.underlying31 (hval 3 31 v3 rfl rfl) h3
  obtain ⟨k, rfl, ha3⟩ := wf_u16 w3
  refine (Orders_any hk0 hI1 hln1 (by unfold maxLen at hcm1; omega) hlc1 hln2 hnm2 hlc2 k W hR1 hR2 hlw hlp mx hm te pe hR).mono fun e W' hpost => ?_
  obtain ⟨he, hbl⟩ := hpost
  subst he
  exact ⟨_, rfl, law_post hW' hbl (by kernel_rfl) rfl rfl rfl rfl (by
    intro t ht
    have ht' : t = 28 ∨ t = 29 ∨ t = 30 ∨ t = 31 := by
      rw [Tryz.params3] at ht
      simpa using ht
    rcases ht' with rfl | rfl | rfl | rfl <;> exact ⟨by kernel_rfl, of_decide_eq_true (by kernel_rfl)⟩)⟩

theorem said : Rows.StoryOrdersSaid :=
  OpenClaim.holds_of_cond 3 Tryz.f3 rfl rfl rfl rfl rfl rfl rfl ⟨rfl, rfl, rfl, rfl, rfl⟩ rfl rfl rfl rfl rfl (by kernel_rfl) Tryz.func3 (by kernel_rfl)
    (of_decide_eq_true (by kernel_rfl)) (by unfold Func.isWrapper; first | (rw [if_pos (by decide +kernel)]; kernel_rfl) | (rw [if_neg (by decide +kernel)]; exact ⟨rfl, rfl⟩))
    (fun os started H enc _ F => by rw [OpenClaim.pre_eq_preRow]; exact lifted os started H enc F)

theorem plain (f : FuncId) (fn : Func) (hf : Tryz.pinned.checked.prog.funcNamed "arrears/arrearslaw17.StoryOrders" = some f) (hfn : Tryz.pinned.checked.prog.funcs[f]? = some fn) :
    true = Tryz.pinned.checked.prog.looks [] ∧ ∀ (j : Nat) t, fn.params[j]? = some t → Tryz.pinned.checked.prog.wantsStandIn t = false := by
  obtain rfl : f = 3 := Option.some.inj ((show Tryz.prog.funcNamed "arrears/arrearslaw17.StoryOrders" = some 3 by kernel_rfl).symm.trans hf) |>.symm
  obtain rfl : fn = Tryz.f3 := (Option.some.inj (Tryz.func3.symm.trans hfn)).symm
  refine ⟨by kernel_rfl, fun j t ht => ?_⟩
  rw [Tryz.params3] at ht
  have ht' : t = 28 ∨ t = 29 ∨ t = 30 ∨ t = 31 := by simpa using Array.mem_of_getElem? ht
  have q_terms : Tryz.prog.wantsStandIn 28 = false := by kernel_rfl
  have q_deeds : Tryz.prog.wantsStandIn 29 = false := by kernel_rfl
  have q_bytes : Tryz.prog.wantsStandIn 30 = false := by kernel_rfl
  have q_u16 : Tryz.prog.wantsStandIn 31 = false := by kernel_rfl
  rcases ht' with rfl | rfl | rfl | rfl
  · exact q_terms
  · exact q_deeds
  · exact q_bytes
  · exact q_u16

theorem card : Rows.StoryOrdersCardSaid :=
  Claim7.holds_tied_plain_at .later [] _ _ _ _ said (fun _ h => by cases h) (by kernel_rfl) (fun _ h => by cases h) storyOrders_row_tie rfl ⟨rfl, rfl⟩ (by kernel_rfl) rfl plain (by kernel_rfl)
end Go.Proofs.YtpbfipeinblfgaaGreatDoor.sOrProof
