/-
  CoinSums returns true, whatever comes in, and leaves its arguments as they were. Condition: the eight listed variables start as the program's text lays it (the card ties it).
-/
import Derived.Test.YthbifpmjkaonnaaGreatDoorCSums
import Derived.Test.YthbifpmjkaonnaaGreatDoorDoorZ
import Derived.Test.YthbifpmjkaonnaaGreatDoorCoinY
namespace Go.Proofs.YthbifpmjkaonnaaGreatDoor.cSumsProof
open Go.ChangeShapes Go.WideShapes Go.ChangeAt Go.RowKit

theorem reads (os : Os) {H : Type} (enc : TypeId × Value → H) : ∃ places, DataW.whole enc Tryz.prog ((bigWorld os).forCall (fun _ _ => 0) ⟨#[], #[.slice Option.none 0 0], []⟩).memory Tryz.f4.params.toList Rows.coinSumsSpec.vars false #[Value.slice Option.none 0 0].toList 8 = some ([.nil], [], places) :=
  ⟨[], by kernel_rfl⟩

set_option maxRecDepth 100000 in
theorem lifted (os : Os) (started : os.Started) (H : Type) (enc : TypeId × Value → H) (F : Stop.Interp) :
    ReturnsInHanded {} Tryz.checked os 4 .any ((OpenSpec.ofChange Rows.coinSumsSpec).preRow enc Tryz.prog Tryz.f4 Rows.coinSumsRow.domain false Rows.coinSumsRow.laid) (((OpenSpec.ofChange Rows.coinSumsSpec).at F).post enc Tryz.prog Tryz.f4 false true false false) := by
  obtain ⟨places, hx⟩ := reads os enc
  refine returnsInHanded_of_row (C := Tryz.checked) (s := OpenSpec.ofChange Rows.coinSumsSpec) own started (by kernel_rfl) Tryz.func4
    (witness_row_at (enc := enc) (C := Tryz.checked) false (bigWorld os) #[.slice Option.none 0 0] rfl (by kernel_rfl) (by kernel_rfl) (by kernel_rfl)
      (OpenSpec.preRow_of_cond 8 hx (by kernel_rfl) (fun k hk => by cases hk) (by kernel_rfl) (bigWorld_met os _))) ?_
  intro W base args ds gs before hval0 hW _ _ hsz0 hL hsh _
  have hsz : (DataW.weightsEach Tryz.prog (Tryz.f4.params.toList ++ Rows.coinSumsSpec.plain.varTypes Tryz.prog) (ds ++ gs)).all (· ≤ reachBytes) = true := hsz0
  clear hsz0
  have hle : Laid W := laid_of hL (List.mem_filter.2 ⟨by unfold Rows.coinSumsRow; repeat (first | exact List.Mem.head _ | apply List.Mem.tail), rfl⟩)
  obtain ⟨te, pe, hR⟩ := errR_of hL (List.mem_filter.2 ⟨by unfold Rows.coinSumsRow; repeat (first | exact List.Mem.head _ | apply List.Mem.tail), rfl⟩)
  have hT := pow10_of hL (List.mem_filter.2 ⟨by unfold Rows.coinSumsRow; repeat (first | exact List.Mem.head _ | apply List.Mem.tail), rfl⟩) 2 100 rfl
  obtain ⟨mx, hm⟩ := maxLen_of hsh
  have hval : ∀ (j : Nat) t v, Tryz.f4.params[j]? = some t → args[j]? = some v → Value.okWide Tryz.prog W .any base t v := hval0
  have hW' := hW
  obtain ⟨p, q, hA0, hV, rfl, _, _⟩ := hW
  have hA : DataW.TrodAll enc Tryz.prog W 0 (fun _ => true) true Tryz.f4.params.toList args.toList ds p := hA0
  rw [Tryz.params4] at hA hval hsz
  obtain ⟨v0, d0, rfl, rfl, h0⟩ := trodAll_one hA
  obtain ⟨rfl, rfl⟩ := trodVars_none hV
  have hlt0 : ∀ x ∈ p, x.block < W.heap.size := fun x hx => by simpa using hW'.lt x (by simp [hx])
  obtain ⟨A, n, c, l, rfl, hln0, hlc0, hcm0, hnm0, hR0, hAn0, hl0⟩ := open_longs (hval 0 35 v0 rfl rfl) h0 hlt0 hsz (j := 0) rfl rfl
  refine (CSums_any A n c l _ (coin_awake _ mx hm te pe hR hT) hle hR0 hln0 hnm0 hlc0 hcm0 hAn0 hl0).mono fun e W' hpost => ?_
  obtain ⟨he, hbl⟩ := hpost
  subst he
  exact ⟨_, rfl, law_post hW' hbl (by kernel_rfl) rfl rfl rfl rfl (by
    intro t ht
    have ht' : t = 35 := by
      rw [Tryz.params4] at ht
      simpa using ht
    rcases ht' with rfl <;> exact ⟨by kernel_rfl, of_decide_eq_true (by kernel_rfl)⟩)⟩

theorem said : Rows.CoinSumsSaid :=
  OpenClaim.holds_of_cond 4 Tryz.f4 rfl rfl rfl rfl rfl rfl rfl ⟨rfl, rfl, rfl, rfl, rfl⟩ rfl rfl rfl rfl rfl (by kernel_rfl) Tryz.func4 (by kernel_rfl)
    (of_decide_eq_true (by kernel_rfl)) (by unfold Func.isWrapper; first | (rw [if_pos (by decide +kernel)]; kernel_rfl) | (rw [if_neg (by decide +kernel)]; exact ⟨rfl, rfl⟩))
    (fun os started H enc _ F => by rw [OpenClaim.pre_eq_preRow]; exact lifted os started H enc F)

theorem plain (f : FuncId) (fn : Func) (hf : Tryz.pinned.checked.prog.funcNamed "arrears/arrearslaw04.CoinSums" = some f) (hfn : Tryz.pinned.checked.prog.funcs[f]? = some fn) :
    true = Tryz.pinned.checked.prog.looks [] ∧ ∀ (j : Nat) t, fn.params[j]? = some t → Tryz.pinned.checked.prog.wantsStandIn t = false := by
  obtain rfl : f = 4 := Option.some.inj ((show Tryz.prog.funcNamed "arrears/arrearslaw04.CoinSums" = some 4 by kernel_rfl).symm.trans hf) |>.symm
  obtain rfl : fn = Tryz.f4 := (Option.some.inj (Tryz.func4.symm.trans hfn)).symm
  refine ⟨by kernel_rfl, fun j t ht => ?_⟩
  rw [Tryz.params4] at ht
  have ht' : t = 35 := by simpa using Array.mem_of_getElem? ht
  have q_longs : Tryz.prog.wantsStandIn 35 = false := by kernel_rfl
  rcases ht' with rfl
  · exact q_longs

theorem card : Rows.CoinSumsCardSaid :=
  Claim7.holds_tied_plain_at .later [] _ _ _ _ said (fun _ h => by cases h) (by kernel_rfl) (fun _ h => by cases h) coinSums_row_tie rfl ⟨rfl, rfl⟩ (by kernel_rfl) rfl plain (by kernel_rfl)
end Go.Proofs.YthbifpmjkaonnaaGreatDoor.cSumsProof
