/-
  SplitOrders returns true, whatever comes in, and leaves its arguments as they were. No condition.
-/
import Derived.Test.YtbikfplipkhhcabSplC
import Derived.Test.YtbikfplipkhhcabShutA
import Derived.Lib.SmallJoins
namespace Go.Proofs.Ytbikfplipkhhcab.sordProof
open Go.ChangeShapes Go.WideShapes Go.ChangeAt Go.RowKit Go.Joins Go.Deep

set_option maxRecDepth 100000 in
theorem lifted (os : Os) (started : os.Started) (H : Type) (enc : TypeId × Value → H) :
    ReturnsInHanded {} Try.checked os 3 .any (Rows.splitOrdersSpec.pre6 enc Try.prog Try.f3 Rows.splitOrdersRow.domain false) (Rows.splitOrdersSpec.post enc Try.prog Try.f3 false true false false) := by
  refine returnsInHanded_of_change_sized (C := Try.checked) own started (by kernel_rfl) Try.func3
    (ChangeSpec.witness6 (enc := enc) (C := Try.checked) false ⟨#[], #[.agg #[.int .i64 0, .int .i64 0, .int .i64 0], .int .i64 0], []⟩ 8 (by kernel_rfl) (by kernel_rfl) (by kernel_rfl) (by kernel_rfl)) ?_
  intro W base args ds gs before hval0 hW _ hsz0 _
  have hsz : (DataW.weightsEach Try.prog (Try.f3.params.toList ++ Rows.splitOrdersSpec.plain.varTypes Try.prog) (ds ++ gs)).all (· ≤ reachBytes) = true := hsz0
  clear hsz0
  have hval : ∀ (j : Nat) t v, Try.f3.params[j]? = some t → args[j]? = some v → Value.okWide Try.prog W .any base t v := hval0
  have hW' := hW
  obtain ⟨p, q, hA0, hV, rfl, _, _⟩ := hW
  have hA : DataW.TrodAll enc Try.prog W 0 (fun _ => true) true Try.f3.params.toList args.toList ds p := hA0
  rw [Try.params3] at hA hval hsz
  obtain ⟨v0, v1, d0, d1, p0, p1, rfl, rfl, rfl, h0, h1⟩ := trodAll_two hA
  obtain ⟨rfl, rfl⟩ := trodVars_none hV
  obtain ⟨e0, e1, e2, x0, x1, x2, fu, rfl, rfl, rfl, g0, g1, g2⟩ := open_agg3 Try.underlying24 (by kernel_rfl) (by kernel_rfl) (hval 0 24 v0 rfl rfl) h0
  obtain ⟨f, k0, rfl, wf0⟩ := DataW.trod_int Try.underlying22 g0
  obtain rfl := List.head_eq_of_cons_eq k0
  obtain ⟨i, k1, rfl, wf1⟩ := DataW.trod_int Try.underlying22 g1
  obtain rfl := List.head_eq_of_cons_eq k1
  obtain ⟨r, k2, rfl, wf2⟩ := DataW.trod_int Try.underlying22 g2
  obtain rfl := List.head_eq_of_cons_eq k2
  obtain ⟨a, rfl, rfl, rfl, w1⟩ := open_int Try.underlying22 (hval 1 22 v1 rfl rfl) h1
  refine (SOrd_any (wf_i64 w1).2 _).mono fun e W' hpost => ?_
  obtain ⟨he, hbl⟩ := hpost
  subst he
  exact ⟨_, rfl, law_post hW' hbl (by kernel_rfl) rfl rfl rfl rfl (by
    intro t ht
    have ht' : t = 24 ∨ t = 22 := by
      rw [Try.params3] at ht
      simpa using ht
    rcases ht' with rfl | rfl <;> exact ⟨by kernel_rfl, of_decide_eq_true (by kernel_rfl)⟩)⟩

theorem said : Rows.SplitOrdersSaid :=
  OpenClaim.holds_of_wide 3 Try.f3 rfl rfl rfl rfl rfl rfl rfl ⟨rfl, rfl, rfl, rfl, rfl⟩ rfl rfl rfl rfl rfl (by kernel_rfl) Try.func3 (by kernel_rfl)
    (of_decide_eq_true (by kernel_rfl)) (by unfold Func.isWrapper; first | (rw [if_pos (by decide +kernel)]; kernel_rfl) | (rw [if_neg (by decide +kernel)]; exact ⟨rfl, rfl⟩))
    (fun os started H enc _ => lifted os started H enc)
end Go.Proofs.Ytbikfplipkhhcab.sordProof
