/-
  ChartSames returns true, whatever comes in, and leaves its arguments as they were. No condition.
-/
import Derived.Test.YtpphcifabmmimaaLegI
import Derived.Test.YtpphcifabmmimaaShutA
import Derived.Lib.SmallJoins
namespace Go.Proofs.Ytpphcifabmmimaa.chSmProof
open Go.ChangeShapes Go.WideShapes Go.ChangeAt Go.RowKit Go.Joins Go.Deep

set_option maxRecDepth 100000 in
theorem lifted (os : Os) (started : os.Started) (H : Type) (enc : TypeId × Value → H) :
    ReturnsInHanded {} Try.checked os 5 .any (Rows.chartSamesSpec.pre6 enc Try.prog Try.f5 Rows.chartSamesRow.domain false) (Rows.chartSamesSpec.post enc Try.prog Try.f5 false true false false) := by
  refine returnsInHanded_of_change_sized (C := Try.checked) own started (by kernel_rfl) Try.func5
    (ChangeSpec.witness6 (enc := enc) (C := Try.checked) false ⟨#[], #[.agg #[.int .u32 0, .int .i32 0, .int .u8 0, .int .u32 0], .agg #[.int .u32 0, .int .i32 0, .int .u8 0, .int .u32 0], .slice Option.none 0 0, .slice Option.none 0 0], []⟩ 8 (by kernel_rfl) (by kernel_rfl) (by kernel_rfl) (by kernel_rfl)) ?_
  intro W base args ds gs before hval0 hW _ hsz0 _
  have hsz : (DataW.weightsEach Try.prog (Try.f5.params.toList ++ Rows.chartSamesSpec.plain.varTypes Try.prog) (ds ++ gs)).all (· ≤ reachBytes) = true := hsz0
  clear hsz0
  have hval : ∀ (j : Nat) t v, Try.f5.params[j]? = some t → args[j]? = some v → Value.okWide Try.prog W .any base t v := hval0
  have hW' := hW
  obtain ⟨p, q, hA0, hV, rfl, _, _⟩ := hW
  have hA : DataW.TrodAll enc Try.prog W 0 (fun _ => true) true Try.f5.params.toList args.toList ds p := hA0
  rw [Try.params5] at hA hval hsz
  obtain ⟨v0, v1, v2, v3, d0, d1, d2, d3, p0, p1, p2, p3, rfl, rfl, rfl, h0, h1, h2, h3⟩ := trodAll_four hA
  obtain ⟨rfl, rfl⟩ := trodVars_none hV
  obtain ⟨a0, rfl, hk0⟩ := open_key (hval 0 25 v0 rfl rfl) h0
  obtain ⟨a1, rfl, hk1⟩ := open_key (hval 1 25 v1 rfl rfl) h1
  have hlt2 : ∀ x ∈ p2, x.block < W.heap.size := fun x hx => by simpa using hW'.lt x (by simp [hx])
  obtain ⟨A, n, c, l, rfl, hln2, hlc2, hcm2, hR2, hI2⟩ := open_legs (hval 2 26 v2 rfl rfl) h2 hlt2
  have hlt3 : ∀ x ∈ p3, x.block < W.heap.size := fun x hx => by simpa using hW'.lt x (by simp [hx])
  obtain ⟨A3, n3, c3, l3, rfl, hln3, hlc3, hcm3, hR3, hI3⟩ := open_legs (hval 3 26 v3 rfl rfl) h3 hlt3
  refine (CSames_any a0 a1 hk0 hk1 A A3 n n3 c c3 (mkL (l.take 12)) (mkL (l3.take 12)) _ (mkL_len _) (mkL_len _) (mkL_in _) (mkL_in _) (fun w1 hb q1 q2 => reg3_any a0 a1 A A3 n n3 c c3 l l3 _ w1 hR2 hln2 hlc2 (by omega) hI2 hR3 hln3 hlc3 (by omega) hI3 hb q1 q2)).mono fun e W' hpost => ?_
  obtain ⟨he, hbl⟩ := hpost
  subst he
  exact ⟨_, rfl, law_post hW' hbl (by kernel_rfl) rfl rfl rfl rfl (by
    intro t ht
    have ht' : t = 25 ∨ t = 25 ∨ t = 26 ∨ t = 26 := by
      rw [Try.params5] at ht
      simpa using ht
    rcases ht' with rfl | rfl | rfl | rfl <;> exact ⟨by kernel_rfl, of_decide_eq_true (by kernel_rfl)⟩)⟩

theorem said : Rows.ChartSamesSaid :=
  OpenClaim.holds_of_wide 5 Try.f5 rfl rfl rfl rfl rfl rfl rfl ⟨rfl, rfl, rfl, rfl, rfl⟩ rfl rfl rfl rfl rfl (by kernel_rfl) Try.func5 (by kernel_rfl)
    (of_decide_eq_true (by kernel_rfl)) (by unfold Func.isWrapper; first | (rw [if_pos (by decide +kernel)]; kernel_rfl) | (rw [if_neg (by decide +kernel)]; exact ⟨rfl, rfl⟩))
    (fun os started H enc _ => lifted os started H enc)
end Go.Proofs.Ytpphcifabmmimaa.chSmProof
