/-
  YieldGrows returns true, whatever comes in, and leaves its arguments as they were. No condition.
-/
import Derived.Test.YtbfekonlgbolcaaYGrows
import Derived.Test.YtbfekonlgbolcaaShutA
import Derived.Lib.SmallJoins
namespace Go.Proofs.Ytbfekonlgbolcaa.ygrowsProof
open Go.ChangeShapes Go.WideShapes Go.ChangeAt Go.RowKit Go.Joins Go.Deep

set_option maxRecDepth 100000 in
theorem lifted (os : Os) (started : os.Started) (H : Type) (enc : TypeId × Value → H) :
    ReturnsInHanded {} Try.checked os 4 .any (Rows.yieldGrowsSpec.pre6 enc Try.prog Try.f4 Rows.yieldGrowsRow.domain false) (Rows.yieldGrowsSpec.post enc Try.prog Try.f4 false true false false) := by
  refine returnsInHanded_of_change_sized (C := Try.checked) own started (by kernel_rfl) Try.func4
    (ChangeSpec.witness6 (enc := enc) (C := Try.checked) false ⟨#[], #[.agg #[.int .u32 0, .int .u8 0], .agg #[.int .u32 0, .int .u8 0], .int .i64 0, .int .i64 0, .int .u16 0, .int .u16 0], []⟩ 8 (by kernel_rfl) (by kernel_rfl) (by kernel_rfl) (by kernel_rfl)) ?_
  intro W base args ds gs before hval0 hW _ hsz0 _
  have hsz : (DataW.weightsEach Try.prog (Try.f4.params.toList ++ Rows.yieldGrowsSpec.plain.varTypes Try.prog) (ds ++ gs)).all (· ≤ reachBytes) = true := hsz0
  clear hsz0
  have hval : ∀ (j : Nat) t v, Try.f4.params[j]? = some t → args[j]? = some v → Value.okWide Try.prog W .any base t v := hval0
  have hW' := hW
  obtain ⟨p, q, hA0, hV, rfl, _, _⟩ := hW
  have hA : DataW.TrodAll enc Try.prog W 0 (fun _ => true) true Try.f4.params.toList args.toList ds p := hA0
  rw [Try.params4] at hA hval hsz
  obtain ⟨v0, vs0, d0, ds0, p0, q0, hargs, rfl, rfl, h0, r0⟩ := trodAll_cons hA
  obtain ⟨v1, vs1, d1, ds1, p1, q1, rfl, rfl, rfl, h1, r1⟩ := trodAll_cons r0
  obtain ⟨v2, vs2, d2, ds2, p2, q2, rfl, rfl, rfl, h2, r2⟩ := trodAll_cons r1
  obtain ⟨v3, vs3, d3, ds3, p3, q3, rfl, rfl, rfl, h3, r3⟩ := trodAll_cons r2
  obtain ⟨v4, vs4, d4, ds4, p4, q4, rfl, rfl, rfl, h4, r4⟩ := trodAll_cons r3
  obtain ⟨v5, vs5, d5, ds5, p5, q5, rfl, rfl, rfl, h5, r5⟩ := trodAll_cons r4
  obtain ⟨rfl, rfl, rfl⟩ := trodAll_nil r5
  obtain rfl : args = #[v0, v1, v2, v3, v4, v5] := Array.toList_inj.1 (hargs.trans rfl)
  obtain ⟨rfl, rfl⟩ := trodVars_none hV
  obtain ⟨e00, e01, x00, x01, fu0, rfl, rfl, rfl, g00, g01⟩ := open_agg2 Try.underlying24 (by kernel_rfl) (by kernel_rfl) (hval 0 24 v0 rfl rfl) h0
  obtain ⟨y00, k00, rfl, wf00⟩ := DataW.trod_int Try.underlying22 g00
  obtain rfl := List.head_eq_of_cons_eq k00
  obtain ⟨y01, k01, rfl, wf01⟩ := DataW.trod_int Try.underlying5 g01
  obtain rfl := List.head_eq_of_cons_eq k01
  obtain ⟨p, rfl, ha0⟩ := wf_u32 wf00
  obtain ⟨b, rfl, hb0⟩ := wf_u8 wf01
  obtain ⟨e10, e11, x10, x11, fu1, rfl, rfl, rfl, g10, g11⟩ := open_agg2 Try.underlying24 (by kernel_rfl) (by kernel_rfl) (hval 1 24 v1 rfl rfl) h1
  obtain ⟨y10, k10, rfl, wf10⟩ := DataW.trod_int Try.underlying22 g10
  obtain rfl := List.head_eq_of_cons_eq k10
  obtain ⟨y11, k11, rfl, wf11⟩ := DataW.trod_int Try.underlying5 g11
  obtain rfl := List.head_eq_of_cons_eq k11
  obtain ⟨p2, rfl, ha1⟩ := wf_u32 wf10
  obtain ⟨b2, rfl, hb1⟩ := wf_u8 wf11
  obtain ⟨P, rfl, rfl, rfl, w2⟩ := open_int Try.underlying25 (hval 2 25 v2 rfl rfl) h2
  obtain ⟨Q, rfl, rfl, rfl, w3⟩ := open_int Try.underlying25 (hval 3 25 v3 rfl rfl) h3
  obtain ⟨z4, rfl, rfl, rfl, w4⟩ := open_int Try.underlying30 (hval 4 30 v4 rfl rfl) h4
  obtain ⟨d, rfl, ha4⟩ := wf_u16 w4
  obtain ⟨z5, rfl, rfl, rfl, w5⟩ := open_int Try.underlying30 (hval 5 30 v5 rfl rfl) h5
  obtain ⟨m, rfl, ha5⟩ := wf_u16 w5
  refine (Grows_any ha0 ha1 ha4 ha5 _).mono fun e W' hpost => ?_
  obtain ⟨he, hbl⟩ := hpost
  subst he
  exact ⟨_, rfl, law_post hW' hbl (by kernel_rfl) rfl rfl rfl rfl (by
    intro t ht
    have ht' : t = 24 ∨ t = 24 ∨ t = 25 ∨ t = 25 ∨ t = 30 ∨ t = 30 := by
      rw [Try.params4] at ht
      simpa using ht
    rcases ht' with rfl | rfl | rfl | rfl | rfl | rfl <;> exact ⟨by kernel_rfl, of_decide_eq_true (by kernel_rfl)⟩)⟩

theorem said : Rows.YieldGrowsSaid :=
  OpenClaim.holds_of_wide 4 Try.f4 rfl rfl rfl rfl rfl rfl rfl ⟨rfl, rfl, rfl, rfl, rfl⟩ rfl rfl rfl rfl rfl (by kernel_rfl) Try.func4 (by kernel_rfl)
    (of_decide_eq_true (by kernel_rfl)) (by unfold Func.isWrapper; first | (rw [if_pos (by decide +kernel)]; kernel_rfl) | (rw [if_neg (by decide +kernel)]; exact ⟨rfl, rfl⟩))
    (fun os started H enc _ => lifted os started H enc)
end Go.Proofs.Ytbfekonlgbolcaa.ygrowsProof
