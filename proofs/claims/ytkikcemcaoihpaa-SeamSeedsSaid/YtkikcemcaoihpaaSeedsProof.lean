/-
  SeamSeeds returns true for every two seeds and every bytes, and leaves its arguments as they were. No condition.
-/
import Derived.Test.YtkikcemcaoihpaaSeeds
import Derived.Test.YtkikcemcaoihpaaShut
namespace Go.Proofs.Ytkikcemcaoihpaa
open Go.ChangeShapes Go.WideShapes Go.ChangeAt Go.RowKit

theorem seeds_walk (A : Option Addr) (n c : Nat) (l : List UInt8) (w : World) (a b : Nat) (ha : a < 4294967296) (hb : b < 4294967296) (hR : Rd w w.heap.size A l) (hn : l.length = n) (hm : n ≤ 140737488355328) :
    Calls Try.prog 6 #[.int .u32 a, .int .u32 b, .slice A n c] w fun e w' => e = .returned (.bool true) ∧ Below w.heap.size w w' := by
  by_cases h : a = b
  · subst h
    exact Seeds_same A n c l w a ha hR hn hm
  · exact Seeds_apart A n c l w a b ha hb h hR hn hm

set_option maxRecDepth 100000 in
theorem seeds_lifted (os : Os) (started : os.Started) (H : Type) (enc : TypeId × Value → H) :
    ReturnsInHanded {} Try.checked os 6 .any (Rows.seamSeedsSpec.pre6 enc Try.prog Try.f6 Rows.seamSeedsRow.domain false) (Rows.seamSeedsSpec.post enc Try.prog Try.f6 false true false false) := by
  refine returnsInHanded_of_change_sized (C := Try.checked) own started (by kernel_rfl) Try.func6
    (ChangeSpec.witness6 (enc := enc) (C := Try.checked) false ⟨#[], #[.int .u32 0, .int .u32 0, .slice Option.none 0 0], []⟩ 8 (by kernel_rfl) (by kernel_rfl) (by kernel_rfl) (by kernel_rfl)) ?_
  intro W base args ds gs before hval0 hW _ hsz0 _
  have hsz : (DataW.weightsEach Try.prog (Try.f6.params.toList ++ Rows.seamSeedsSpec.plain.varTypes Try.prog) (ds ++ gs)).all (· ≤ reachBytes) = true := hsz0
  clear hsz0
  have hval : ∀ (j : Nat) t v, Try.f6.params[j]? = some t → args[j]? = some v → Value.okWide Try.prog W .any base t v := hval0
  have hW' := hW
  obtain ⟨p, q, hA0, hV, rfl, _, _⟩ := hW
  have hA : DataW.TrodAll enc Try.prog W 0 (fun _ => true) true Try.f6.params.toList args.toList ds p := hA0
  rw [Try.params6] at hA hval hsz
  obtain ⟨v0, v1, v2, d0, d1, d2, p0, p1, p2, rfl, rfl, rfl, h0, h1, h2⟩ := trodAll_three hA
  obtain ⟨rfl, rfl⟩ := trodVars_none hV
  have hlt : ∀ x ∈ p2, x.block < W.heap.size := fun x hx => by simpa using hW'.lt x (by simp [hx])
  obtain ⟨z0, rfl, rfl, rfl, w0⟩ := open_int Try.underlying42 (hval 0 42 v0 rfl rfl) h0
  obtain ⟨z1, rfl, rfl, rfl, w1⟩ := open_int Try.underlying42 (hval 1 42 v1 rfl rfl) h1
  obtain ⟨A, n, c, l, rfl, hln, _, _, hnm, hR⟩ := open_bytes (hval 2 22 v2 rfl rfl) h2 hlt hsz (j := 2) rfl rfl
  obtain ⟨a, rfl, ha⟩ := wf_u32 w0
  obtain ⟨b, rfl, hb⟩ := wf_u32 w1
  refine (seeds_walk A n c l W a b ha hb hR hln hnm).mono fun e W' ⟨he, hbl⟩ => ?_
  subst he
  exact ⟨_, rfl, law_post hW' hbl (by kernel_rfl) rfl rfl rfl rfl (by
    intro t ht
    have ht' : t = 42 ∨ t = 42 ∨ t = 22 := by
      rw [Try.params6] at ht
      simpa using ht
    rcases ht' with rfl | rfl | rfl <;> exact ⟨by kernel_rfl, of_decide_eq_true (by kernel_rfl)⟩)⟩

theorem seeds_holds : Rows.SeamSeedsSaid :=
  OpenClaim.holds_of_wide 6 Try.f6 rfl rfl rfl rfl rfl rfl rfl ⟨rfl, rfl, rfl, rfl, rfl⟩ rfl rfl rfl rfl rfl (by kernel_rfl) Try.func6 (by kernel_rfl)
    (of_decide_eq_true (by kernel_rfl)) (by unfold Func.isWrapper; first | (rw [if_pos (by decide +kernel)]; kernel_rfl) | (rw [if_neg (by decide +kernel)]; exact ⟨rfl, rfl⟩))
    (fun os started H enc _ => seeds_lifted os started H enc)
end Go.Proofs.Ytkikcemcaoihpaa
