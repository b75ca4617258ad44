/-
  The reference's Lay of layer 8. Conditions: a value in its kinds, its text of at most 1000 bytes.
-/
import Derived.Test.YtclmhgaggminpabRefR8
namespace Go.Proofs.Ytclmhgaggminpab
open Go.RowKit

set_option maxRecDepth 20000 in
set_option maxHeartbeats 2000000 in
theorem RLay_any (v : Val) (hv : v.Ok) (w : World) : Calls Try.prog 11 #[v.enc] w (CutPost w.heap.size w (layV v)) := by
  obtain ⟨k, u, i, s, m⟩ := v
  obtain ⟨hk, hu, hi, hs, hm⟩ := hv
  simp only at hk hu hi hs hm
  unfold Val.enc layV
  simp only
  obtain ⟨W1, hW1⟩ : ∃ W, w.alloc (.cells #[.int .u8 (k : Int), .int .u64 (u : Int), .int .i64 i, .string s, .int .u64 (m : Int)] 30) = W := ⟨_, rfl⟩
  have hkb : Blk W1 w.heap.size 30 #[.int .u8 (k : Int), .int .u64 (u : Int), .int .i64 i, .string s, .int .u64 (m : Int)] := by rw [← hW1]; exact Blk.new w _ _
  have hb1 : Below w.heap.size w W1 := by rw [← hW1]; exact (Below.refl _ w).alloc (Nat.le_refl _) _
  have c0 := hkb.cell 0
  have c1 := hkb.cell 1
  have c2 := hkb.cell 2
  have c3 := hkb.cell 3
  simp at c0 c1 c2 c3
  have hcp : ∀ L e w', CutPost W1.heap.size W1 L e w' → CutPost w.heap.size w L e w' := fun L e w' ⟨A, c, a1, a2, a3, a4, a5⟩ => ⟨A, c, a1, a2, a3, a4, hb1.trans (a5.mono hb1.size)⟩
  have HCP := Lib.hid hcp
  clear hkb hcp
  by_cases h0 : k % 4 = 0
  · rw [if_pos h0]
    have hC := (RUint_any u hu W1).mono fun _ _ h => h.cut
    have HC := Lib.hid hC
    have hk0 : (k : Int) % 4 = 0 := by omega
    clear hC hb1 h0
    go_enter Try.func11, Try.ntmps11
    go_wp2_with fail
    refine HC.out.mono ?_
    intro e w2 hp
    obtain ⟨A, c, rfl, a1, a2, a3, a4⟩ := HCP.out _ _ _ hp
    have A3 := Lib.hid a3
    have A4 := Lib.hid a4
    clear hp a3 a4 hW1
    go_wp2_with fail
    go_ret
    exact ⟨A, c, rfl, a1, a2, A3.out, A4.out⟩
  rw [if_neg h0]
  by_cases h1 : k % 4 = 1
  · rw [if_pos h1]
    have hC : Calls _ _ _ W1 (CutPost W1.heap.size W1 (layI i)) := RInt_any i hi W1
    have HC := Lib.hid hC
    have hk0 : (k : Int) % 4 = 1 := by omega
    clear hC hb1 h0 h1
    go_enter Try.func11, Try.ntmps11
    go_wp2_with fail
    refine HC.out.mono ?_
    intro e w2 hp
    obtain ⟨A, c, rfl, a1, a2, a3, a4⟩ := HCP.out _ _ _ hp
    have A3 := Lib.hid a3
    have A4 := Lib.hid a4
    clear hp a3 a4 hW1
    go_wp2_with fail
    go_ret
    exact ⟨A, c, rfl, a1, a2, A3.out, A4.out⟩
  rw [if_neg h1]
  by_cases h2 : k % 4 = 2
  · rw [if_pos h2]
    have hC : Calls _ _ _ W1 (CutPost W1.heap.size W1 (layF (u % 2 == 1))) := RFlag_any (u % 2 == 1) W1
    have HC := Lib.hid hC
    have hk0 : (k : Int) % 4 = 2 := by omega
    clear hC hb1 h0 h1 h2
    rcases (show (u % 2 = 1 ∧ (u : Int) % 2 = 1) ∨ (u % 2 = 0 ∧ (u : Int) % 2 = 0) by omega) with ⟨e1, e2⟩ | ⟨e1, e2⟩
    all_goals
      rw [e1] at HC ⊢
      clear e1
      go_enter Try.func11, Try.ntmps11
      go_wp2_with fail
      refine HC.out.mono ?_
      intro e w2 hp
      obtain ⟨A, c, rfl, a1, a2, a3, a4⟩ := HCP.out _ _ _ hp
      have A3 := Lib.hid a3
      have A4 := Lib.hid a4
      clear hp a3 a4 hW1
      go_wp2_with fail
      go_ret
      exact ⟨A, c, rfl, a1, a2, A3.out, A4.out⟩
  rw [if_neg h2]
  have hC := (RText_any s hs W1).mono fun _ _ h => h.cut
  have HC := Lib.hid hC
  have hk0 : (k : Int) % 4 = 3 := by omega
  clear hC hb1 h0 h1 h2
  go_enter Try.func11, Try.ntmps11
  go_wp2_with fail
  refine HC.out.mono ?_
  intro e w2 hp
  obtain ⟨A, c, rfl, a1, a2, a3, a4⟩ := HCP.out _ _ _ hp
  have A3 := Lib.hid a3
  have A4 := Lib.hid a4
  clear hp a3 a4 hW1
  go_wp2_with fail
  go_ret
  exact ⟨A, c, rfl, a1, a2, A3.out, A4.out⟩
end Go.Proofs.Ytclmhgaggminpab
