/-
  span: Year; the references' Days and One; the document's example. Conditions: the months' lengths and strconv's powers of ten are laid.
-/
import Derived.Test.YtbfekonlgbolcaaDoorSpanB
namespace Go.Proofs.YtbfekonlgbolcaaDoor
open Go.RowKit

set_option maxHeartbeats 1000000 in
theorem Year_one (w : World) : Calls Tryd.prog 25 #[.int .u8 1] w fun e w' => e = .returned (.int .i64 365) ∧ w = w' := by
  go_enter Tryd.func25, Tryd.ntmps25
  go_wp2_with fail
  go_ret
  exact ⟨rfl, rfl⟩


set_option maxRecDepth 20000 in
set_option maxHeartbeats 1000000 in
theorem ROne_act (n : Int) (w : World) : Calls Tryd.prog 35 #[.bool false, .int .i64 n] w fun e w' => e = .returned (.int .i64 (accB 1 (n + 1) - accB 1 n)) ∧ Below w.heap.size w w' := by
  have hd : accB 1 (n + 1) - accB 1 n = 1 := by
    show (n + 1) - n = 1
    omega
  rw [hd]
  clear hd
  go_enter Tryd.func35, Tryd.ntmps35
  go_wp2_with fail
  go_ret
  exact ⟨rfl, Below.refl _ _⟩
set_option maxRecDepth 20000 in
set_option maxHeartbeats 1000000 in
theorem ROne_thi (n : Int) (h0 : 0 ≤ n) (h1 : n < 3652058) (w : World) : Calls Tryd.prog 35 #[.bool true, .int .i64 n] w fun e w' => e = .returned (.int .i64 (accB 2 (n + 1) - accB 2 n)) ∧ Below w.heap.size w w' := by
  have hd : accB 2 (n + 1) - accB 2 n = if cD n < mlen (cY n) (cM n) then 1 else 31 - mlen (cY n) (cM n) := acc_next n h0 h1
  obtain ⟨y1, y2, m1, m2, d1, d2, d3⟩ := civ_in n h0 (by omega)
  have hA := fun W => RCivil_any n W h0 (by omega)
  have hL := fun W => RLength_any (cY n) (cM n) W
  have lb := mlen_bd (cY n) (cM n)
  generalize accB 2 (n + 1) - accB 2 n = T at *
  generalize mlen (cY n) (cM n) = L at *
  generalize cY n = Y at *
  generalize cM n = M at *
  generalize cD n = D at *
  have HD := Lib.hid hd
  clear hd
  have body : ∀ R : Int, T = R → (D < L ∧ R = 1 ∨ L ≤ D ∧ L = 31 ∧ R = 0 ∨ L ≤ D ∧ L ≠ 31 ∧ R = 31 - L) → Calls Tryd.prog 35 #[.bool true, .int .i64 n] w fun e w' => e = .returned (.int .i64 T) ∧ Below w.heap.size w w' := by
    intro R hR hc
    rw [hR]
    rcases hc with ⟨h1, rfl⟩ | ⟨h1, h2, rfl⟩ | ⟨h1, h2, rfl⟩
    all_goals
      try subst h2
      try (have h3 : (L == 31) = false := by rw [beq_eq_false_iff_ne]; exact h2)
      clear HD hR
      go_enter Tryd.func35, Tryd.ntmps35
      go_wp2_with fail
      refine (hA _).mono ?_
      rintro e w1 ⟨rfl, hb1⟩
      go_wp2_with fail
      have hk1 := Blk.new w1 103 #[.int .i64 Y, .int .i64 M, .int .i64 D]
      have HB1 := Lib.hid (hb1.alloc hb1.size (.cells #[.int .i64 Y, .int .i64 M, .int .i64 D] 103))
      refine (hL _).mono ?_
      rintro e w2 ⟨rfl, hb2⟩
      have hk2 := hk1.below hb2 hk1.lt
      have HB2 := Lib.hid (HB1.out.trans (hb2.mono HB1.out.size))
      have c0 := hk2.cell 0
      have c1 := hk2.cell 1
      have c2 := hk2.cell 2
      simp at c0 c1 c2
      clear hb1 hb2 hk1 hk2 hA hL
      go_wp2_with fail
      go_ret
      exact ⟨rfl, HB2.out⟩
  by_cases hc : D < L
  · exact body 1 (by rw [HD.out, if_pos hc]) (Or.inl ⟨hc, rfl⟩)
  · by_cases h3 : L = 31
    · exact body 0 (by rw [HD.out, if_neg hc, h3]; rfl) (Or.inr (Or.inl ⟨by omega, h3, rfl⟩))
    · exact body (31 - L) (by rw [HD.out, if_neg hc]) (Or.inr (Or.inr ⟨by omega, h3, rfl⟩))
end Go.Proofs.YtbfekonlgbolcaaDoor
