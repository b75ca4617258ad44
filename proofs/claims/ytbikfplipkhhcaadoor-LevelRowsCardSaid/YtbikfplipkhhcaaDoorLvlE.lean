/-
  level's statements: what may be; LevelOrders, LevelOnly. Conditions: the numbers' kinds.
-/
import Derived.Test.YtbikfplipkhhcaaDoorLvlD
namespace Go.Proofs.YtbikfplipkhhcaaDoor
open Go.RowKit

set_option maxRecDepth 20000 in
set_option maxHeartbeats 4000000 in
theorem lr10 (p b : Nat) (P n : Int) (w : World) : Calls Tryd.prog 7 #[.int .i64 P, rv p b, .int .i64 n] w (Ret (.bool (decide (lvB p b P n))) w) := by
  unfold rv
  by_cases hp : p ≤ 1000000
  · have i0 : (p : Int) ≤ 1000000 := by omega
    by_cases hb : b = 1 ∨ b = 2
    · rcases (show P < 1 ∨ (1 ≤ P ∧ 1000000000000 < P) ∨ (1 ≤ P ∧ P ≤ 1000000000000 ∧ n < 1) ∨ (1 ≤ P ∧ P ≤ 1000000000000 ∧ 1 ≤ n ∧ 480 < n) ∨ (1 ≤ P ∧ P ≤ 1000000000000 ∧ 1 ≤ n ∧ n ≤ 480) by omega) with h1 | ⟨h1, h2⟩ | ⟨h1, h2, h3⟩ | ⟨h1, h2, h3, h4⟩ | ⟨h1, h2, h3, h4⟩
      · rw [decide_eq_false (fun e => by obtain ⟨-, a, b, c, d⟩ := e; omega)]
        clear hp
        rcases hb with rfl | rfl
        · go_enter Tryd.func7, Tryd.ntmps7
          go_wp2_with fail
          go_ret
          exact ⟨by first | rfl | (simp; omega), b_alloc _ _⟩
        · go_enter Tryd.func7, Tryd.ntmps7
          go_wp2_with fail
          go_ret
          exact ⟨by first | rfl | (simp; omega), b_alloc _ _⟩
      · rw [decide_eq_false (fun e => by obtain ⟨-, a, b, c, d⟩ := e; omega)]
        clear hp
        rcases hb with rfl | rfl
        · go_enter Tryd.func7, Tryd.ntmps7
          go_wp2_with fail
          go_ret
          exact ⟨by first | rfl | (simp; omega), b_alloc _ _⟩
        · go_enter Tryd.func7, Tryd.ntmps7
          go_wp2_with fail
          go_ret
          exact ⟨by first | rfl | (simp; omega), b_alloc _ _⟩
      · rw [decide_eq_false (fun e => by obtain ⟨-, a, b, c, d⟩ := e; omega)]
        clear hp
        rcases hb with rfl | rfl
        · go_enter Tryd.func7, Tryd.ntmps7
          go_wp2_with fail
          go_ret
          exact ⟨by first | rfl | (simp; omega), b_alloc _ _⟩
        · go_enter Tryd.func7, Tryd.ntmps7
          go_wp2_with fail
          go_ret
          exact ⟨by first | rfl | (simp; omega), b_alloc _ _⟩
      · rw [decide_eq_false (fun e => by obtain ⟨-, a, b, c, d⟩ := e; omega)]
        clear hp
        rcases hb with rfl | rfl
        · go_enter Tryd.func7, Tryd.ntmps7
          go_wp2_with fail
          go_ret
          exact ⟨by first | rfl | (simp; omega), b_alloc _ _⟩
        · go_enter Tryd.func7, Tryd.ntmps7
          go_wp2_with fail
          go_ret
          exact ⟨by first | rfl | (simp; omega), b_alloc _ _⟩
      · rw [decide_eq_true (show lvB p b P n from ⟨⟨hp, hb⟩, h1, h2, h3, h4⟩)]
        clear hp
        rcases hb with rfl | rfl
        · go_enter Tryd.func7, Tryd.ntmps7
          go_wp2_with fail
          go_ret
          exact ⟨by first | rfl | (simp; omega), b_alloc _ _⟩
        · go_enter Tryd.func7, Tryd.ntmps7
          go_wp2_with fail
          go_ret
          exact ⟨by first | rfl | (simp; omega), b_alloc _ _⟩
    · rw [decide_eq_false (fun e => hb e.1.2)]
      have j1 : ((b : Int) == 1) = false := by rw [beq_eq_false_iff_ne]; omega
      have j2 : ((b : Int) == 2) = false := by rw [beq_eq_false_iff_ne]; omega
      clear hp hb
      go_enter Tryd.func7, Tryd.ntmps7
      go_wp2_with fail
      go_ret
      exact ⟨rfl, b_alloc _ _⟩
  · rw [decide_eq_false (fun e => hp e.1.1)]
    have i0 : ¬ (p : Int) ≤ 1000000 := by omega
    clear hp
    go_enter Tryd.func7, Tryd.ntmps7
    go_wp2_with fail
    go_ret
    exact ⟨rfl, b_alloc _ _⟩
end Go.Proofs.YtbikfplipkhhcaaDoor
