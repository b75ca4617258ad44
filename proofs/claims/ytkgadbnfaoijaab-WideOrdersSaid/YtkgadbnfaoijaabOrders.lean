/-
  WideOrders: the walk. Conditions: the numbers' kinds.
-/
import Derived.Test.YtkgadbnfaoijaabWideA
namespace Go.Proofs.Ytkgadbnfaoijaab
open Go.RowKit

theorem wof_ex (n : Nat) : ∃ h l : Nat, wof n = .agg #[.int .u64 (h : Int), .int .u64 (l : Int)] ∧ n = h * 18446744073709551616 + l ∧ l < 18446744073709551616 :=
  ⟨n / 18446744073709551616, n % 18446744073709551616, rfl, by omega, by omega⟩
theorem wof_small (n : Nat) (hn : n < 18446744073709551616) : wof n = .agg #[.int .u64 0, .int .u64 (n : Int)] := by
  unfold wof wv
  rw [show n / 18446744073709551616 = 0 by omega, show n % 18446744073709551616 = n by omega]
  rfl
theorem Less_wof (m n : Nat) (w : World) : Calls Try.prog 6 #[wof m, wof n] w (Ret (.bool (decide (m < n))) w) := by
  have h := Less_any (m / 18446744073709551616) (m % 18446744073709551616) (n / 18446744073709551616) (n % 18446744073709551616) (by omega) (by omega) w
  rw [show m / 18446744073709551616 * 18446744073709551616 + m % 18446744073709551616 = m by omega, show n / 18446744073709551616 * 18446744073709551616 + n % 18446744073709551616 = n by omega] at h
  exact h

set_option maxHeartbeats 2000000 in
theorem Orders_any (a b c : Nat) (ha : a < 18446744073709551616) (hb : b < 18446744073709551616) (hc : c < 18446744073709551616) (w : World) :
    Calls Try.prog 3 #[.int .u64 a, .int .u64 b, .int .u64 c] w (Ret (.bool true) w) := by
  have h1 := fun W => Mul_any a c ha hc W
  have h2 := fun W => Mul_any b c hb hc W
  have h3 := fun W => Mul_any a b ha hb W
  have h4 := fun W => Mul_any b a hb ha W
  have h5 := fun W => Mul_any a 1 ha (by decide) W
  rw [Nat.mul_comm b a] at h4
  rw [Nat.mul_one] at h5
  replace h5 : ∀ W, Calls Try.prog 5 #[.int .u64 (a : Int), .int .u64 1] W (Ret (wof a) W) := h5
  have l1 := fun W => Less_wof (a * c) (b * c) W
  have l2 := fun W => Less_wof (a * c) (a * c) W
  have hL : (a * c < b * c) = (a < b ∧ 0 < c) := by
    apply propext
    constructor
    · intro h
      have : 0 < c := by
        rcases Nat.eq_zero_or_pos c with h0 | h0
        · subst h0; omega
        · exact h0
      exact ⟨Nat.lt_of_mul_lt_mul_right h, this⟩
    · intro h
      exact Nat.mul_lt_mul_of_pos_right h.1 h.2
  simp only [hL, Nat.lt_irrefl, decide_false] at l1 l2
  generalize a * c = x at *
  generalize b * c = y at *
  generalize a * b = z at *
  obtain ⟨xh, xl, ex, -, -⟩ := wof_ex x
  obtain ⟨yh, yl, ey, -, -⟩ := wof_ex y
  obtain ⟨zh, zl, ez, -, -⟩ := wof_ex z
  rw [ex] at h1 l1 l2
  rw [ey] at h2 l1
  rw [ez] at h3 h4
  rw [wof_small a ha] at h5
  clear hL ex ey ez
  go_enter Try.func3, Try.ntmps3
  go_wp2_with fail
  refine (awake_any _).mono ?_
  rintro e w1 ⟨rfl, hb1⟩
  go_wp2_with fail
  refine (h1 _).mono ?_
  rintro e w2 ⟨rfl, hb2⟩
  go_wp2_with fail
  refine (h2 _).mono ?_
  rintro e w3 ⟨rfl, hb3⟩
  have hd : (a < b ∧ 0 < c ∧ decide (a < b ∧ 0 < c) = true) ∨ (a < b ∧ c = 0 ∧ decide (a < b ∧ 0 < c) = false) ∨ (¬ a < b ∧ decide (a < b ∧ 0 < c) = false) := by
    by_cases g1 : a < b
    · rcases Nat.eq_zero_or_pos c with g2 | g2
      · exact Or.inr (Or.inl ⟨g1, g2, decide_eq_false (by omega)⟩)
      · exact Or.inl ⟨g1, g2, decide_eq_true ⟨g1, g2⟩⟩
    · exact Or.inr (Or.inr ⟨g1, decide_eq_false (fun h => g1 h.1)⟩)
  rcases hd with ⟨d1, d2, hd⟩ | ⟨d1, rfl, hd⟩ | ⟨d1, hd⟩
  all_goals
    rw [hd] at l1
    clear hd
    go_wp2_with fail
    refine (l1 _).mono ?_
    rintro e w4 ⟨rfl, hb4⟩
    have c0 : w4.cell? ⟨w3.heap.size, 0, none⟩ = some (.int .u64 (xh : Int)) := (hb4.cell (p := ⟨w3.heap.size, 0, none⟩) (by simp; omega)).trans (by simp)
    have c1 : w4.cell? ⟨w3.heap.size, 1, none⟩ = some (.int .u64 (xl : Int)) := (hb4.cell (p := ⟨w3.heap.size, 1, none⟩) (by simp; omega)).trans (by simp)
    have hz4 : w.heap.size ≤ w4.heap.size := by have := hb4.size; have := hb3.size; have := hb2.size; have := hb1.size; simp at *; omega
    have hb3' := hb1.trans ((hb2.trans (hb3.mono hb2.size)).mono hb1.size)
    have hb24 : Below w.heap.size w w4 := ((hb3'.alloc hb3'.size _).alloc (Nat.le_trans hb3'.size (by simp)) _).trans (hb4.mono (Nat.le_trans hb3'.size (by simp; omega)))
    clear hb3'
    clear hb4 hb3 hb2 hb1
    go_wp2_with fail
    refine (l2 _).mono ?_
    rintro e w5 ⟨rfl, hb5⟩
    go_wp2_with fail
    refine (h3 _).mono ?_
    rintro e w6 ⟨rfl, hb6⟩
    go_wp2_with fail
    refine (h4 _).mono ?_
    rintro e w7 ⟨rfl, hb7⟩
    go_wp2_with fail
    refine (h5 _).mono ?_
    rintro e w8 ⟨rfl, hb8⟩
    go_wp2_with fail
    go_ret
    exact ⟨rfl, hb24.trans (((hb5.trans (hb6.mono hb5.size)).trans ((hb7.trans (hb8.mono hb7.size)).mono (Nat.le_trans hb5.size hb6.size))).mono hz4)⟩
end Go.Proofs.Ytkgadbnfaoijaab
