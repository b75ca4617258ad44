/-
  yield's arithmetic: pieces, parts by parts, months. No condition.
-/
import Derived.Test.YtbikfplipkhhcaaMem
namespace Go.Proofs.Ytbikfplipkhhcaa
/-- How many pieces one is, by the basis. -/
def unitN (b : Nat) : Nat := if b = 1 then 365000000 else 360000000
theorem unitN_bd (b : Nat) : 360000000 ≤ unitN b ∧ unitN b ≤ 365000000 := by
  unfold unitN; split <;> omega
theorem pp_le {P p : Nat} (hP : P ≤ 1000000000000) (hp : p ≤ 1000000) : P * p ≤ 1000000000000000000 := Nat.mul_le_mul hP hp
theorem pcs_le {X d c : Nat} (hX : X ≤ 1000000000000000000) (hd : d ≤ 100000) (hc : c < 18446744073709551616) : X * d + c < 340282366920938463463374607431768211456 := by
  have := Nat.mul_le_mul hX hd
  omega
theorem pcs_div {X d c U : Nat} (hX : X ≤ 1000000000000000000) (hd : d ≤ 100000) (hU : 360000000 ≤ U) (hc : c < U) : (X * d + c) / U < 9223372036854775808 := by
  have h := Nat.mul_le_mul hX hd
  rw [Nat.div_lt_iff_lt_mul (by omega)]
  have : 9223372036854775808 * 360000000 ≤ 9223372036854775808 * U := Nat.mul_le_mul_left _ hU
  omega
/-- Part by part: what was carried adds up. -/
theorem adds_step {X U s l c A k : Nat} (h : s * U + l = X * A + c) :
    (s + (X * k + l) / U) * U + (X * k + l) % U = X * (A + k) + c := by
  have e := Nat.div_add_mod (X * k + l) U
  rw [Nat.add_mul, Nat.mul_add, Nat.mul_comm ((X * k + l) / U) U]
  omega
theorem adds_end {U s l N : Nat} (h : s * U + l = N) (hl : l < U) : N / U = s ∧ N % U = l := by
  subst h
  constructor
  · rw [Nat.add_comm, Nat.add_mul_div_right _ _ (by omega), Nat.div_eq_of_lt hl, Nat.zero_add]
  · rw [Nat.add_comm, Nat.add_mul_mod_self_right, Nat.mod_eq_of_lt hl]
theorem bound_one {X U c : Nat} (hU : 0 < U) (hc : c < U) : X / U ≤ (X + c) / U ∧ (X + c) / U ≤ X / U + 1 := by
  constructor
  · exact Nat.div_le_div_right (Nat.le_add_right _ _)
  · calc (X + c) / U ≤ (X + U) / U := Nat.div_le_div_right (by omega)
      _ = X / U + 1 := Nat.add_div_right _ hU
theorem grows {P Q p q d e U : Nat} (h1 : P ≤ Q) (h2 : p ≤ q) (h3 : d ≤ e) : (P * p * d + 0) / U ≤ (Q * q * e + 0) / U :=
  Nat.div_le_div_right (Nat.mul_le_mul (Nat.mul_le_mul h1 h2) h3)
/-- A month: a twelfth of a year. -/
theorem month_div (X : Nat) : X * 30 / 360000000 = X / 12000000 ∧ X * 30 % 360000000 = X % 12000000 * 30 := by
  omega
end Go.Proofs.Ytbikfplipkhhcaa
