/-
  Of two days' texts the one of the later day comes behind. No condition.
-/
import Derived.Test.YthbifpmjkaonnaaDoorPad
import Derived.Test.YthbifpmjkaonnaaDoorSpanM
import GoSem.Op.String
namespace Go.Proofs.YthbifpmjkaonnaaDoor

theorem dgt_lt (a b : Nat) : decide (dgt a < dgt b) = decide (a % 10 < b % 10) := by
  rw [decide_eq_decide, UInt8.lt_iff_toNat_lt, dgt_nat, dgt_nat]
  omega
theorem dgt_eq (a b : Nat) : (dgt a == dgt b) = decide (a % 10 = b % 10) := by
  rw [Bool.eq_iff_iff, beq_iff_eq, decide_eq_true_iff, ← UInt8.toNat_inj, dgt_nat, dgt_nat]
  omega
theorem less_pad2 (a b : Nat) (ha : a < 100) (hb : b < 100) (r s : List UInt8) : Op.bytesLess (pad2 a ++ r) (pad2 b ++ s) = (decide (a < b) || (decide (a = b) && Op.bytesLess r s)) := by
  simp only [pad2, List.cons_append, List.nil_append, Op.bytesLess, dgt_lt, dgt_eq]
  generalize Op.bytesLess r s = X
  rw [Bool.eq_iff_iff]
  cases X <;> simp <;> omega
theorem four_digits (a : Nat) (h : a < 10000) : ∃ p q u v, p < 10 ∧ q < 10 ∧ u < 10 ∧ v < 10 ∧ a = 1000 * p + 100 * q + 10 * u + v ∧ a / 1000 % 10 = p ∧ a / 100 % 10 = q ∧ a / 10 % 10 = u ∧ a % 10 = v :=
  ⟨a / 1000, a / 100 % 10, a / 10 % 10, a % 10, by omega, by omega, by omega, by omega, by omega, by omega, rfl, rfl, rfl⟩
theorem less_pad4 (a b : Nat) (ha : a < 10000) (hb : b < 10000) (r s : List UInt8) : Op.bytesLess (pad4 a ++ r) (pad4 b ++ s) = (decide (a < b) || (decide (a = b) && Op.bytesLess r s)) := by
  simp only [pad4, List.cons_append, List.nil_append, Op.bytesLess, dgt_lt, dgt_eq]
  generalize Op.bytesLess r s = X
  obtain ⟨p, q, u, v, p1, q1, u1, v1, e, e1, e2, e3, e4⟩ := four_digits a ha
  obtain ⟨p', q', u', v', p1', q1', u1', v1', e', e1', e2', e3', e4'⟩ := four_digits b hb
  rw [e1, e2, e3, e4, e1', e2', e3', e4']
  clear e1 e2 e3 e4 e1' e2' e3' e4'
  subst e e'
  rw [Bool.eq_iff_iff]
  cases X <;> simp <;> omega
theorem less_dash (r s : List UInt8) : Op.bytesLess (45 :: r) (45 :: s) = Op.bytesLess r s := by
  simp [Op.bytesLess]
theorem less_text (y m d y' m' d' : Nat) (hy : y < 10000) (hm : m < 100) (hd : d < 100) (hy' : y' < 10000) (hm' : m' < 100) (hd' : d' < 100) :
    Op.bytesLess (textL y m d) (textL y' m' d') = (decide (y < y') || (decide (y = y') && (decide (m < m') || (decide (m = m') && decide (d < d'))))) := by
  have e := less_pad2 d d' hd hd' [] []
  rw [List.append_nil, List.append_nil] at e
  unfold textL
  rw [less_pad4 _ _ hy hy', less_dash, less_pad2 _ _ hm hm', less_dash, e]
  simp [Op.bytesLess]
theorem textS_list (y m d : Nat) : (textS y m d).toList = textL y m d := by
  rw [ByteArray.toList_eq]
  simp [textS]
end Go.Proofs.YthbifpmjkaonnaaDoor
