/-
  Numbers in digits of 16 bits: what the references reckon, in natural numbers. No condition.
-/
import Derived.Test.YtbikfplipkhhcaaDoorMem
namespace Go.Proofs.YtbikfplipkhhcaaDoor

/-- The number whose digits these are, the lowest first. -/
def val : List Nat → Nat
  | [] => 0
  | a :: l => a + 65536 * val l
/-- The first k digits of n. -/
def digs : Nat → Nat → List Nat
  | 0, _ => []
  | k + 1, n => n % 65536 :: digs k (n / 65536)
theorem digs_length (k n : Nat) : (digs k n).length = k := by
  induction k generalizing n with
  | zero => rfl
  | succ k ih => simp [digs, ih]
theorem digs_lt (k n : Nat) : ∀ u ∈ digs k n, u < 65536 := by
  induction k generalizing n with
  | zero => intro u hu; cases hu
  | succ k ih =>
    intro u hu
    rcases List.mem_cons.1 hu with rfl | h
    · exact Nat.mod_lt _ (by decide)
    · exact ih _ u h
theorem val_digs (k n : Nat) (h : n < 65536 ^ k) : val (digs k n) = n := by
  induction k generalizing n with
  | zero => simp at h; subst h; rfl
  | succ k ih =>
    have h' : n / 65536 < 65536 ^ k := by
      rw [Nat.div_lt_iff_lt_mul (by decide)]
      rw [Nat.pow_succ] at h
      exact h
    simp only [digs, val, ih _ h']
    omega
theorem digs_val (l : List Nat) (hl : ∀ u ∈ l, u < 65536) : digs l.length (val l) = l := by
  induction l with
  | nil => rfl
  | cons a l ih =>
    have ha := hl a (List.mem_cons_self ..)
    simp only [val, List.length_cons, digs]
    rw [show (a + 65536 * val l) % 65536 = a by omega, show (a + 65536 * val l) / 65536 = val l by omega, ih (fun u hu => hl u (List.mem_cons_of_mem _ hu))]
theorem val_set (l : List Nat) (k a : Nat) (hk : k < l.length) (d : Nat) (ha : a = l[k] + d) : val (l.set k a) = val l + d * 65536 ^ k := by
  subst ha
  induction l generalizing k with
  | nil => simp at hk
  | cons b l ih =>
    rcases k with _ | k
    · simp only [List.set_cons_zero, val, List.getElem_cons_zero, Nat.pow_zero, Nat.mul_one]
      omega
    · simp only [List.set_cons_succ, val, List.getElem_cons_succ]
      rw [ih k (by simpa using hk), Nat.mul_add, Nat.pow_succ, ← Nat.add_assoc, ← Nat.mul_assoc, Nat.mul_comm (65536 * d), ← Nat.mul_assoc, Nat.mul_comm d]
theorem val_append (l m : List Nat) : val (l ++ m) = val l + 65536 ^ l.length * val m := by
  induction l with
  | nil => simp [val]
  | cons a l ih =>
    simp only [List.cons_append, val, ih, List.length_cons, Nat.pow_succ]
    rw [Nat.mul_add, Nat.add_assoc, ← Nat.mul_assoc, Nat.mul_comm 65536 (65536 ^ l.length)]
theorem val_lt (l : List Nat) (hl : ∀ u ∈ l, u < 65536) : val l < 65536 ^ l.length := by
  induction l with
  | nil => decide
  | cons a l ih =>
    have ha := hl a (List.mem_cons_self ..)
    have := ih (fun u hu => hl u (List.mem_cons_of_mem _ hu))
    simp only [val, List.length_cons, Nat.pow_succ]
    omega
/-- A digit of a number. -/
theorem digit_at (l : List Nat) (k : Nat) (hk : k < l.length) (hl : ∀ u ∈ l, u < 65536) : l[k] = val l / 65536 ^ k % 65536 := by
  induction l generalizing k with
  | nil => simp at hk
  | cons b l ih =>
    have hb := hl b (List.mem_cons_self ..)
    rcases k with _ | k
    · simp only [List.getElem_cons_zero, val, Nat.pow_zero, Nat.div_one]
      omega
    · simp only [List.getElem_cons_succ, val]
      rw [ih k (by simpa using hk) (fun u hu => hl u (List.mem_cons_of_mem _ hu)), Nat.pow_succ, Nat.mul_comm (65536 ^ k), ← Nat.div_div_eq_div_mul]
      rw [show (b + 65536 * val l) / 65536 = val l by omega]
theorem digs_append (j k a b : Nat) (h : a < 65536 ^ j) : digs (j + k) (b * 65536 ^ j + a) = digs j a ++ digs k b := by
  induction j generalizing a with
  | zero =>
    simp at h
    subst h
    simp [digs]
  | succ j ih =>
    have h' : a / 65536 < 65536 ^ j := by
      rw [Nat.div_lt_iff_lt_mul (by decide)]
      rw [Nat.pow_succ] at h
      exact h
    rw [show j + 1 + k = j + k + 1 by omega]
    simp only [digs, List.cons_append]
    rw [Nat.pow_succ, ← Nat.mul_assoc]
    rw [show (b * 65536 ^ j * 65536 + a) % 65536 = a % 65536 by omega, show (b * 65536 ^ j * 65536 + a) / 65536 = b * 65536 ^ j + a / 65536 by omega, ih _ h']
theorem digs_two (hi lo : Nat) (h : lo < 18446744073709551616) : digs 8 (hi * 18446744073709551616 + lo) = digs 4 lo ++ digs 4 hi := digs_append 4 4 lo hi h
theorem eight (l : List Nat) (h : l.length = 8) : ∃ a b c d e f g i, l = [a, b, c, d, e, f, g, i] := by
  match l, h with
  | [a, b, c, d, e, f, g, i], _ => exact ⟨a, b, c, d, e, f, g, i, rfl⟩
/-- 65536 ^ k written out -/
theorem pow_bit (i : Nat) : 65536 ^ (i / 16) * 2 ^ (i % 16) = 2 ^ i := by
  rw [show (65536 : Nat) = 2 ^ 16 from rfl, ← Nat.pow_mul, ← Nat.pow_add, show 16 * (i / 16) + i % 16 = i by omega]
end Go.Proofs.YtbikfplipkhhcaaDoor
