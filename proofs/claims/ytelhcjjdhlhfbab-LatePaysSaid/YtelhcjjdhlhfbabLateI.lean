/-
  LatePays: the rows that it makes. Condition: the bytes are there.
-/
import Derived.Test.YtelhcjjdhlhfbabLateE
import Derived.Lib.QuietBelow
import Derived.BigQuiet
namespace Go.Proofs.Ytelhcjjdhlhfbab
open Go.ChangeShapes Go.WideShapes Go.ChangeAt Go.RowKit

def atD (ds : List UInt8) : Nat → Nat
  | 0 => 0
  | k + 1 => atD ds k + 1 + (ds.getD k 0).toNat
def sumD (e k : Nat) : Nat := k * (1 + e)
theorem sumD_succ (e k : Nat) : sumD e (k + 1) = sumD e k + 1 + e := by unfold sumD; rw [Nat.add_mul]; omega
theorem atD_le (ds : List UInt8) (k : Nat) : atD ds k ≤ k * 256 := by
  induction k with
  | zero => exact Nat.le_refl _
  | succ k ih =>
    unfold atD
    have := UInt8.toNat_lt (ds.getD k 0)
    omega
theorem sumD_le (e k : Nat) (he : e < 65536) (hk : k ≤ 40) : sumD e k ≤ 2621440 := by
  unfold sumD
  have : k * (1 + e) ≤ 40 * 65536 := Nat.mul_le_mul hk (by omega)
  omega
def rowP (ds : List UInt8) (e i : Nat) : Int × Int := ((atD ds (i + 1) : Nat), (sumD e (i + 1) : Nat))
def rowsP (ds : List UInt8) (e m : Nat) : List (Int × Int) := (List.range m).map (rowP ds e)
theorem rowsP_len (ds : List UInt8) (e m : Nat) : (rowsP ds e m).length = m := by simp [rowsP]
theorem rowsP_at (ds : List UInt8) (e m i : Nat) (h : i < (rowsP ds e m).length) : (rowsP ds e m)[i] = rowP ds e i := by simp [rowsP]
theorem rowsP_snoc (ds : List UInt8) (e m : Nat) : rowsP ds e (m + 1) = rowsP ds e m ++ [rowP ds e m] := by simp [rowsP, List.range_succ]
theorem rowsP_in (ds : List UInt8) (e m : Nat) (he : e < 65536) (hm : m ≤ 40) : ∀ u ∈ rowsP ds e m, DueIn u := by
  intro u hu
  simp only [rowsP, List.mem_map, List.mem_range] at hu
  obtain ⟨i, hi, rfl⟩ := hu
  have h1 := atD_le ds (i + 1)
  have h2 := sumD_le e (i + 1) he (by omega)
  unfold DueIn rowP
  simp only
  omega
theorem sumD_lt (e : Nat) {i j : Nat} (h : i < j) : sumD e i < sumD e j := by
  unfold sumD
  exact Nat.mul_lt_mul_of_pos_right h (by omega)
theorem old_at (ds : List UInt8) (e m i : Nat) (h : i < m) : oldD ((sumD e (i + 1) : Nat) : Int) (rowsP ds e m) = if i + 1 < m then some (i + 1) else none := by
  by_cases h1 : i + 1 < m
  · rw [if_pos h1]
    refine oldD_of (by rw [rowsP_len]; exact h1) ?_ (fun j hj => ?_)
    · rw [rowsP_at]
      have := sumD_lt e (show i + 1 < i + 1 + 1 by omega)
      simp only [rowP]
      omega
    · rw [rowsP_at]
      have : sumD e (j + 1) ≤ sumD e (i + 1) := by
        rcases Nat.lt_or_ge j i with h | h
        · exact Nat.le_of_lt (sumD_lt e (by omega))
        · rw [show j = i by omega]; exact Nat.le_refl _
      simp only [rowP]
      omega
  · rw [if_neg h1]
    refine oldD_no (fun d hd => ?_)
    obtain ⟨j, hj, rfl⟩ := List.mem_iff_getElem.1 hd
    rw [rowsP_at]
    rw [rowsP_len] at hj
    have : sumD e (j + 1) ≤ sumD e (i + 1) := by
      rcases Nat.lt_or_ge j i with h | h
      · exact Nat.le_of_lt (sumD_lt e (by omega))
      · rw [show j = i by omega]; exact Nat.le_refl _
    simp only [rowP]
    omega
theorem old_less (ds : List UInt8) (e m i : Nat) (h : i < m) : oldD (((sumD e (i + 1) : Nat) : Int) - 1) (rowsP ds e m) = some i := by
  refine oldD_of (by rw [rowsP_len]; exact h) ?_ (fun j hj => ?_)
  · rw [rowsP_at]
    simp only [rowP]
    omega
  · rw [rowsP_at]
    have := sumD_lt e (show j + 1 < i + 1 by omega)
    simp only [rowP]
    omega
theorem sin_of {l : List (Int × Int)} {p t x : Int} {k : Nat} (h : oldD p l = some k) (hx : (l.getD k (0, 0)).1 = x) : sinD l p t = if x < t then t - x else 0 := by rw [sinD_some h, hx]
theorem rowsP_day (ds : List UInt8) (e m i : Nat) (h : i < m) : ((rowsP ds e m).getD i (0, 0)).1 = ((atD ds (i + 1) : Nat) : Int) := by rw [getD_at (by rw [rowsP_len]; exact h), rowsP_at]; rfl
theorem sin_a (ds : List UInt8) (e m i : Nat) (h : i < m) : sinD (rowsP ds e m) ((sumD e (i + 1) : Nat) : Int) (((atD ds (i + 1) : Nat) : Int) + 1) = 0 := by
  have ho := old_at ds e m i h
  by_cases h1 : i + 1 < m
  · rw [if_pos h1] at ho
    rw [sin_of ho (rowsP_day ds e m (i + 1) h1)]
    have : atD ds (i + 1 + 1) = atD ds (i + 1) + 1 + (ds.getD (i + 1) 0).toNat := rfl
    split <;> omega
  · rw [if_neg h1] at ho
    exact sinD_none ho
theorem sin_b (ds : List UInt8) (e m i : Nat) (h : i < m) : sinD (rowsP ds e m) (((sumD e (i + 1) : Nat) : Int) - 1) (((atD ds (i + 1) : Nat) : Int) + 1) = 1 := by
  rw [sin_of (old_less ds e m i h) (rowsP_day ds e m i h)]
  split <;> omega
theorem sin_c (ds : List UInt8) (e m i : Nat) (h : i < m) : sinD (rowsP ds e m) (((sumD e (i + 1) : Nat) : Int) - 1) ((atD ds (i + 1) : Nat) : Int) = 0 := by
  rw [sin_of (old_less ds e m i h) (rowsP_day ds e m i h)]
  split <;> omega
end Go.Proofs.Ytelhcjjdhlhfbab
