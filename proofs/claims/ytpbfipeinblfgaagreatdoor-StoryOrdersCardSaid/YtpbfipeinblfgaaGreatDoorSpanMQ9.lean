/-
Days between, by number: months of thirty days. No condition.
-/
import Derived.Test.YtpbfipeinblfgaaGreatDoorCalMQ9
namespace Go.Proofs.YtpbfipeinblfgaaGreatDoor

theorem num_lt {y m d y' m' d' : Int} (h : rightB y m d = true) (h' : rightB y' m' d' = true) (hl : y < y' ∨ y = y' ∧ (m < m' ∨ m = m' ∧ d < d')) : num y m d < num y' m' d' := by
  obtain ⟨a, b, c, e, f, g⟩ := right_in h
  obtain ⟨a', b', c', e', f', g'⟩ := right_in h'
  obtain ⟨i1, i2, i3, i4, i5, i6⟩ := num_in h
  obtain ⟨j1, j2, j3, j4, j5, j6⟩ := num_in h'
  rcases hl with hl | ⟨rfl, hl | ⟨rfl, hl⟩⟩
  · have := dby_mono (y + 1) y' (by omega)
    have := dby_succ y a b
    omega
  · have := cum_mono y (m + 1) m' a b (by omega) (by omega) (by omega)
    omega
  · unfold num
    omega
/-- Of two days the later one has the later date. -/
theorem civ_lt {n k : Int} (h0 : 0 ≤ n) (h1 : n ≤ 3652058) (k0 : 0 ≤ k) (k1 : k ≤ 3652058) : n < k ↔ (cY n < cY k ∨ cY n = cY k ∧ (cM n < cM k ∨ cM n = cM k ∧ cD n < cD k)) := by
  obtain ⟨r, e⟩ := civ_right n h0 h1
  obtain ⟨r', e'⟩ := civ_right k k0 k1
  constructor
  · intro h
    rcases Int.lt_trichotomy (cY n) (cY k) with hy | hy | hy
    · exact Or.inl hy
    · refine Or.inr ⟨hy, ?_⟩
      rcases Int.lt_trichotomy (cM n) (cM k) with hm | hm | hm
      · exact Or.inl hm
      · refine Or.inr ⟨hm, ?_⟩
        rcases Int.lt_trichotomy (cD n) (cD k) with hd | hd | hd
        · exact hd
        · exfalso
          have : num (cY n) (cM n) (cD n) = num (cY k) (cM k) (cD k) := by rw [hy, hm, hd]
          omega
        · exfalso
          have := num_lt r' r (Or.inr ⟨hy.symm, Or.inr ⟨hm.symm, hd⟩⟩)
          omega
      · exfalso
        have := num_lt r' r (Or.inr ⟨hy.symm, Or.inl hm⟩)
        omega
    · exfalso
      have := num_lt r' r (Or.inl hy)
      omega
  · intro h
    have := num_lt r r' h
    omega

/-- Months of thirty days. -/
def thirty (n k : Int) : Int := 360 * (cY k - cY n) + 30 * (cM k - cM n) + (if min (cD n) 30 = 30 then min (cD k) 30 else cD k) - min (cD n) 30
theorem thirty_bd {n k : Int} (h0 : 0 ≤ n) (k1 : k ≤ 3652058) (h : n ≤ k) : 0 ≤ thirty n k ∧ thirty n k ≤ 4000000 := by
  have a := civ_in n h0 (by omega)
  have b := civ_in k (by omega) k1
  have c : n = k ∨ (cY n < cY k ∨ cY n = cY k ∧ (cM n < cM k ∨ cM n = cM k ∧ cD n < cD k)) := by
    rcases Int.lt_or_eq_of_le h with h | h
    · exact Or.inr ((civ_lt h0 (by omega) (by omega) k1).1 h)
    · exact Or.inl h
  unfold thirty
  rcases c with rfl | c
  · split <;> omega
  · split <;> omega
/-- All days up to one, by months of thirty. -/
def acc (n : Int) : Int := 360 * cY n + 30 * cM n + cD n
theorem acc_next (n : Int) (h0 : 0 ≤ n) (h1 : n < 3652058) : acc (n + 1) - acc n = if cD n < mlen (cY n) (cM n) then 1 else 31 - mlen (cY n) (cM n) := by
  unfold acc
  rcases civ_next n h0 h1 with ⟨h, e1, e2, e3⟩ | ⟨h, h2, e1, e2, e3⟩ | ⟨h, h2, h3, e1, e2, e3⟩
  · rw [if_pos h, e1, e2, e3]; omega
  · rw [if_neg (by omega), e1, e2, e3]; omega
  · rw [if_neg (by omega), e1, e2, e3]; omega
theorem acc_step (n : Int) (h0 : 0 ≤ n) (h1 : n < 3652058) : 0 ≤ acc (n + 1) - acc n ∧ acc (n + 1) - acc n ≤ 3 := by
  rw [acc_next n h0 h1]
  obtain ⟨a, b, c, d, -, -, -⟩ := civ_in n h0 (by omega)
  have := mlen_lo _ _ a b c d
  have := mlen_bd (cY n) (cM n)
  split <;> omega
/-- From a month's first day. -/
theorem thirty_first {f k : Int} (hf : cD f = 1) : thirty f k = acc k - acc f := by
  unfold thirty acc
  rw [hf, if_neg (by decide), show min (1 : Int) 30 = 1 by decide]
  omega
/-- The month's first day. -/
theorem first_of (n : Int) (h0 : 0 ≤ n) (h1 : n ≤ 3652058) : 0 ≤ n - (cD n - 1) ∧ n - (cD n - 1) ≤ n ∧ cY (n - (cD n - 1)) = cY n ∧ cM (n - (cD n - 1)) = cM n ∧ cD (n - (cD n - 1)) = 1 := by
  obtain ⟨r, e⟩ := civ_right n h0 h1
  obtain ⟨a, b, c, d, f, g⟩ := right_in r
  have r' : rightB (cY n) (cM n) 1 = true := (right_iff _ _ _).2 (by omega)
  have e' : num (cY n) (cM n) 1 = n - (cD n - 1) := by unfold num at *; omega
  have := civ_unique r'
  rw [e'] at this
  have i := num_in r'
  rw [e'] at i
  exact ⟨by omega, by omega, this⟩
/-- What a day adds, by the basis. -/
def accB (b n : Int) : Int := if b = 1 then n else acc n
theorem accB_step (b n : Int) (h0 : 0 ≤ n) (h1 : n < 3652058) : 0 ≤ accB b (n + 1) - accB b n ∧ accB b (n + 1) - accB b n ≤ 3 := by
  unfold accB
  split
  · omega
  · exact acc_step n h0 h1
theorem acc_bd (n : Int) (h0 : 0 ≤ n) (h1 : n ≤ 3652058) : 0 ≤ acc n ∧ acc n ≤ 4000000 := by
  have := civ_in n h0 h1
  unfold acc
  omega
theorem accB_bd (b n : Int) (h0 : 0 ≤ n) (h1 : n ≤ 3652058) : 0 ≤ accB b n ∧ accB b n ≤ 4000000 := by
  unfold accB
  split
  · omega
  · exact acc_bd n h0 h1
theorem day_of {y m d : Int} (h : rightB y m d = true) : 0 ≤ num y m d ∧ num y m d ≤ 3652058 ∧ cY (num y m d) = y ∧ cM (num y m d) = m ∧ cD (num y m d) = d :=
  ⟨(num_in h).2.2.2.2.1, (num_in h).2.2.2.2.2, civ_unique h⟩
end Go.Proofs.YtpbfipeinblfgaaGreatDoor
