/-
Years, months, days by number: plain sums of whole numbers. No condition.
-/

namespace Go.Proofs.YtpbfipeinblfgaaGreatDoor

def leapB (y : Int) : Bool := decide (1 ≤ y ∧ y ≤ 9999 ∧ (y % 4 = 0 ∧ y % 100 ≠ 0 ∨ y % 400 = 0))
def lp (y : Int) : Int := if leapB y = true then 1 else 0
def mlen (y m : Int) : Int :=
  if 1 ≤ y ∧ y ≤ 9999 ∧ 1 ≤ m ∧ m ≤ 12 then
    if m = 2 then 28 + lp y else if m = 4 ∨ m = 6 ∨ m = 9 ∨ m = 11 then 30 else 31
  else 0
def dby (y : Int) : Int := 365 * (y - 1) + (y - 1) / 4 - (y - 1) / 100 + (y - 1) / 400
def cum (y m : Int) : Int :=
  if m ≤ 1 then 0 else if m = 2 then 31 else lp y + (if m = 3 then 59 else if m = 4 then 90 else if m = 5 then 120 else if m = 6 then 151 else if m = 7 then 181 else if m = 8 then 212 else if m = 9 then 243 else if m = 10 then 273 else if m = 11 then 304 else if m = 12 then 334 else 365)
def num (y m d : Int) : Int := dby y + cum y m + d - 1
def rightB (y m d : Int) : Bool := decide (1 ≤ d ∧ d ≤ mlen y m)

theorem leap_iff (y : Int) : leapB y = true ↔ 1 ≤ y ∧ y ≤ 9999 ∧ (y % 4 = 0 ∧ y % 100 ≠ 0 ∨ y % 400 = 0) := by unfold leapB; simp
theorem lp_01 (y : Int) : 0 ≤ lp y ∧ lp y ≤ 1 := by unfold lp; split <;> omega
theorem mlen_bd (y m : Int) : 0 ≤ mlen y m ∧ mlen y m ≤ 31 := by
  have := lp_01 y
  unfold mlen; (repeat' split) <;> omega
theorem mlen_lo (y m : Int) (h1 : 1 ≤ y) (h2 : y ≤ 9999) (h3 : 1 ≤ m) (h4 : m ≤ 12) : 28 ≤ mlen y m := by
  have := lp_01 y
  unfold mlen; rw [if_pos ⟨h1, h2, h3, h4⟩]; (repeat' split) <;> omega
theorem mlen_no (y m : Int) (h : y < 1 ∨ 9999 < y ∨ m < 1 ∨ 12 < m) : mlen y m = 0 := by
  unfold mlen; rw [if_neg (by omega)]
theorem right_iff (y m d : Int) : rightB y m d = true ↔ 1 ≤ d ∧ d ≤ mlen y m := by unfold rightB; simp
theorem right_in {y m d : Int} (h : rightB y m d = true) : 1 ≤ y ∧ y ≤ 9999 ∧ 1 ≤ m ∧ m ≤ 12 ∧ 1 ≤ d ∧ d ≤ mlen y m := by
  have h' := (right_iff y m d).1 h
  have : ¬ (y < 1 ∨ 9999 < y ∨ m < 1 ∨ 12 < m) := fun h => by rw [mlen_no y m h] at h'; omega
  omega
theorem cum_one (y : Int) : cum y 1 = 0 := rfl
theorem cum_succ (y m : Int) (h1 : 1 ≤ y) (h2 : y ≤ 9999) (h3 : 1 ≤ m) (h4 : m ≤ 12) : cum y (m + 1) = cum y m + mlen y m := by
  have hm : m = 1 ∨ m = 2 ∨ m = 3 ∨ m = 4 ∨ m = 5 ∨ m = 6 ∨ m = 7 ∨ m = 8 ∨ m = 9 ∨ m = 10 ∨ m = 11 ∨ m = 12 := by omega
  rcases hm with rfl | rfl | rfl | rfl | rfl | rfl | rfl | rfl | rfl | rfl | rfl | rfl <;> simp [cum, mlen, h1, h2] <;> omega
theorem cum_bd (y m : Int) : 0 ≤ cum y m ∧ cum y m ≤ 365 + lp y := by
  have := lp_01 y
  unfold cum; (repeat' split) <;> omega
theorem cum_13 (y : Int) : cum y 13 = 365 + lp y := by simp [cum]; omega
theorem dby_succ (y : Int) (h1 : 1 ≤ y) (h2 : y ≤ 9999) : dby (y + 1) = dby y + 365 + lp y := by
  unfold lp dby
  by_cases h : leapB y = true
  · rw [if_pos h]; rw [leap_iff] at h; omega
  · rw [if_neg h]; rw [leap_iff] at h; omega
theorem dby_mono (a b : Int) (h : a ≤ b) : dby a ≤ dby b := by unfold dby; omega
theorem dby_lo (y : Int) (h : 1 ≤ y) : 365 * (y - 1) ≤ dby y := by unfold dby; omega
theorem dby_hi (y : Int) (h : 1 ≤ y) : dby y ≤ 366 * (y - 1) := by unfold dby; omega
theorem dby_end : dby 10000 = 3652059 := by decide
theorem dby_one : dby 1 = 0 := by decide

/-- A day's year, as the code reckons it. -/
def yr (n : Int) : Int :=
  400 * (n / 146097) + 100 * min (n % 146097 / 36524) 3 + 4 * ((n % 146097 - min (n % 146097 / 36524) 3 * 36524) / 1461)
    + min ((n % 146097 - min (n % 146097 / 36524) 3 * 36524) % 1461 / 365) 3 + 1
theorem yr_spec (n : Int) (h0 : 0 ≤ n) (h1 : n ≤ 3652058) : 1 ≤ yr n ∧ yr n ≤ 9999 ∧ dby (yr n) ≤ n ∧ n < dby (yr n) + 365 + lp (yr n) := by
  obtain ⟨a, ha⟩ : ∃ a, n / 146097 = a := ⟨_, rfl⟩
  obtain ⟨r, hr⟩ : ∃ r, n % 146097 = r := ⟨_, rfl⟩
  have e0 : n = 146097 * a + r := by omega
  have r0 : 0 ≤ r ∧ r < 146097 := by omega
  obtain ⟨h, hh⟩ : ∃ h, min (r / 36524) 3 = h := ⟨_, rfl⟩
  have b1 : 0 ≤ h ∧ h ≤ 3 ∧ 36524 * h ≤ r ∧ (h < 3 → r < 36524 * (h + 1)) := by omega
  obtain ⟨f, hf⟩ : ∃ f, (r - h * 36524) / 1461 = f := ⟨_, rfl⟩
  obtain ⟨s, hs⟩ : ∃ s, (r - h * 36524) % 1461 = s := ⟨_, rfl⟩
  have e1 : r = 36524 * h + 1461 * f + s := by omega
  have b2 : 0 ≤ s ∧ s < 1461 ∧ 0 ≤ f ∧ f ≤ 24 := by omega
  obtain ⟨k, hk⟩ : ∃ k, min (s / 365) 3 = k := ⟨_, rfl⟩
  have b3 : 0 ≤ k ∧ k ≤ 3 ∧ 365 * k ≤ s ∧ (k < 3 → s < 365 * (k + 1)) := by omega
  have ey : yr n = 400 * a + 100 * h + 4 * f + k + 1 := by unfold yr; rw [ha, hr, hh, hf, hs, hk]
  rw [ey]
  clear ey hh hf hs hk ha hr
  subst e0
  subst e1
  have ea : 0 ≤ a ∧ a ≤ 24 := by omega
  have t1 : (400 * a + 100 * h + 4 * f + k + 1 - 1) / 4 = 100 * a + 25 * h + f := by omega
  have t2 : (400 * a + 100 * h + 4 * f + k + 1 - 1) / 100 = 4 * a + h := by omega
  have t3 : (400 * a + 100 * h + 4 * f + k + 1 - 1) / 400 = a := by omega
  have ed : dby (400 * a + 100 * h + 4 * f + k + 1) = 146097 * a + 36524 * h + 1461 * f + 365 * k := by unfold dby; rw [t1, t2, t3]; omega
  clear t1 t2 t3
  rw [ed]
  have el : k = 3 → f < 24 ∨ h = 3 → lp (400 * a + 100 * h + 4 * f + k + 1) = 1 := by
    intro h1 h2
    unfold lp
    rw [if_pos]
    rw [leap_iff]
    omega
  have := lp_01 (400 * a + 100 * h + 4 * f + k + 1)
  refine ⟨by omega, by omega, by omega, ?_⟩
  by_cases h3 : k < 3
  · omega
  · have hk3 : k = 3 := by omega
    by_cases h4 : f < 24 ∨ h = 3
    · have := el hk3 h4
      omega
    · omega
theorem yr_unique (n y : Int) (h0 : 0 ≤ n) (h1 : n ≤ 3652058) (a : 1 ≤ y) (b : y ≤ 9999) (c : dby y ≤ n) (d : n < dby y + 365 + lp y) : y = yr n := by
  obtain ⟨e1, e2, e3, e4⟩ := yr_spec n h0 h1
  rw [show dby y + 365 + lp y = dby (y + 1) from (dby_succ y a b).symm] at d
  rw [show dby (yr n) + 365 + lp (yr n) = dby (yr n + 1) from (dby_succ _ e1 e2).symm] at e4
  rcases Int.lt_trichotomy y (yr n) with h | h | h
  · have := dby_mono (y + 1) (yr n) (by omega); omega
  · exact h
  · have := dby_mono (yr n + 1) y (by omega); omega

/-- The month of a year's day. -/
def mo (y r : Int) : Int :=
  if r < cum y 2 then 1 else if r < cum y 3 then 2 else if r < cum y 4 then 3 else if r < cum y 5 then 4 else if r < cum y 6 then 5 else if r < cum y 7 then 6
  else if r < cum y 8 then 7 else if r < cum y 9 then 8 else if r < cum y 10 then 9 else if r < cum y 11 then 10 else if r < cum y 12 then 11 else 12
theorem mo_spec (y r : Int) (h0 : 0 ≤ r) (h1 : r < 365 + lp y) : 1 ≤ mo y r ∧ mo y r ≤ 12 ∧ cum y (mo y r) ≤ r ∧ r < cum y (mo y r + 1) := by
  have c1 := cum_one y
  have c13 := cum_13 y
  unfold mo
  (repeat' split) <;> (refine ⟨by omega, by omega, ?_, ?_⟩ <;> first | (show _ < cum y 13; omega) | (simp only [Int.reduceAdd]; omega) | omega)
theorem cum_mono (y a b : Int) (h1 : 1 ≤ y) (h2 : y ≤ 9999) (ha : 1 ≤ a) (hab : a ≤ b) (hb : b ≤ 13) : cum y a ≤ cum y b := by
  obtain ⟨k, rfl⟩ : ∃ k : Nat, b = a + k := ⟨(b - a).toNat, by omega⟩
  clear hab
  induction k with
  | zero => simp
  | succ k ih =>
    have := cum_succ y (a + k) h1 h2 (by omega) (by omega)
    have e : a + ((k + 1 : Nat) : Int) = a + k + 1 := by omega
    have := mlen_bd y (a + k)
    rw [e]
    have := ih (by omega)
    omega
theorem mo_unique (y r m : Int) (h1 : 1 ≤ y) (h2 : y ≤ 9999) (a : 1 ≤ m) (b : m ≤ 12) (c : cum y m ≤ r) (d : r < cum y (m + 1)) : m = mo y r := by
  have h0 : 0 ≤ r := by have := cum_bd y m; omega
  have hr : r < 365 + lp y := by have := cum_bd y (m + 1); omega
  obtain ⟨e1, e2, e3, e4⟩ := mo_spec y r h0 hr
  rcases Int.lt_trichotomy m (mo y r) with h | h | h
  · have := cum_mono y (m + 1) (mo y r) h1 h2 (by omega) (by omega) (by omega); omega
  · exact h
  · have := cum_mono y (mo y r + 1) m h1 h2 (by omega) (by omega) (by omega); omega

/-- A day's date. -/
def cY (n : Int) : Int := yr n
def cM (n : Int) : Int := mo (yr n) (n - dby (yr n))
def cD (n : Int) : Int := n - dby (yr n) - cum (yr n) (cM n) + 1
theorem civ_right (n : Int) (h0 : 0 ≤ n) (h1 : n ≤ 3652058) : rightB (cY n) (cM n) (cD n) = true ∧ num (cY n) (cM n) (cD n) = n := by
  obtain ⟨a, b, c, d⟩ := yr_spec n h0 h1
  obtain ⟨e1, e2, e3, e4⟩ := mo_spec (yr n) (n - dby (yr n)) (by omega) (by omega)
  have := cum_succ (yr n) (mo (yr n) (n - dby (yr n))) a b e1 e2
  rw [right_iff]
  unfold num cY cD cM
  refine ⟨⟨by omega, by omega⟩, by omega⟩
theorem num_in {y m d : Int} (h : rightB y m d = true) : dby y ≤ num y m d ∧ num y m d < dby y + 365 + lp y ∧ cum y m ≤ num y m d - dby y ∧ num y m d - dby y < cum y (m + 1) ∧ 0 ≤ num y m d ∧ num y m d ≤ 3652058 := by
  obtain ⟨a, b, c, d1, e, f⟩ := right_in h
  have c1 := cum_bd y m
  have c2 := cum_bd y (m + 1)
  have c3 := cum_succ y m a b c d1
  have c4 := dby_succ y a b
  have c5 := dby_mono 1 y a
  have c6 := dby_mono (y + 1) 10000 (by omega)
  rw [dby_one] at c5
  rw [dby_end] at c6
  unfold num
  omega
theorem civ_unique {y m d : Int} (h : rightB y m d = true) : cY (num y m d) = y ∧ cM (num y m d) = m ∧ cD (num y m d) = d := by
  obtain ⟨a, b, c, d1, e, f⟩ := right_in h
  obtain ⟨g1, g2, g3, g4, g5, g6⟩ := num_in h
  have hy := yr_unique (num y m d) y g5 g6 a b g1 g2
  have hm := mo_unique y (num y m d - dby y) m a b c d1 g3 g4
  have e1 : cY (num y m d) = y := hy.symm
  have e2 : cM (num y m d) = m := by unfold cM; rw [← hy]; exact hm.symm
  refine ⟨e1, e2, ?_⟩
  unfold cD
  rw [e2, ← hy]
  unfold num
  omega
theorem civ_in (n : Int) (h0 : 0 ≤ n) (h1 : n ≤ 3652058) : 1 ≤ cY n ∧ cY n ≤ 9999 ∧ 1 ≤ cM n ∧ cM n ≤ 12 ∧ 1 ≤ cD n ∧ cD n ≤ mlen (cY n) (cM n) ∧ cD n ≤ 31 := by
  have := right_in (civ_right n h0 h1).1
  have := mlen_bd (cY n) (cM n)
  omega
/-- The next day's date. -/
theorem civ_next (n : Int) (h0 : 0 ≤ n) (h1 : n < 3652058) :
    (cD n < mlen (cY n) (cM n) ∧ cY (n + 1) = cY n ∧ cM (n + 1) = cM n ∧ cD (n + 1) = cD n + 1) ∨
    (cD n = mlen (cY n) (cM n) ∧ cM n < 12 ∧ cY (n + 1) = cY n ∧ cM (n + 1) = cM n + 1 ∧ cD (n + 1) = 1) ∨
    (cD n = mlen (cY n) (cM n) ∧ cM n = 12 ∧ cY n < 9999 ∧ cY (n + 1) = cY n + 1 ∧ cM (n + 1) = 1 ∧ cD (n + 1) = 1) := by
  obtain ⟨hr, hn⟩ := civ_right n h0 (by omega)
  obtain ⟨a, b, c, d, e, f, _⟩ := civ_in n h0 (by omega)
  obtain ⟨y, ey⟩ : ∃ y, cY n = y := ⟨_, rfl⟩
  obtain ⟨m, em⟩ : ∃ m, cM n = m := ⟨_, rfl⟩
  obtain ⟨k, ek⟩ : ∃ k, cD n = k := ⟨_, rfl⟩
  simp only [ey, em, ek] at hr hn a b c d e f ⊢
  clear ey em ek
  have cs := cum_succ y m a b c d
  by_cases h : k < mlen y m
  · have hr' : rightB y m (k + 1) = true := (right_iff _ _ _).2 (by omega)
    have en : num y m (k + 1) = n + 1 := by unfold num at *; omega
    have := civ_unique hr'
    rw [en] at this
    exact Or.inl ⟨h, this⟩
  · have hk : k = mlen y m := by omega
    by_cases h2 : m < 12
    · have l1 := mlen_lo y (m + 1) a b (by omega) (by omega)
      have hr' : rightB y (m + 1) 1 = true := (right_iff _ _ _).2 (by omega)
      have en : num y (m + 1) 1 = n + 1 := by unfold num at *; omega
      have := civ_unique hr'
      rw [en] at this
      exact Or.inr (Or.inl ⟨hk, h2, this⟩)
    · have h12 : m = 12 := by omega
      subst h12
      have c13 := cum_13 y
      have ds := dby_succ y a b
      have cs' : cum y 13 = cum y 12 + mlen y 12 := cs
      have hy : y < 9999 := by
        rcases Int.lt_or_le y 9999 with h | h
        · exact h
        · exfalso
          have e9 : y = 9999 := by omega
          subst e9
          have := dby_end
          have ds' : dby 10000 = dby 9999 + 365 + lp 9999 := ds
          unfold num at hn
          omega
      have l1 := mlen_lo (y + 1) 1 (by omega) (by omega) (by omega) (by omega)
      have hr' : rightB (y + 1) 1 1 = true := (right_iff _ _ _).2 (by omega)
      have en : num (y + 1) 1 1 = n + 1 := by unfold num at *; rw [cum_one]; omega
      have := civ_unique hr'
      rw [en] at this
      exact Or.inr (Or.inr ⟨hk, rfl, hy, this⟩)
end Go.Proofs.YtpbfipeinblfgaaGreatDoor
