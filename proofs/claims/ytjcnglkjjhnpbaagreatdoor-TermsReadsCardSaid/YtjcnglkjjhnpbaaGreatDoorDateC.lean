/-
Years, months, days by number: plain sums of whole numbers. No condition.
date: Leap, Length, Right, Week and the references' Leap, Length, Right, Next. Condition: the months' lengths are laid.
Years and months by number, more of it: what the code's year leaves, months on and back. No condition.
date: a date's Right, Last, Number, Months, a day's Civil; the references' Right, Civil, Number, Months. Condition: the months' lengths are laid.
date: a day's Civil, a date's Number; the references'. Condition: the months' lengths are laid.
-/
import Derived.Test.YtjcnglkjjhnpbaaGreatDoorMem
import Derived.Handy
import Derived.Lib.QuietBelow
import Derived.BigQuiet
import Derived.LoopTactic
namespace Go.Proofs.YtjcnglkjjhnpbaaGreatDoor

def leapB (y : Int) : Bool := decide (1 ≤ y ∧ y ≤ 9999 ∧ (y % 4 = 0 ∧ y % 100 ≠ 0 ∨ y % 400 = 0))
def lp (y : Int) : Int := if leapB y = true then 1 else 0
def mlen (y m : Int) : Int :=
  if 1 ≤ y ∧ y ≤ 9999 ∧ 1 ≤ m ∧ m ≤ 12 then
    if m = 2 then 28 + lp y else if m = 4 ∨ m = 6 ∨ m = 9 ∨ m = 11 then 30 else 31
  else 0
def dby (y : Int) : Int := 365 * (y - 1) + (y - 1) / 4 - (y - 1) / 100 + (y - 1) / 400
def cum (y m : Int) : Int :=
  if m ≤ 1 then 0 else if m = 2 then 31 else lp y + (if m = 3 then 59 else if m = 4 then 90 else if m = 5 then 120 else if m = 6 then 151 else if m = 7 then 181 else if m = 8 then 212 else if m = 9 then 243 else if m = 10 then 273 else if m = 11 then 304 else if m = 12 then 334 else 365)
def num (y m d : Int) : Int := dby y + cum y m + d - 1
def rightB (y m d : Int) : Bool := decide (1 ≤ d ∧ d ≤ mlen y m)

theorem leap_iff (y : Int) : leapB y = true ↔ 1 ≤ y ∧ y ≤ 9999 ∧ (y % 4 = 0 ∧ y % 100 ≠ 0 ∨ y % 400 = 0) := by unfold leapB; simp
theorem lp_01 (y : Int) : 0 ≤ lp y ∧ lp y ≤ 1 := by unfold lp; split <;> omega
theorem mlen_bd (y m : Int) : 0 ≤ mlen y m ∧ mlen y m ≤ 31 := by
  have := lp_01 y
  unfold mlen; (repeat' split) <;> omega
theorem mlen_lo (y m : Int) (h1 : 1 ≤ y) (h2 : y ≤ 9999) (h3 : 1 ≤ m) (h4 : m ≤ 12) : 28 ≤ mlen y m := by
  have := lp_01 y
  unfold mlen; rw [if_pos ⟨h1, h2, h3, h4⟩]; (repeat' split) <;> omega
theorem mlen_no (y m : Int) (h : y < 1 ∨ 9999 < y ∨ m < 1 ∨ 12 < m) : mlen y m = 0 := by
  unfold mlen; rw [if_neg (by omega)]
theorem right_iff (y m d : Int) : rightB y m d = true ↔ 1 ≤ d ∧ d ≤ mlen y m := by unfold rightB; simp
theorem right_in {y m d : Int} (h : rightB y m d = true) : 1 ≤ y ∧ y ≤ 9999 ∧ 1 ≤ m ∧ m ≤ 12 ∧ 1 ≤ d ∧ d ≤ mlen y m := by
  have h' := (right_iff y m d).1 h
  have : ¬ (y < 1 ∨ 9999 < y ∨ m < 1 ∨ 12 < m) := fun h => by rw [mlen_no y m h] at h'; omega
  omega
theorem cum_one (y : Int) : cum y 1 = 0 := rfl
theorem cum_succ (y m : Int) (h1 : 1 ≤ y) (h2 : y ≤ 9999) (h3 : 1 ≤ m) (h4 : m ≤ 12) : cum y (m + 1) = cum y m + mlen y m := by
  have hm : m = 1 ∨ m = 2 ∨ m = 3 ∨ m = 4 ∨ m = 5 ∨ m = 6 ∨ m = 7 ∨ m = 8 ∨ m = 9 ∨ m = 10 ∨ m = 11 ∨ m = 12 := by omega
  rcases hm with rfl | rfl | rfl | rfl | rfl | rfl | rfl | rfl | rfl | rfl | rfl | rfl <;> simp [cum, mlen, h1, h2] <;> omega
theorem cum_bd (y m : Int) : 0 ≤ cum y m ∧ cum y m ≤ 365 + lp y := by
  have := lp_01 y
  unfold cum; (repeat' split) <;> omega
theorem cum_13 (y : Int) : cum y 13 = 365 + lp y := by simp [cum]; omega
theorem dby_succ (y : Int) (h1 : 1 ≤ y) (h2 : y ≤ 9999) : dby (y + 1) = dby y + 365 + lp y := by
  unfold lp dby
  by_cases h : leapB y = true
  · rw [if_pos h]; rw [leap_iff] at h; omega
  · rw [if_neg h]; rw [leap_iff] at h; omega
theorem dby_mono (a b : Int) (h : a ≤ b) : dby a ≤ dby b := by unfold dby; omega
theorem dby_lo (y : Int) (h : 1 ≤ y) : 365 * (y - 1) ≤ dby y := by unfold dby; omega
theorem dby_hi (y : Int) (h : 1 ≤ y) : dby y ≤ 366 * (y - 1) := by unfold dby; omega
theorem dby_end : dby 10000 = 3652059 := by decide
theorem dby_one : dby 1 = 0 := by decide

/-- A day's year, as the code reckons it. -/
def yr (n : Int) : Int :=
  400 * (n / 146097) + 100 * min (n % 146097 / 36524) 3 + 4 * ((n % 146097 - min (n % 146097 / 36524) 3 * 36524) / 1461)
    + min ((n % 146097 - min (n % 146097 / 36524) 3 * 36524) % 1461 / 365) 3 + 1
theorem yr_spec (n : Int) (h0 : 0 ≤ n) (h1 : n ≤ 3652058) : 1 ≤ yr n ∧ yr n ≤ 9999 ∧ dby (yr n) ≤ n ∧ n < dby (yr n) + 365 + lp (yr n) := by
  obtain ⟨a, ha⟩ : ∃ a, n / 146097 = a := ⟨_, rfl⟩
  obtain ⟨r, hr⟩ : ∃ r, n % 146097 = r := ⟨_, rfl⟩
  have e0 : n = 146097 * a + r := by omega
  have r0 : 0 ≤ r ∧ r < 146097 := by omega
  obtain ⟨h, hh⟩ : ∃ h, min (r / 36524) 3 = h := ⟨_, rfl⟩
  have b1 : 0 ≤ h ∧ h ≤ 3 ∧ 36524 * h ≤ r ∧ (h < 3 → r < 36524 * (h + 1)) := by omega
  obtain ⟨f, hf⟩ : ∃ f, (r - h * 36524) / 1461 = f := ⟨_, rfl⟩
  obtain ⟨s, hs⟩ : ∃ s, (r - h * 36524) % 1461 = s := ⟨_, rfl⟩
  have e1 : r = 36524 * h + 1461 * f + s := by omega
  have b2 : 0 ≤ s ∧ s < 1461 ∧ 0 ≤ f ∧ f ≤ 24 := by omega
  obtain ⟨k, hk⟩ : ∃ k, min (s / 365) 3 = k := ⟨_, rfl⟩
  have b3 : 0 ≤ k ∧ k ≤ 3 ∧ 365 * k ≤ s ∧ (k < 3 → s < 365 * (k + 1)) := by omega
  have ey : yr n = 400 * a + 100 * h + 4 * f + k + 1 := by unfold yr; rw [ha, hr, hh, hf, hs, hk]
  rw [ey]
  clear ey hh hf hs hk ha hr
  subst e0
  subst e1
  have ea : 0 ≤ a ∧ a ≤ 24 := by omega
  have t1 : (400 * a + 100 * h + 4 * f + k + 1 - 1) / 4 = 100 * a + 25 * h + f := by omega
  have t2 : (400 * a + 100 * h + 4 * f + k + 1 - 1) / 100 = 4 * a + h := by omega
  have t3 : (400 * a + 100 * h + 4 * f + k + 1 - 1) / 400 = a := by omega
  have ed : dby (400 * a + 100 * h + 4 * f + k + 1) = 146097 * a + 36524 * h + 1461 * f + 365 * k := by unfold dby; rw [t1, t2, t3]; omega
  clear t1 t2 t3
  rw [ed]
  have el : k = 3 → f < 24 ∨ h = 3 → lp (400 * a + 100 * h + 4 * f + k + 1) = 1 := by
    intro h1 h2
    unfold lp
    rw [if_pos]
    rw [leap_iff]
    omega
  have := lp_01 (400 * a + 100 * h + 4 * f + k + 1)
  refine ⟨by omega, by omega, by omega, ?_⟩
  by_cases h3 : k < 3
  · omega
  · have hk3 : k = 3 := by omega
    by_cases h4 : f < 24 ∨ h = 3
    · have := el hk3 h4
      omega
    · omega
theorem yr_unique (n y : Int) (h0 : 0 ≤ n) (h1 : n ≤ 3652058) (a : 1 ≤ y) (b : y ≤ 9999) (c : dby y ≤ n) (d : n < dby y + 365 + lp y) : y = yr n := by
  obtain ⟨e1, e2, e3, e4⟩ := yr_spec n h0 h1
  rw [show dby y + 365 + lp y = dby (y + 1) from (dby_succ y a b).symm] at d
  rw [show dby (yr n) + 365 + lp (yr n) = dby (yr n + 1) from (dby_succ _ e1 e2).symm] at e4
  rcases Int.lt_trichotomy y (yr n) with h | h | h
  · have := dby_mono (y + 1) (yr n) (by omega); omega
  · exact h
  · have := dby_mono (yr n + 1) y (by omega); omega

/-- The month of a year's day. -/
def mo (y r : Int) : Int :=
  if r < cum y 2 then 1 else if r < cum y 3 then 2 else if r < cum y 4 then 3 else if r < cum y 5 then 4 else if r < cum y 6 then 5 else if r < cum y 7 then 6
  else if r < cum y 8 then 7 else if r < cum y 9 then 8 else if r < cum y 10 then 9 else if r < cum y 11 then 10 else if r < cum y 12 then 11 else 12
theorem mo_spec (y r : Int) (h0 : 0 ≤ r) (h1 : r < 365 + lp y) : 1 ≤ mo y r ∧ mo y r ≤ 12 ∧ cum y (mo y r) ≤ r ∧ r < cum y (mo y r + 1) := by
  have c1 := cum_one y
  have c13 := cum_13 y
  unfold mo
  (repeat' split) <;> (refine ⟨by omega, by omega, ?_, ?_⟩ <;> first | (show _ < cum y 13; omega) | (simp only [Int.reduceAdd]; omega) | omega)
theorem cum_mono (y a b : Int) (h1 : 1 ≤ y) (h2 : y ≤ 9999) (ha : 1 ≤ a) (hab : a ≤ b) (hb : b ≤ 13) : cum y a ≤ cum y b := by
  obtain ⟨k, rfl⟩ : ∃ k : Nat, b = a + k := ⟨(b - a).toNat, by omega⟩
  clear hab
  induction k with
  | zero => simp
  | succ k ih =>
    have := cum_succ y (a + k) h1 h2 (by omega) (by omega)
    have e : a + ((k + 1 : Nat) : Int) = a + k + 1 := by omega
    have := mlen_bd y (a + k)
    rw [e]
    have := ih (by omega)
    omega
theorem mo_unique (y r m : Int) (h1 : 1 ≤ y) (h2 : y ≤ 9999) (a : 1 ≤ m) (b : m ≤ 12) (c : cum y m ≤ r) (d : r < cum y (m + 1)) : m = mo y r := by
  have h0 : 0 ≤ r := by have := cum_bd y m; omega
  have hr : r < 365 + lp y := by have := cum_bd y (m + 1); omega
  obtain ⟨e1, e2, e3, e4⟩ := mo_spec y r h0 hr
  rcases Int.lt_trichotomy m (mo y r) with h | h | h
  · have := cum_mono y (m + 1) (mo y r) h1 h2 (by omega) (by omega) (by omega); omega
  · exact h
  · have := cum_mono y (mo y r + 1) m h1 h2 (by omega) (by omega) (by omega); omega

/-- A day's date. -/
def cY (n : Int) : Int := yr n
def cM (n : Int) : Int := mo (yr n) (n - dby (yr n))
def cD (n : Int) : Int := n - dby (yr n) - cum (yr n) (cM n) + 1
theorem civ_right (n : Int) (h0 : 0 ≤ n) (h1 : n ≤ 3652058) : rightB (cY n) (cM n) (cD n) = true ∧ num (cY n) (cM n) (cD n) = n := by
  obtain ⟨a, b, c, d⟩ := yr_spec n h0 h1
  obtain ⟨e1, e2, e3, e4⟩ := mo_spec (yr n) (n - dby (yr n)) (by omega) (by omega)
  have := cum_succ (yr n) (mo (yr n) (n - dby (yr n))) a b e1 e2
  rw [right_iff]
  unfold num cY cD cM
  refine ⟨⟨by omega, by omega⟩, by omega⟩
theorem num_in {y m d : Int} (h : rightB y m d = true) : dby y ≤ num y m d ∧ num y m d < dby y + 365 + lp y ∧ cum y m ≤ num y m d - dby y ∧ num y m d - dby y < cum y (m + 1) ∧ 0 ≤ num y m d ∧ num y m d ≤ 3652058 := by
  obtain ⟨a, b, c, d1, e, f⟩ := right_in h
  have c1 := cum_bd y m
  have c2 := cum_bd y (m + 1)
  have c3 := cum_succ y m a b c d1
  have c4 := dby_succ y a b
  have c5 := dby_mono 1 y a
  have c6 := dby_mono (y + 1) 10000 (by omega)
  rw [dby_one] at c5
  rw [dby_end] at c6
  unfold num
  omega
theorem civ_unique {y m d : Int} (h : rightB y m d = true) : cY (num y m d) = y ∧ cM (num y m d) = m ∧ cD (num y m d) = d := by
  obtain ⟨a, b, c, d1, e, f⟩ := right_in h
  obtain ⟨g1, g2, g3, g4, g5, g6⟩ := num_in h
  have hy := yr_unique (num y m d) y g5 g6 a b g1 g2
  have hm := mo_unique y (num y m d - dby y) m a b c d1 g3 g4
  have e1 : cY (num y m d) = y := hy.symm
  have e2 : cM (num y m d) = m := by unfold cM; rw [← hy]; exact hm.symm
  refine ⟨e1, e2, ?_⟩
  unfold cD
  rw [e2, ← hy]
  unfold num
  omega
theorem civ_in (n : Int) (h0 : 0 ≤ n) (h1 : n ≤ 3652058) : 1 ≤ cY n ∧ cY n ≤ 9999 ∧ 1 ≤ cM n ∧ cM n ≤ 12 ∧ 1 ≤ cD n ∧ cD n ≤ mlen (cY n) (cM n) ∧ cD n ≤ 31 := by
  have := right_in (civ_right n h0 h1).1
  have := mlen_bd (cY n) (cM n)
  omega
/-- The next day's date. -/
theorem civ_next (n : Int) (h0 : 0 ≤ n) (h1 : n < 3652058) :
    (cD n < mlen (cY n) (cM n) ∧ cY (n + 1) = cY n ∧ cM (n + 1) = cM n ∧ cD (n + 1) = cD n + 1) ∨
    (cD n = mlen (cY n) (cM n) ∧ cM n < 12 ∧ cY (n + 1) = cY n ∧ cM (n + 1) = cM n + 1 ∧ cD (n + 1) = 1) ∨
    (cD n = mlen (cY n) (cM n) ∧ cM n = 12 ∧ cY n < 9999 ∧ cY (n + 1) = cY n + 1 ∧ cM (n + 1) = 1 ∧ cD (n + 1) = 1) := by
  obtain ⟨hr, hn⟩ := civ_right n h0 (by omega)
  obtain ⟨a, b, c, d, e, f, _⟩ := civ_in n h0 (by omega)
  obtain ⟨y, ey⟩ : ∃ y, cY n = y := ⟨_, rfl⟩
  obtain ⟨m, em⟩ : ∃ m, cM n = m := ⟨_, rfl⟩
  obtain ⟨k, ek⟩ : ∃ k, cD n = k := ⟨_, rfl⟩
  simp only [ey, em, ek] at hr hn a b c d e f ⊢
  clear ey em ek
  have cs := cum_succ y m a b c d
  by_cases h : k < mlen y m
  · have hr' : rightB y m (k + 1) = true := (right_iff _ _ _).2 (by omega)
    have en : num y m (k + 1) = n + 1 := by unfold num at *; omega
    have := civ_unique hr'
    rw [en] at this
    exact Or.inl ⟨h, this⟩
  · have hk : k = mlen y m := by omega
    by_cases h2 : m < 12
    · have l1 := mlen_lo y (m + 1) a b (by omega) (by omega)
      have hr' : rightB y (m + 1) 1 = true := (right_iff _ _ _).2 (by omega)
      have en : num y (m + 1) 1 = n + 1 := by unfold num at *; omega
      have := civ_unique hr'
      rw [en] at this
      exact Or.inr (Or.inl ⟨hk, h2, this⟩)
    · have h12 : m = 12 := by omega
      subst h12
      have c13 := cum_13 y
      have ds := dby_succ y a b
      have cs' : cum y 13 = cum y 12 + mlen y 12 := cs
      have hy : y < 9999 := by
        rcases Int.lt_or_le y 9999 with h | h
        · exact h
        · exfalso
          have e9 : y = 9999 := by omega
          subst e9
          have := dby_end
          have ds' : dby 10000 = dby 9999 + 365 + lp 9999 := ds
          unfold num at hn
          omega
      have l1 := mlen_lo (y + 1) 1 (by omega) (by omega) (by omega) (by omega)
      have hr' : rightB (y + 1) 1 1 = true := (right_iff _ _ _).2 (by omega)
      have en : num (y + 1) 1 1 = n + 1 := by unfold num at *; rw [cum_one]; omega
      have := civ_unique hr'
      rw [en] at this
      exact Or.inr (Or.inr ⟨hk, rfl, hy, this⟩)
end Go.Proofs.YtjcnglkjjhnpbaaGreatDoor
namespace Go.Proofs.YtjcnglkjjhnpbaaGreatDoor
open Go.RowKit

/-- The months' lengths, as the program's text lays them. -/
def Lens (w : World) : Prop := ∀ m : Int, 1 ≤ m → m ≤ 12 → w.cell? ⟨2, m.toNat - 1, none⟩ = some (.int .i64 (if m = 2 then 28 else if m = 4 ∨ m = 6 ∨ m = 9 ∨ m = 11 then 30 else 31))
theorem Lens.lt {w : World} (h : Lens w) : 2 < w.heap.size := by
  have hg := h 1 (by omega) (by omega)
  rcases Nat.lt_or_ge 2 w.heap.size with hl | hl
  · exact hl
  · simp [World.cell?, Array.getElem?_eq_none hl] at hg
theorem Lens.below {w w' : World} (h : Lens w) (hb : Below w.heap.size w w') : Lens w' := fun m h1 h2 => (hb.cell (p := ⟨2, _, none⟩) h.lt).trans (h m h1 h2)

theorem leap_yes {y : Int} (h1 : 1 ≤ y) (h2 : y ≤ 9999) (h : y % 4 = 0 ∧ y % 100 ≠ 0 ∨ y % 400 = 0) : leapB y = true := (leap_iff y).2 ⟨h1, h2, h⟩
theorem leap_no {y : Int} (h : ¬ (1 ≤ y ∧ y ≤ 9999 ∧ (y % 4 = 0 ∧ y % 100 ≠ 0 ∨ y % 400 = 0))) : leapB y = false := by
  cases hb : leapB y
  · rfl
  · exact absurd ((leap_iff y).1 hb) h
theorem ret_bool {a b : Bool} (h : a = b) : Ending.returned (.bool a) = .returned (.bool b) := by rw [h]
theorem ret_int {k : IntKind} {a b : Int} (h : a = b) : Ending.returned (.int k a) = .returned (.int k b) := by rw [h]

set_option maxHeartbeats 1000000 in
theorem Leap_any (y : Int) (w : World) : Calls Tryz.prog 147 #[.int .i64 y] w fun e w' => e = .returned (.bool (leapB y)) ∧ w = w' := by
  by_cases h1 : 1 ≤ y
  · by_cases h2 : y ≤ 9999
    · have h0 : 0 ≤ y := by omega
      go_enter Tryz.func147, Tryz.ntmps147
      go_wp2
      all_goals
        go_ret
        refine ⟨ret_bool ?_, rfl⟩
        rw [Bool.eq_iff_iff, leap_iff]
        simp
        omega
    · rw [leap_no (by omega)]
      go_enter Tryz.func147, Tryz.ntmps147
      go_wp2
      go_ret
      exact ⟨rfl, rfl⟩
  · rw [leap_no (by omega)]
    go_enter Tryz.func147, Tryz.ntmps147
    go_wp2
    go_ret
    exact ⟨rfl, rfl⟩

set_option maxHeartbeats 1000000 in
theorem RefLeap_any (y : Int) (w : World) : Calls Tryz.prog 108 #[.int .i64 y] w fun e w' => e = .returned (.bool (leapB y)) ∧ w = w' := by
  by_cases h1 : 1 ≤ y
  · by_cases h2 : y ≤ 9999
    · have h0 : 0 ≤ y := by omega
      by_cases h4 : 0 < y % 4
      · rw [leap_no (by omega)]
        go_enter Tryz.func108, Tryz.ntmps108
        go_wp2
        go_ret
        exact ⟨rfl, rfl⟩
      · go_enter Tryz.func108, Tryz.ntmps108
        go_wp2
        all_goals
          go_ret
          refine ⟨ret_bool ?_, rfl⟩
          rw [Bool.eq_iff_iff, leap_iff]
          simp
          omega
    · rw [leap_no (by omega)]
      go_enter Tryz.func108, Tryz.ntmps108
      go_wp2
      go_ret
      exact ⟨rfl, rfl⟩
  · rw [leap_no (by omega)]
    go_enter Tryz.func108, Tryz.ntmps108
    go_wp2
    go_ret
    exact ⟨rfl, rfl⟩

set_option maxHeartbeats 1000000 in
theorem Length_any (y m : Int) (w : World) (hw : Lens w) : Calls Tryz.prog 110 #[.int .i64 y, .int .i64 m] w fun e w' => e = .returned (.int .i64 (mlen y m)) ∧ w = w' := by
  by_cases h : 1 ≤ y ∧ y ≤ 9999 ∧ 1 ≤ m ∧ m ≤ 12
  · obtain ⟨h1, h2, h3, h4⟩ := h
    have hc := hw m h3 h4
    have hl : ∀ W, Calls Tryz.prog 147 #[.int .i64 y] W fun e w' => e = .returned (.bool (leapB y)) ∧ W = w' := fun W => Leap_any y W
    by_cases h5 : m = 2
    · subst h5
      rw [if_pos rfl] at hc
      have hc : w.cell? ⟨2, 1, none⟩ = some (.int .i64 28) := hc
      cases hb : leapB y
      · have hm : mlen y 2 = 28 := by unfold mlen lp; rw [hb]; simp [h1, h2]
        rw [hm]
        rw [hb] at hl
        clear hm hb hw
        go_enter Tryz.func110, Tryz.ntmps110
        go_wp2_with (go_at_call 147; refine (hl _).mono ?_; rintro e w' ⟨rfl, rfl⟩)
        go_ret
        exact ⟨rfl, rfl⟩
      · have hm : mlen y 2 = 29 := by unfold mlen lp; rw [hb]; simp [h1, h2]
        rw [hm]
        rw [hb] at hl
        clear hm hb hw
        go_enter Tryz.func110, Tryz.ntmps110
        go_wp2_with (go_at_call 147; refine (hl _).mono ?_; rintro e w' ⟨rfl, rfl⟩)
        go_ret
        exact ⟨rfl, rfl⟩
    · rw [if_neg h5] at hc
      have hm : mlen y m = (if m = 4 ∨ m = 6 ∨ m = 9 ∨ m = 11 then 30 else 31) := by unfold mlen; rw [if_pos ⟨h1, h2, h3, h4⟩, if_neg h5]
      rw [← hm] at hc
      clear hm hw
      go_enter Tryz.func110, Tryz.ntmps110
      go_wp2_with (go_at_call 147; refine (hl _).mono ?_; rintro e w' ⟨rfl, rfl⟩)
      go_ret
      exact ⟨rfl, rfl⟩
  · rw [mlen_no y m (by omega)]
    by_cases h1 : 1 ≤ y
    · by_cases h2 : y ≤ 9999
      · by_cases h3 : 1 ≤ m
        · have h4 : ¬ m ≤ 12 := by omega
          clear h
          go_enter Tryz.func110, Tryz.ntmps110
          go_wp2
          go_ret
          exact ⟨rfl, rfl⟩
        · clear h
          go_enter Tryz.func110, Tryz.ntmps110
          go_wp2
          go_ret
          exact ⟨rfl, rfl⟩
      · clear h
        go_enter Tryz.func110, Tryz.ntmps110
        go_wp2
        go_ret
        exact ⟨rfl, rfl⟩
    · clear h
      go_enter Tryz.func110, Tryz.ntmps110
      go_wp2
      go_ret
      exact ⟨rfl, rfl⟩

/-- A day that there is. -/
def dayB (d : Int) : Bool := decide (0 ≤ d ∧ d ≤ 3652058)
theorem day_yes {d : Int} (h0 : 0 ≤ d) (h1 : d ≤ 3652058) : dayB d = true := by unfold dayB; simp [h0, h1]
theorem day_no {d : Int} (h : d < 0 ∨ 3652058 < d) : dayB d = false := by unfold dayB; simp; omega
set_option maxHeartbeats 1000000 in
theorem DRight_any (d : Int) (w : World) : Calls Tryz.prog 69 #[.int .i32 d] w fun e w' => e = .returned (.bool (dayB d)) ∧ w = w' := by
  by_cases h0 : 0 ≤ d
  · by_cases h1 : d ≤ 3652058
    · rw [day_yes h0 h1]
      go_enter Tryz.func69, Tryz.ntmps69
      go_wp2
      go_ret
      exact ⟨rfl, rfl⟩
    · rw [day_no (by omega)]
      go_enter Tryz.func69, Tryz.ntmps69
      go_wp2
      go_ret
      exact ⟨rfl, rfl⟩
  · rw [day_no (by omega)]
    go_enter Tryz.func69, Tryz.ntmps69
    go_wp2
    go_ret
    exact ⟨rfl, rfl⟩

set_option maxHeartbeats 1000000 in
theorem Week_any (d : Int) (h0 : 0 ≤ d) (h1 : d ≤ 3652058) (w : World) : Calls Tryz.prog 86 #[.int .i32 d] w fun e w' => e = .returned (.int .i64 (d % 7)) ∧ w = w' := by
  have hr : ∀ W, Calls Tryz.prog 69 #[.int .i32 d] W fun e w' => e = .returned (.bool true) ∧ W = w' := fun W => by have := DRight_any d W; rw [day_yes h0 h1] at this; exact this
  go_enter Tryz.func86, Tryz.ntmps86
  go_wp2_with (go_at_call 69; refine (hr _).mono ?_; rintro e w' ⟨rfl, rfl⟩)
  go_ret
  exact ⟨rfl, rfl⟩
set_option maxHeartbeats 1000000 in
theorem Week_no (d : Int) (h : d < 0 ∨ 3652058 < d) (w : World) : Calls Tryz.prog 86 #[.int .i32 d] w fun e w' => e = .returned (.int .i64 (-1)) ∧ w = w' := by
  have hr : ∀ W, Calls Tryz.prog 69 #[.int .i32 d] W fun e w' => e = .returned (.bool false) ∧ W = w' := fun W => by have := DRight_any d W; rw [day_no h] at this; exact this
  clear h
  go_enter Tryz.func86, Tryz.ntmps86
  go_wp2_with (go_at_call 69; refine (hr _).mono ?_; rintro e w' ⟨rfl, rfl⟩)
  go_ret
  exact ⟨rfl, rfl⟩
end Go.Proofs.YtjcnglkjjhnpbaaGreatDoor
namespace Go.Proofs.YtjcnglkjjhnpbaaGreatDoor

theorem yr_rest (n : Int) (h0 : 0 ≤ n) (h1 : n ≤ 3652058) :
    n - dby (yr n) = (n % 146097 - min (n % 146097 / 36524) 3 * 36524) % 1461 - min ((n % 146097 - min (n % 146097 / 36524) 3 * 36524) % 1461 / 365) 3 * 365 := by
  obtain ⟨a, ha⟩ : ∃ a, n / 146097 = a := ⟨_, rfl⟩
  obtain ⟨r, hr⟩ : ∃ r, n % 146097 = r := ⟨_, rfl⟩
  have e0 : n = 146097 * a + r := by omega
  have r0 : 0 ≤ r ∧ r < 146097 := by omega
  obtain ⟨h, hh⟩ : ∃ h, min (r / 36524) 3 = h := ⟨_, rfl⟩
  have b1 : 0 ≤ h ∧ h ≤ 3 ∧ 36524 * h ≤ r ∧ (h < 3 → r < 36524 * (h + 1)) := by omega
  obtain ⟨f, hf⟩ : ∃ f, (r - h * 36524) / 1461 = f := ⟨_, rfl⟩
  obtain ⟨s, hs⟩ : ∃ s, (r - h * 36524) % 1461 = s := ⟨_, rfl⟩
  have e1 : r = 36524 * h + 1461 * f + s := by omega
  have b2 : 0 ≤ s ∧ s < 1461 ∧ 0 ≤ f ∧ f ≤ 24 := by omega
  obtain ⟨k, hk⟩ : ∃ k, min (s / 365) 3 = k := ⟨_, rfl⟩
  have b3 : 0 ≤ k ∧ k ≤ 3 ∧ 365 * k ≤ s ∧ (k < 3 → s < 365 * (k + 1)) := by omega
  have ey : yr n = 400 * a + 100 * h + 4 * f + k + 1 := by unfold yr; rw [ha, hr, hh, hf, hs, hk]
  rw [ey, hr, hh, hs, hk]
  clear ey hh hf hs hk ha hr
  subst e0
  subst e1
  have t1 : (400 * a + 100 * h + 4 * f + k + 1 - 1) / 4 = 100 * a + 25 * h + f := by omega
  have t2 : (400 * a + 100 * h + 4 * f + k + 1 - 1) / 100 = 4 * a + h := by omega
  have t3 : (400 * a + 100 * h + 4 * f + k + 1 - 1) / 400 = a := by omega
  have ed : dby (400 * a + 100 * h + 4 * f + k + 1) = 146097 * a + 36524 * h + 1461 * f + 365 * k := by unfold dby; rw [t1, t2, t3]; omega
  rw [ed]
  omega
/-- The four ways of the code's two bounds. -/
theorem yr_low (n : Int) (h0 : 0 ≤ n) (h1 : n ≤ 3652058) (h : n % 146097 / 36524 ≤ 3) (k : (n % 146097 - n % 146097 / 36524 * 36524) % 1461 / 365 ≤ 3) :
    400 * (n / 146097) + 100 * (n % 146097 / 36524) + 4 * ((n % 146097 - n % 146097 / 36524 * 36524) / 1461) + (n % 146097 - n % 146097 / 36524 * 36524) % 1461 / 365 + 1 = yr n ∧
      (n % 146097 - n % 146097 / 36524 * 36524) % 1461 - (n % 146097 - n % 146097 / 36524 * 36524) % 1461 / 365 * 365 = n - dby (yr n) := by
  rw [yr_rest n h0 h1]
  unfold yr
  rw [Int.min_eq_left h, Int.min_eq_left k]
  exact ⟨rfl, rfl⟩
theorem yr_top (n : Int) (h0 : 0 ≤ n) (h1 : n ≤ 3652058) (h : n % 146097 / 36524 ≤ 3) (k : 3 < (n % 146097 - n % 146097 / 36524 * 36524) % 1461 / 365) :
    400 * (n / 146097) + 100 * (n % 146097 / 36524) + 4 * ((n % 146097 - n % 146097 / 36524 * 36524) / 1461) + 3 + 1 = yr n ∧
      (n % 146097 - n % 146097 / 36524 * 36524) % 1461 - 1095 = n - dby (yr n) := by
  rw [yr_rest n h0 h1]
  unfold yr
  rw [Int.min_eq_left h, Int.min_eq_right (by omega)]
  exact ⟨rfl, rfl⟩
theorem yr_end (n : Int) (h0 : 0 ≤ n) (h1 : n ≤ 3652058) (h : 3 < n % 146097 / 36524) :
    400 * (n / 146097) + 300 + 4 * ((n % 146097 - 109572) / 1461) + 3 + 1 = yr n ∧
      (n % 146097 - 109572) % 1461 - 1095 = n - dby (yr n) := by
  rw [yr_rest n h0 h1]
  unfold yr
  rw [Int.min_eq_right (show 3 ≤ n % 146097 / 36524 by omega), show (3 : Int) * 36524 = 109572 by rfl, Int.min_eq_right (by omega)]
  exact ⟨rfl, rfl⟩

/-- So many months on. -/
def mon (y m n : Int) : Int := 12 * (y - 1) + (m - 1) + n
def mY (t : Int) : Int := t / 12 + 1
def mM (t : Int) : Int := t % 12 + 1
theorem mon_of (t : Int) : 12 * (mY t - 1) + (mM t - 1) = t := by unfold mY mM; omega
theorem mon_uniq {t y m : Int} (h1 : 1 ≤ m) (h2 : m ≤ 12) (h : 12 * (y - 1) + (m - 1) = t) : y = mY t ∧ m = mM t := by unfold mY mM; omega
theorem mon_in {t : Int} (h0 : 0 ≤ t) (h1 : t < 119988) : 1 ≤ mY t ∧ mY t ≤ 9999 ∧ 1 ≤ mM t ∧ mM t ≤ 12 := by unfold mY mM; omega
theorem mon_out {t : Int} (h : t < 0 ∨ 119988 ≤ t) : mY t < 1 ∨ 9999 < mY t := by unfold mY; omega
def mD (t d : Int) : Int := min d (mlen (mY t) (mM t))
theorem mon_right {t d : Int} (h0 : 0 ≤ t) (h1 : t < 119988) (hd : 1 ≤ d) : rightB (mY t) (mM t) (mD t d) = true := by
  obtain ⟨a, b, c, e⟩ := mon_in h0 h1
  have := mlen_lo (mY t) (mM t) a b c e
  rw [right_iff]
  unfold mD
  omega
end Go.Proofs.YtjcnglkjjhnpbaaGreatDoor
namespace Go.Proofs.YtjcnglkjjhnpbaaGreatDoor
open Go.RowKit

theorem below_alloc (w : World) (o : Obj) : Below w.heap.size w (w.alloc o) := (Below.refl _ _).alloc (Nat.le_refl _) _
theorem below_sameC {P : Program} {f : FuncId} {args : Array Value} {W : World} {v : Value} (h : Calls P f args W fun e w' => e = .returned v ∧ W = w') : Calls P f args W fun e w' => e = .returned v ∧ Below W.heap.size W w' :=
  h.mono fun _ _ ⟨a, b⟩ => ⟨a, b ▸ Below.refl _ _⟩
theorem box3 {w W0 : World} {T : TypeId} {y m d : Value} (h : w.alloc (.cells #[y, m, d] T) = W0) :
    (∀ dd os, (Go.Sort.grow (redrawn W0 dd) os).cell? ⟨w.heap.size, 0, none⟩ = some y) ∧ (∀ dd os, (Go.Sort.grow (redrawn W0 dd) os).cell? ⟨w.heap.size, 1, none⟩ = some m) ∧
      (∀ dd os, (Go.Sort.grow (redrawn W0 dd) os).cell? ⟨w.heap.size, 2, none⟩ = some d) := by
  have hk : Blk W0 w.heap.size T #[y, m, d] := by rw [← h]; exact Blk.new w _ _
  exact ⟨cell_regrown (hk.cell 0), cell_regrown (hk.cell 1), cell_regrown (hk.cell 2)⟩
theorem pos_yes {d : Int} (h : 1 ≤ d) : decide (1 ≤ d) = true := decide_eq_true h
theorem pos_no {d : Int} (h : ¬ 1 ≤ d) : decide (1 ≤ d) = false := decide_eq_false h

set_option maxHeartbeats 1000000 in
theorem CRight_any (y m d : Int) (w : World) (hw : Lens w) : Calls Tryz.prog 146 #[.agg #[.int .i64 y, .int .i64 m, .int .i64 d]] w fun e w' => e = .returned (.bool (rightB y m d)) ∧ Below w.heap.size w w' := by
  obtain ⟨L, hL⟩ : ∃ L, mlen y m = L := ⟨_, rfl⟩
  unfold rightB
  rw [hL]
  go_enter Tryz.func146, Tryz.ntmps146
  go_wp2_with fail
  obtain ⟨W0, hw0⟩ : ∃ W, w.alloc (.cells #[.int .i64 y, .int .i64 m, .int .i64 d] 128) = W := ⟨_, rfl⟩
  have hb0 : Below w.heap.size w W0 := by rw [← hw0]; exact below_alloc w _
  obtain ⟨b0, b1, b2⟩ := box3 hw0
  have HC : ∀ dd os, _ := fun (dd : Nat) (os : Array Obj) => Calls.regrown_of (below_sameC (hL ▸ Length_any y m (Go.Sort.grow (redrawn W0 dd) os) ((hw.below hb0).below (below_regrown W0 dd os))))
  rw [hw0]
  clear hw0 hw
  by_cases hd : 1 ≤ d
  · have hd1 := pos_yes hd
    refine wp_region_quiet_below (by kernel_rfl) (by kernel_rfl) ?_
    repeat (go_big_quiet_step (exact HC _ _))
    refine wpQuiet_nil ?_
    intro w9 hw'
    have hbx : Below W0.heap.size W0 w9 := by
      obtain ⟨p, rfl⟩ := hw'
      exact below_regrown _ _ _
    clear hw' HC b0 b1 b2
    go_wp2_with fail
    go_ret
    exact ⟨ret_bool (by simp [hd]), hb0.trans (hbx.mono hb0.size)⟩
  · have hd1 := pos_no hd
    refine wp_region_quiet_below (by kernel_rfl) (by kernel_rfl) ?_
    repeat (go_big_quiet_step (exact HC _ _))
    refine wpQuiet_nil ?_
    intro w9 hw'
    have hbx : Below W0.heap.size W0 w9 := by
      obtain ⟨p, rfl⟩ := hw'
      exact below_regrown _ _ _
    clear hw' HC b0 b1 b2
    go_wp2_with fail
    go_ret
    exact ⟨ret_bool (by simp), hb0.trans (hbx.mono hb0.size)⟩

def plen (m : Int) : Int := if m = 2 then 28 else if m = 4 ∨ m = 6 ∨ m = 9 ∨ m = 11 then 30 else 31
theorem plen_at (m : Int) (h1 : 1 ≤ m) (h2 : m ≤ 12) : ([Value.int IntKind.i64 31, .int .i64 28, .int .i64 31, .int .i64 30, .int .i64 31, .int .i64 30, .int .i64 31, .int .i64 31, .int .i64 30, .int .i64 31, .int .i64 30, .int .i64 31] : List Value)[m.toNat - 1]? = some (.int .i64 (plen m)) := by
  have hm : m = 1 ∨ m = 2 ∨ m = 3 ∨ m = 4 ∨ m = 5 ∨ m = 6 ∨ m = 7 ∨ m = 8 ∨ m = 9 ∨ m = 10 ∨ m = 11 ∨ m = 12 := by omega
  rcases hm with rfl | rfl | rfl | rfl | rfl | rfl | rfl | rfl | rfl | rfl | rfl | rfl <;> rfl

set_option maxHeartbeats 1000000 in
theorem RLength_any (y m : Int) (w : World) : Calls Tryz.prog 83 #[.int .i64 y, .int .i64 m] w fun e w' => e = .returned (.int .i64 (mlen y m)) ∧ Below w.heap.size w w' := by
  by_cases h : 1 ≤ y ∧ y ≤ 9999 ∧ 1 ≤ m ∧ m ≤ 12
  · obtain ⟨h1, h2, h3, h4⟩ := h
    have hp := plen_at m h3 h4
    have hl : ∀ W, Calls Tryz.prog 108 #[.int .i64 y] W fun e w' => e = .returned (.bool (leapB y)) ∧ W = w' := fun W => RefLeap_any y W
    by_cases h5 : m = 2
    · subst h5
      have hp : ([Value.int IntKind.i64 31, .int .i64 28, .int .i64 31, .int .i64 30, .int .i64 31, .int .i64 30, .int .i64 31, .int .i64 31, .int .i64 30, .int .i64 31, .int .i64 30, .int .i64 31] : List Value)[1]? = some (.int .i64 28) := rfl
      cases hb : leapB y
      · have hm : mlen y 2 = 28 := by unfold mlen lp; rw [hb]; simp [h1, h2]
        rw [hm]
        rw [hb] at hl
        clear hm hb
        go_enter Tryz.func83, Tryz.ntmps83
        go_wp2_with (go_at_call 108; refine (hl _).mono ?_; rintro e w' ⟨rfl, rfl⟩)
        go_ret
        exact ⟨rfl, below_alloc _ _⟩
      · have hm : mlen y 2 = 29 := by unfold mlen lp; rw [hb]; simp [h1, h2]
        rw [hm]
        rw [hb] at hl
        clear hm hb
        go_enter Tryz.func83, Tryz.ntmps83
        go_wp2_with (go_at_call 108; refine (hl _).mono ?_; rintro e w' ⟨rfl, rfl⟩)
        go_ret
        exact ⟨rfl, below_alloc _ _⟩
    · have hm : mlen y m = plen m := by unfold mlen plen; rw [if_pos ⟨h1, h2, h3, h4⟩, if_neg h5, if_neg h5]
      rw [← hm] at hp
      clear hm
      go_enter Tryz.func83, Tryz.ntmps83
      go_wp2_with (go_at_call 108; refine (hl _).mono ?_; rintro e w' ⟨rfl, rfl⟩)
      go_ret
      exact ⟨rfl, below_alloc _ _⟩
  · rw [mlen_no y m (by omega)]
    by_cases h1 : 1 ≤ y
    · by_cases h2 : y ≤ 9999
      · by_cases h3 : 1 ≤ m
        · have h4 : ¬ m ≤ 12 := by omega
          clear h
          go_enter Tryz.func83, Tryz.ntmps83
          go_wp2
          go_ret
          exact ⟨rfl, Below.refl _ _⟩
        · clear h
          go_enter Tryz.func83, Tryz.ntmps83
          go_wp2
          go_ret
          exact ⟨rfl, Below.refl _ _⟩
      · clear h
        go_enter Tryz.func83, Tryz.ntmps83
        go_wp2
        go_ret
        exact ⟨rfl, Below.refl _ _⟩
    · clear h
      go_enter Tryz.func83, Tryz.ntmps83
      go_wp2
      go_ret
      exact ⟨rfl, Below.refl _ _⟩

end Go.Proofs.YtjcnglkjjhnpbaaGreatDoor
namespace Go.Proofs.YtjcnglkjjhnpbaaGreatDoor
open Go.RowKit

set_option maxHeartbeats 1000000 in
theorem yearOf_any (n : Int) (w : World) (h0 : 0 ≤ n) (h1 : n ≤ 3652058) : Calls Tryz.prog 109 #[.int .i64 n] w fun e w' => e = .returned (.tuple #[.int .i64 (yr n), .int .i64 (n - dby (yr n))]) ∧ w = w' := by
  go_enter Tryz.func109, Tryz.ntmps109
  go_wp2_with fail
  all_goals
    go_ret2
    first
      | (obtain ⟨e1, e2⟩ := yr_low n h0 h1 (by assumption) (by assumption); rw [e1, e2]; exact ⟨rfl, rfl⟩)
      | (obtain ⟨e1, e2⟩ := yr_top n h0 h1 (by assumption) (by assumption); rw [e1, e2]; exact ⟨rfl, rfl⟩)
      | (obtain ⟨e1, e2⟩ := yr_end n h0 h1 (by assumption); rw [e1, e2]; exact ⟨rfl, rfl⟩)


theorem mo_bounds (n : Int) (h0 : 0 ≤ n) (h1 : n ≤ 3652058) : 1 ≤ yr n ∧ yr n ≤ 9999 ∧ 0 ≤ n - dby (yr n) ∧ n - dby (yr n) < 365 + lp (yr n) := by
  obtain ⟨a, b, c, d⟩ := yr_spec n h0 h1
  omega
theorem date_end {n Y R m : Int} (hY : yr n = Y) (hR : n - dby Y = R) (y1 : 1 ≤ Y) (y2 : Y ≤ 9999) (h1 : 1 ≤ m) (h2 : m ≤ 12) (h3 : 0 ≤ R - cum Y m) (h4 : R - cum Y m < mlen Y m) : Y = cY n ∧ m = cM n ∧ R - cum Y m + 1 = cD n := by
  have hs := cum_succ Y m y1 y2 h1 h2
  have e1 : Y = cY n := hY.symm
  have e2 : m = cM n := by
    unfold cM
    rw [hY, hR]
    exact mo_unique Y R m y1 y2 h1 h2 (by omega) (by omega)
  refine ⟨e1, e2, ?_⟩
  unfold cD
  rw [← e2, hY, hR]

set_option maxHeartbeats 1000000 in
theorem DCivil_any (n : Int) (w : World) (h0 : 0 ≤ n) (h1 : n ≤ 3652058) (hw : Lens w) : Calls Tryz.prog 67 #[.int .i32 n] w fun e w' => e = .returned (.tuple #[.agg #[.int .i64 (cY n), .int .i64 (cM n), .int .i64 (cD n)], .nilIface]) ∧ Below w.heap.size w w' := by
  have hr : ∀ W, Calls Tryz.prog 69 #[.int .i32 n] W fun e w' => e = .returned (.bool true) ∧ W = w' := fun W => by have := DRight_any n W; rw [day_yes h0 h1] at this; exact this
  have hy := fun W => yearOf_any n W h0 h1
  obtain ⟨y1, y2, r0, r1⟩ := mo_bounds n h0 h1
  obtain ⟨Y, hY⟩ : ∃ Y, yr n = Y := ⟨_, rfl⟩
  rw [hY] at hy y1 y2 r0 r1
  obtain ⟨R, hR⟩ : ∃ R, n - dby Y = R := ⟨_, rfl⟩
  rw [hR] at hy r0 r1
  have HY := Lib.hid hY
  have HR := Lib.hid hR
  have hcl := cum_bd Y
  clear hY hR
  go_enter Tryz.func67, Tryz.ntmps67
  go_wp2_with (first | (go_at_call 69; refine (hr _).mono ?_; rintro e w' ⟨rfl, rfl⟩) | (go_at_call 109; refine (hy _).mono ?_; rintro e w' ⟨rfl, rfl⟩))
  have hL := fun m => Length_any Y m (w.alloc (.cells #[.int .i64 0, .int .i64 0, .int .i64 0] 128)) (hw.below (below_alloc _ _))
  clear hr hy hw
  go_loop [5, 6] (fun r k => ∃ m : Int, 1 ≤ m ∧ m ≤ 12 ∧ k = .int .i64 m ∧ 0 ≤ R - cum Y m ∧ r = .int .i64 (R - cum Y m)) (fun _ k => (12 - intOf k).toNat)
  case atStart => exact ⟨1, by omega, by omega, rfl, by rw [cum_one]; omega, by rw [cum_one, Int.sub_zero]⟩
  case round =>
    obtain ⟨m, hm1, hm2, rfl, hr0, rfl⟩ := hrel
    have cb := hcl m
    have lb := mlen_bd Y m
    have lq := lp_01 Y
    have cs := cum_succ Y m y1 y2 hm1 hm2
    have hL := hL m
    by_cases hc : mlen Y m ≤ R - cum Y m
    · have hm : m < 12 := by
        rcases Int.lt_or_le m 12 with h | h
        · exact h
        · exfalso
          have e : m = 12 := by omega
          subst e
          have := cum_13 Y
          have e13 : cum Y (12 + 1) = cum Y 13 := rfl
          omega
      have HS := Lib.hid cs
      have hcb : cum Y m ≤ 366 := by omega
      clear cs
      go_wp2_with (go_at_call 110; refine hL.mono ?_; rintro e w' ⟨rfl, rfl⟩)
      go_round
      case rel => exact ⟨m + 1, by omega, by omega, rfl, by rw [HS.out]; omega, by rw [HS.out]; go_num⟩
      case measure => simp [intOf]; omega
    · have hd := date_end HY.out HR.out y1 y2 hm1 hm2 hr0 (by omega)
      have HD := Lib.hid hd
      have hcb : cum Y m ≤ 366 := by omega
      clear hd cs
      go_wp2_with (go_at_call 110; refine hL.mono ?_; rintro e w' ⟨rfl, rfl⟩)
      refine bodyPost_ret (v := .tuple #[.agg #[.int .i64 Y, .int .i64 m, .int .i64 (R - cum Y m + 1)], .nilIface]) (by simp [results, Tryz.results67, go_sem]) rfl ⟨?_, ?_⟩
      · obtain ⟨d1, d2, d3⟩ := HD.out
        rw [← d1, ← d2, ← d3]
      · exact below_alloc _ _
end Go.Proofs.YtjcnglkjjhnpbaaGreatDoor
