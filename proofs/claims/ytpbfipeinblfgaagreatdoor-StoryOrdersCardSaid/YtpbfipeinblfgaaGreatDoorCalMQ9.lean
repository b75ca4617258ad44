/-
Years and months by number, more of it: what the code's year leaves, months on and back. No condition.
-/
import Derived.Test.YtpbfipeinblfgaaGreatDoorCalQ9
namespace Go.Proofs.YtpbfipeinblfgaaGreatDoor

theorem yr_rest (n : Int) (h0 : 0 ≤ n) (h1 : n ≤ 3652058) :
    n - dby (yr n) = (n % 146097 - min (n % 146097 / 36524) 3 * 36524) % 1461 - min ((n % 146097 - min (n % 146097 / 36524) 3 * 36524) % 1461 / 365) 3 * 365 := by
  obtain ⟨a, ha⟩ : ∃ a, n / 146097 = a := ⟨_, rfl⟩
  obtain ⟨r, hr⟩ : ∃ r, n % 146097 = r := ⟨_, rfl⟩
  have e0 : n = 146097 * a + r := by omega
  have r0 : 0 ≤ r ∧ r < 146097 := by omega
  obtain ⟨h, hh⟩ : ∃ h, min (r / 36524) 3 = h := ⟨_, rfl⟩
  have b1 : 0 ≤ h ∧ h ≤ 3 ∧ 36524 * h ≤ r ∧ (h < 3 → r < 36524 * (h + 1)) := by omega
  obtain ⟨f, hf⟩ : ∃ f, (r - h * 36524) / 1461 = f := ⟨_, rfl⟩
  obtain ⟨s, hs⟩ : ∃ s, (r - h * 36524) % 1461 = s := ⟨_, rfl⟩
  have e1 : r = 36524 * h + 1461 * f + s := by omega
  have b2 : 0 ≤ s ∧ s < 1461 ∧ 0 ≤ f ∧ f ≤ 24 := by omega
  obtain ⟨k, hk⟩ : ∃ k, min (s / 365) 3 = k := ⟨_, rfl⟩
  have b3 : 0 ≤ k ∧ k ≤ 3 ∧ 365 * k ≤ s ∧ (k < 3 → s < 365 * (k + 1)) := by omega
  have ey : yr n = 400 * a + 100 * h + 4 * f + k + 1 := by unfold yr; rw [ha, hr, hh, hf, hs, hk]
  rw [ey, hr, hh, hs, hk]
  clear ey hh hf hs hk ha hr
  subst e0
  subst e1
  have t1 : (400 * a + 100 * h + 4 * f + k + 1 - 1) / 4 = 100 * a + 25 * h + f := by omega
  have t2 : (400 * a + 100 * h + 4 * f + k + 1 - 1) / 100 = 4 * a + h := by omega
  have t3 : (400 * a + 100 * h + 4 * f + k + 1 - 1) / 400 = a := by omega
  have ed : dby (400 * a + 100 * h + 4 * f + k + 1) = 146097 * a + 36524 * h + 1461 * f + 365 * k := by unfold dby; rw [t1, t2, t3]; omega
  rw [ed]
  omega
/-- The four ways of the code's two bounds. -/
theorem yr_low (n : Int) (h0 : 0 ≤ n) (h1 : n ≤ 3652058) (h : n % 146097 / 36524 ≤ 3) (k : (n % 146097 - n % 146097 / 36524 * 36524) % 1461 / 365 ≤ 3) :
    400 * (n / 146097) + 100 * (n % 146097 / 36524) + 4 * ((n % 146097 - n % 146097 / 36524 * 36524) / 1461) + (n % 146097 - n % 146097 / 36524 * 36524) % 1461 / 365 + 1 = yr n ∧
      (n % 146097 - n % 146097 / 36524 * 36524) % 1461 - (n % 146097 - n % 146097 / 36524 * 36524) % 1461 / 365 * 365 = n - dby (yr n) := by
  rw [yr_rest n h0 h1]
  unfold yr
  rw [Int.min_eq_left h, Int.min_eq_left k]
  exact ⟨rfl, rfl⟩
theorem yr_top (n : Int) (h0 : 0 ≤ n) (h1 : n ≤ 3652058) (h : n % 146097 / 36524 ≤ 3) (k : 3 < (n % 146097 - n % 146097 / 36524 * 36524) % 1461 / 365) :
    400 * (n / 146097) + 100 * (n % 146097 / 36524) + 4 * ((n % 146097 - n % 146097 / 36524 * 36524) / 1461) + 3 + 1 = yr n ∧
      (n % 146097 - n % 146097 / 36524 * 36524) % 1461 - 1095 = n - dby (yr n) := by
  rw [yr_rest n h0 h1]
  unfold yr
  rw [Int.min_eq_left h, Int.min_eq_right (by omega)]
  exact ⟨rfl, rfl⟩
theorem yr_end (n : Int) (h0 : 0 ≤ n) (h1 : n ≤ 3652058) (h : 3 < n % 146097 / 36524) :
    400 * (n / 146097) + 300 + 4 * ((n % 146097 - 109572) / 1461) + 3 + 1 = yr n ∧
      (n % 146097 - 109572) % 1461 - 1095 = n - dby (yr n) := by
  rw [yr_rest n h0 h1]
  unfold yr
  rw [Int.min_eq_right (show 3 ≤ n % 146097 / 36524 by omega), show (3 : Int) * 36524 = 109572 by rfl, Int.min_eq_right (by omega)]
  exact ⟨rfl, rfl⟩

/-- So many months on. -/
def mon (y m n : Int) : Int := 12 * (y - 1) + (m - 1) + n
def mY (t : Int) : Int := t / 12 + 1
def mM (t : Int) : Int := t % 12 + 1
theorem mon_of (t : Int) : 12 * (mY t - 1) + (mM t - 1) = t := by unfold mY mM; omega
theorem mon_uniq {t y m : Int} (h1 : 1 ≤ m) (h2 : m ≤ 12) (h : 12 * (y - 1) + (m - 1) = t) : y = mY t ∧ m = mM t := by unfold mY mM; omega
theorem mon_in {t : Int} (h0 : 0 ≤ t) (h1 : t < 119988) : 1 ≤ mY t ∧ mY t ≤ 9999 ∧ 1 ≤ mM t ∧ mM t ≤ 12 := by unfold mY mM; omega
theorem mon_out {t : Int} (h : t < 0 ∨ 119988 ≤ t) : mY t < 1 ∨ 9999 < mY t := by unfold mY; omega
def mD (t d : Int) : Int := min d (mlen (mY t) (mM t))
theorem mon_right {t d : Int} (h0 : 0 ≤ t) (h1 : t < 119988) (hd : 1 ≤ d) : rightB (mY t) (mM t) (mD t d) = true := by
  obtain ⟨a, b, c, e⟩ := mon_in h0 h1
  have := mlen_lo (mY t) (mM t) a b c e
  rw [right_iff]
  unfold mD
  omega
end Go.Proofs.YtpbfipeinblfgaaGreatDoor
