/-
  When something is due: so many months on from a day, month's end to month's end. Plain mathematics, no condition.
-/
import Derived.Test.YtkhjmbemjndcoaaGreatDoorSpanM
namespace Go.Proofs.YtkhjmbemjndcoaaGreatDoor

/-- The month that lies k on from a day's own. -/
def pT (n k : Int) : Int := mon (cY n) (cM n) k
/-- The day in it: of a last one the last one, else the same one, or the last one. -/
def pD (n k : Int) : Int := if cD n = mlen (cY n) (cM n) then mlen (mY (pT n k)) (mM (pT n k)) else mD (pT n k) (cD n)
def plainD (n k : Int) : Int := num (mY (pT n k)) (mM (pT n k)) (pD n k)
theorem pT_lo {n k : Int} (h0 : 0 ≤ n) (h1 : n ≤ 3652058) (hk : 0 ≤ k) : 0 ≤ pT n k := by
  have := civ_in n h0 h1
  unfold pT mon
  omega
theorem pT_hi {n k : Int} (h0 : 0 ≤ n) (h1 : n ≤ 3652058) (hk : k ≤ 480) : pT n k ≤ 121000 := by
  have := civ_in n h0 h1
  unfold pT mon
  omega
theorem pT_add (n k j : Int) : pT n (k + j) = pT n k + j := by unfold pT mon; omega
theorem mlen_mon {t : Int} (h0 : 0 ≤ t) (h1 : t < 119988) : 28 ≤ mlen (mY t) (mM t) ∧ mlen (mY t) (mM t) ≤ 31 := by
  obtain ⟨a, b, c, d⟩ := mon_in h0 h1
  exact ⟨mlen_lo _ _ a b c d, (mlen_bd _ _).2⟩
theorem pD_right {n k : Int} (h0 : 0 ≤ n) (h1 : n ≤ 3652058) (hk : 0 ≤ k) (ht : pT n k < 119988) : rightB (mY (pT n k)) (mM (pT n k)) (pD n k) = true := by
  obtain ⟨_, _, _, _, d1, d2, _⟩ := civ_in n h0 h1
  have hl := mlen_mon (pT_lo h0 h1 hk) ht
  unfold pD
  split
  · exact (right_iff _ _ _).2 ⟨by omega, Int.le_refl _⟩
  · exact mon_right (pT_lo h0 h1 hk) ht d1
theorem plain_in {n k : Int} (h0 : 0 ≤ n) (h1 : n ≤ 3652058) (hk : 0 ≤ k) (ht : pT n k < 119988) : 0 ≤ plainD n k ∧ plainD n k ≤ 3652058 ∧ cY (plainD n k) = mY (pT n k) ∧ cM (plainD n k) = mM (pT n k) ∧ cD (plainD n k) = pD n k :=
  day_of (pD_right h0 h1 hk ht)
theorem plain_rise {n k j : Int} (h0 : 0 ≤ n) (h1 : n ≤ 3652058) (hk : 0 ≤ k) (hj : k < j) (ht : pT n j < 119988) : plainD n k < plainD n j := by
  have hlt : pT n k < pT n j := by unfold pT mon; omega
  refine num_lt (pD_right h0 h1 hk (by omega)) (pD_right h0 h1 (by omega) ht) ?_
  unfold mY mM
  omega
/-- Where a loan's days lie in their months. -/
theorem plain_last {n k : Int} (h : cD n = mlen (cY n) (cM n)) : pD n k = mlen (mY (pT n k)) (mM (pT n k)) := by unfold pD; rw [if_pos h]
theorem plain_mid {n k : Int} (h : ¬ cD n = mlen (cY n) (cM n)) : pD n k = min (cD n) (mlen (mY (pT n k)) (mM (pT n k))) := by unfold pD; rw [if_neg h]; rfl
end Go.Proofs.YtkhjmbemjndcoaaGreatDoor
