/-
  Small legs: sums that go on, in whatever order: plain mathematics. No condition.
-/
import Derived.Test.YtpphcifabmmimaaTurA
import Derived.Test.YtpphcifabmmimaaChE
namespace Go.Proofs.Ytpphcifabmmimaa

/-- What the legs of account a come to. -/
def psum (l : List (Nat × Int)) (a : Nat) : Int := (l.map fun u => if u.1 = a then u.2 else 0).sum
/-- Legs that are small, and few. -/
structure Bd (l : List (Nat × Int)) : Prop where
  n : l.length ≤ 12
  b : ∀ u ∈ l, u.1 < 256 ∧ -1000000 < u.2 ∧ u.2 < 1000000
theorem psum_snoc (l : List (Nat × Int)) (u : Nat × Int) (a : Nat) : psum (l ++ [u]) a = psum l a + if u.1 = a then u.2 else 0 := by simp [psum]
theorem psum_bd {l : List (Nat × Int)} (h : ∀ u ∈ l, u.1 < 256 ∧ -1000000 < u.2 ∧ u.2 < 1000000) (a : Nat) : -1000000 * (l.length : Int) ≤ psum l a ∧ psum l a ≤ 1000000 * (l.length : Int) := by
  induction l with
  | nil => simp [psum]
  | cons u l ih =>
    obtain ⟨i1, i2⟩ := ih fun v hv => h v (List.mem_cons_of_mem _ hv)
    obtain ⟨-, h1, h2⟩ := h u List.mem_cons_self
    have e : psum (u :: l) a = (if u.1 = a then u.2 else 0) + psum l a := by simp [psum]
    rw [e, List.length_cons]
    split <;> (constructor <;> (push_cast; omega))
theorem accs_psum : ∀ (n : Nat) (l : List (Nat × Int)), l.length = n → Bd l → ∀ a, accs l a = some (psum l a) := by
  intro n
  induction n with
  | zero =>
    intro l hl _ a
    rw [List.length_eq_zero_iff] at hl
    subst hl
    rfl
  | succ n ih =>
    intro l hl hb a
    obtain ⟨m, u, rfl⟩ : ∃ m u, l = m ++ [u] := by
      have hne : l ≠ [] := fun e => by rw [e] at hl; cases hl
      exact ⟨l.dropLast, l.getLast hne, (List.dropLast_concat_getLast hne).symm⟩
    have hm : m.length = n := by simpa using hl
    have hbm : Bd m := ⟨by have := hb.n; rw [hl] at this; omega, fun v hv => hb.b v (List.mem_append_left _ hv)⟩
    rw [accs_snoc, ih m hm hbm a, psum_snoc]
    unfold stepA addO
    by_cases e : u.1 = a
    · rw [if_pos e, if_pos e]
      have h1 := psum_bd hbm.b a
      have h2 := hb.b u (by simp)
      have h3 := hb.n
      rw [hl] at h3
      simp only
      rw [if_pos (fitB_iff.2 (by omega))]
    · rw [if_neg e, if_neg e, Int.add_zero]
theorem bd_ok {l : List (Nat × Int)} (h : Bd l) : okL l := fun a e => by rw [accs_psum _ l rfl h a] at e; cases e
theorem bd_sum {l : List (Nat × Int)} (h : Bd l) (a : Nat) : sumA l a = psum l a := by unfold sumA; rw [accs_psum _ l rfl h a]; rfl
theorem psum_cons (u : Nat × Int) (l : List (Nat × Int)) (a : Nat) : psum (u :: l) a = (if u.1 = a then u.2 else 0) + psum l a := by simp [psum]
theorem psum_perm {l m : List (Nat × Int)} (h : l.Perm m) (a : Nat) : psum l a = psum m a := by
  induction h with
  | nil => rfl
  | cons x _ ih => rw [psum_cons, psum_cons, ih]
  | swap x y l => rw [psum_cons, psum_cons, psum_cons, psum_cons]; omega
  | trans _ _ i1 i2 => exact i1.trans i2
theorem has_perm {l m : List (Nat × Int)} (h : l.Perm m) (a : Nat) : hasA l a = hasA m a := by
  unfold hasA
  rw [Bool.eq_iff_iff, List.any_eq_true, List.any_eq_true]
  exact ⟨fun ⟨x, hx, e⟩ => ⟨x, h.mem_iff.1 hx, e⟩, fun ⟨x, hx, e⟩ => ⟨x, h.mem_iff.2 hx, e⟩⟩
theorem bd_perm {l m : List (Nat × Int)} (h : l.Perm m) (hb : Bd l) : Bd m := ⟨by rw [← h.length_eq]; exact hb.n, fun u hu => hb.b u (h.mem_iff.2 hu)⟩
/-- However they come, small legs make the same. -/
theorem mkL_perm {l m : List (Nat × Int)} (h : l.Perm m) (hb : Bd l) : mkL l = mkL m := by
  rw [mkL_ok (bd_ok hb), mkL_ok (bd_ok (bd_perm h hb))]
  have e1 : keysA l = keysA m := by unfold keysA; congr 1; funext a; exact has_perm h a
  rw [e1]
  refine List.map_congr_left fun a _ => ?_
  unfold rowA
  rw [bd_sum hb, bd_sum (bd_perm h hb), psum_perm h]
theorem psum_none {l : List (Nat × Int)} {a : Nat} (h : hasA l a = false) : psum l a = 0 := by
  unfold psum
  unfold hasA at h
  rw [List.any_eq_false] at h
  have : (l.map fun u => if u.1 = a then u.2 else 0) = l.map fun _ => (0 : Int) := List.map_congr_left fun u hu => if_neg (by simpa using h u hu)
  rw [this]
  clear this h
  induction l with
  | nil => rfl
  | cons x l ih => rw [List.map_cons, List.sum_cons, ih]; rfl
theorem of_rows (L : List (Nat × Int)) (a : Nat) : ∀ ks : List Nat, ks.Nodup → ofL (ks.map (rowA L)) a = if a ∈ ks then sumA L a else 0
  | [], _ => rfl
  | k :: ks, hn => by
    have hn2 := List.nodup_cons.1 hn
    have ih := of_rows L a ks hn2.2
    unfold ofL at ih ⊢
    rw [List.map_cons, List.find?_cons]
    by_cases e : k = a
    · subst e
      simp [rowA]
    · have e2 : ((rowA L k).1 == a) = false := by simp [rowA, e]
      rw [e2]
      simp only [List.mem_cons]
      rw [ih]
      by_cases h : a ∈ ks
      · rw [if_pos h, if_pos (.inr h)]
      · rw [if_neg h, if_neg (by rintro (h1 | h1); exact e h1.symm; exact h h1)]
/-- What an entry made of small legs has of an account. -/
theorem of_mk {l : List (Nat × Int)} (hb : Bd l) {a : Nat} (ha : a < 256) : ofL (mkL l) a = psum l a := by
  rw [mkL_ok (bd_ok hb), of_rows l a _ ((keysA_lt l).imp (fun h => Nat.ne_of_lt h))]
  by_cases h : hasA l a = true
  · rw [if_pos (keysA_mem.2 ⟨ha, h⟩), bd_sum hb]
  · have h2 : hasA l a = false := by simpa using h
    rw [if_neg (fun h3 => h (keysA_mem.1 h3).2), psum_none h2]
/-- Two legs that change their places. -/
theorem swap_perm (l : List (Nat × Int)) {i j : Nat} (hi : i < l.length) (hj : j < l.length) : l.Perm ((l.set i l[j]).set j l[i]) := by
  have h := Array.swap_perm (xs := l.toArray) (i := i) (j := j) (by simpa using hi) (by simpa using hj)
  have e : (l.toArray.swap i j (by simpa using hi) (by simpa using hj)).toList = (l.set i l[j]).set j l[i] := by simp [Array.swap]
  have h2 := (Array.perm_iff_toList_perm.1 h)
  rw [e] at h2
  exact h2.symm
def modA (z : Int) : Int := z.tmod 1000000
theorem modA_bd (z : Int) : -1000000 < modA z ∧ modA z < 1000000 := by
  unfold modA
  rcases Int.le_total 0 z with h | h
  · rw [Int.tmod_eq_emod_of_nonneg h]; omega
  · have e : z = -(-z) := by omega
    rw [e, Int.neg_tmod, Int.tmod_eq_emod_of_nonneg (by omega)]
    omega
end Go.Proofs.Ytpphcifabmmimaa
