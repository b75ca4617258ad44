/-
  level's arithmetic: months of a payment, the least one. No condition.
-/
import Derived.Test.YtbikfplipkhhcaaYldM
namespace Go.Proofs.Ytbikfplipkhhcaa
/-- A month's interest. -/
def monthN (X : Nat) : Nat := (X + 6000000) / 12000000
theorem month_half (X : Nat) : (X * 30 % 360000000 < 360000000 - X * 30 % 360000000 ↔ X % 12000000 < 6000000) ∧ (X % 12000000 < 6000000 → X * 30 / 360000000 = monthN X) ∧ (¬ X % 12000000 < 6000000 → X * 30 / 360000000 + 1 = monthN X) := by
  unfold monthN
  omega
theorem month_rest (X : Nat) : (X % 12000000 < 6000000 → X / 12000000 = monthN X) ∧ (¬ X % 12000000 < 6000000 → X / 12000000 + 1 = monthN X) := by
  unfold monthN
  omega
theorem month_bd (X : Nat) (h : X ≤ 1000000000000000000) : monthN X ≤ 100000000000 := by
  unfold monthN
  omega
/-- A month's interest on Q, at p millionths. -/
def mi (p Q : Nat) : Nat := monthN (Q * p)
theorem mi_mono {p Q R : Nat} (h : Q ≤ R) : mi p Q ≤ mi p R := by
  unfold mi monthN
  exact Nat.div_le_div_right (Nat.add_le_add_right (Nat.mul_le_mul_right _ h) _)
theorem mi_zero (p : Nat) : mi p 0 = 0 := by simp [mi, monthN]
/-- What a month of the payment y leaves of Q. -/
def mst (p y Q : Nat) : Nat := Q + mi p Q - y
theorem mst_mono {p y z Q R : Nat} (h : Q ≤ R) (hy : z ≤ y) : mst p y Q ≤ mst p z R := by
  unfold mst
  have := mi_mono (p := p) h
  omega
theorem mst_zero (p y : Nat) : mst p y 0 = 0 := by simp [mst, mi_zero]
/-- So many months. -/
def mit (p y : Nat) : Nat → Nat → Nat
  | 0, Q => Q
  | n + 1, Q => mit p y n (mst p y Q)
theorem mit_zero (p y : Nat) : ∀ n, mit p y n 0 = 0
  | 0 => rfl
  | n + 1 => by rw [mit, mst_zero]; exact mit_zero p y n
theorem mit_mono {p y z : Nat} (hy : z ≤ y) : ∀ (n : Nat) {Q R : Nat}, Q ≤ R → mit p y n Q ≤ mit p z n R
  | 0, _, _, h => h
  | n + 1, _, _, h => mit_mono hy n (mst_mono h hy)
theorem mit_succ (p y : Nat) : ∀ (n Q : Nat), mit p y (n + 1) Q = mst p y (mit p y n Q)
  | 0, _ => rfl
  | n + 1, Q => by rw [mit, mit_succ p y n]; rfl
theorem mit_stuck {p y Q : Nat} (h : Q ≤ mst p y Q) : ∀ n, Q ≤ mit p y n Q
  | 0 => Nat.le_refl _
  | n + 1 => by
    rw [mit_succ]
    exact Nat.le_trans h (mst_mono (mit_stuck h n) (Nat.le_refl _))
theorem mit_more {p y Q n : Nat} (h : mit p y n Q = 0) : ∀ k, mit p y (n + k) Q = 0
  | 0 => h
  | k + 1 => by rw [← Nat.add_assoc, mit_succ, mit_more h k, mst_zero]
/-- The months leave nothing. -/
def Clr (p n P y : Nat) : Prop := mit p y n P = 0
instance (p n P y : Nat) : Decidable (Clr p n P y) := inferInstanceAs (Decidable (_ = _))
theorem Clr.mono {p n m P Q y z : Nat} (h : Clr p m Q y) (hn : m ≤ n) (hP : P ≤ Q) (hy : y ≤ z) : Clr p n P z := by
  obtain ⟨k, rfl⟩ := Nat.le.dest hn
  have h1 := mit_more h k
  have h2 := mit_mono (p := p) hy (m + k) hP
  unfold Clr
  omega
theorem mit_low {p y : Nat} : ∀ (n Q : Nat), Q - n * y ≤ mit p y n Q
  | 0, Q => by simp [mit]
  | n + 1, Q => by
    have := mit_low (p := p) (y := y) n (mst p y Q)
    rw [mit, Nat.add_mul]
    unfold mst at this ⊢
    omega
theorem mit_high {p l P : Nat} : ∀ (n Q : Nat), Q ≤ P → mit p (l + mi p P) n Q ≤ Q - n * l
  | 0, Q, _ => by simp [mit]
  | n + 1, Q, h => by
    have hm := mi_mono (p := p) h
    have := mit_high (p := p) (l := l) (P := P) n (mst p (l + mi p P) Q) (by unfold mst; omega)
    rw [mit, Nat.add_mul]
    unfold mst at this ⊢
    omega
/-- An n-th part, rounded up. -/
def prt (P n : Nat) : Nat := (P + n - 1) / n
theorem prt_le {P n : Nat} (hn : 0 < n) : P ≤ n * prt P n := by
  unfold prt
  have h1 := Nat.div_add_mod (P + n - 1) n
  have h2 := Nat.mod_lt (P + n - 1) hn
  omega
theorem prt_lt {P n y : Nat} (hn : 0 < n) (hP : 0 < P) (h : y < prt P n) : n * y < P := by
  unfold prt at h
  have h1 : (y + 1) ≤ (P + n - 1) / n := h
  rw [Nat.le_div_iff_mul_le hn, Nat.add_mul, Nat.mul_comm y n] at h1
  omega
theorem prt_pos {P n : Nat} (hn : 0 < n) (hP : 0 < P) : 1 ≤ prt P n := by
  unfold prt
  rw [Nat.le_div_iff_mul_le hn]
  omega
theorem prt_bd {P n : Nat} (hn : 0 < n) (hP : 0 < P) : prt P n ≤ P := by
  unfold prt
  rw [Nat.div_le_iff_le_mul hn]
  have : P * 1 ≤ P * n := Nat.mul_le_mul_left _ hn
  have e : P * n = P * (n - 1) + P := by
    obtain ⟨k, rfl⟩ : ∃ k, n = k + 1 := ⟨n - 1, by omega⟩
    simp [Nat.mul_add]
  have : n - 1 ≤ P * (n - 1) := Nat.le_mul_of_pos_left _ hP
  omega
theorem clr_high {p P n : Nat} (hn : 0 < n) : Clr p n P (prt P n + mi p P) := by
  have h1 := mit_high (p := p) (l := prt P n) n P (Nat.le_refl _)
  have h2 := prt_le (P := P) hn
  unfold Clr
  omega
theorem clr_low {p P n y : Nat} (hn : 0 < n) (hP : 0 < P) (h : Clr p n P y) : prt P n ≤ y := by
  rcases Nat.lt_or_ge y (prt P n) with hlt | hge
  · have h1 := prt_lt hn hP hlt
    have h2 := mit_low (p := p) (y := y) n P
    unfold Clr at h
    omega
  · exact hge
/-- The least payment. -/
def Lst (p n P y : Nat) : Prop := Clr p n P y ∧ ∀ z, Clr p n P z → y ≤ z
theorem lst_any {p n P : Nat} (hn : 0 < n) : ∃ y, Lst p n P y := by
  have hh := clr_high (p := p) (P := P) hn
  generalize prt P n + mi p P = b at hh
  revert hh
  induction b with
  | zero => intro hh; exact ⟨0, hh, fun z _ => Nat.zero_le z⟩
  | succ b ih =>
    intro hh
    by_cases hb : Clr p n P b
    · exact ih hb
    · refine ⟨b + 1, hh, fun z hz => ?_⟩
      rcases Nat.lt_or_ge b z with h | h
      · exact h
      · exact absurd (hz.mono (Nat.le_refl _) (Nat.le_refl _) h) hb
theorem Lst.high {p n P y : Nat} (hn : 0 < n) (h : Lst p n P y) : y ≤ prt P n + mi p P := h.2 _ (clr_high hn)
theorem Lst.low {p n P y : Nat} (hn : 0 < n) (hP : 0 < P) (h : Lst p n P y) : prt P n ≤ y := clr_low hn hP h.1
theorem Lst.iff {p n P y z : Nat} (h : Lst p n P y) : Clr p n P z ↔ y ≤ z := ⟨fun hz => h.2 z hz, fun hz => h.1.mono (Nat.le_refl _) (Nat.le_refl _) hz⟩
theorem Lst.gt {p n P y : Nat} (hP : 0 < P) (h : Lst p n P y) : mi p P < y := by
  rcases Nat.lt_or_ge (mi p P) y with hlt | hge
  · exact hlt
  · have := mit_stuck (p := p) (y := y) (Q := P) (by unfold mst; omega) n
    have h1 := h.1
    unfold Clr at h1
    omega
/-- What the code asks, month by month. -/
def clB (p y : Nat) : Nat → Nat → Bool
  | 0, _ => false
  | n + 1, Q => if Q ≤ mst p y Q then false else if mst p y Q = 0 then true else clB p y n (mst p y Q)
theorem clB_iff {p y : Nat} : ∀ (n Q : Nat), 0 < Q → (clB p y n Q = true ↔ Clr p n Q y)
  | 0, Q, h => by simp [clB, Clr, mit]; omega
  | n + 1, Q, h => by
    unfold clB
    by_cases h1 : Q ≤ mst p y Q
    · rw [if_pos h1]
      have := mit_stuck h1 (n + 1)
      unfold Clr
      simp; omega
    · rw [if_neg h1]
      by_cases h2 : mst p y Q = 0
      · rw [if_pos h2]
        unfold Clr
        rw [mit, h2, mit_zero]; simp
      · rw [if_neg h2, clB_iff n _ (by omega)]
        unfold Clr
        rw [mit]
/-- What the document's reckoning leaves. -/
def rlN (p y : Nat) : Nat → Nat → Nat
  | 0, Q => Q
  | n + 1, Q => if Q = 0 then 0 else if Q + mi p Q ≤ y then 0 else if Q ≤ mst p y Q then Q else rlN p y n (mst p y Q)
theorem rlN_iff {p y : Nat} : ∀ (n Q : Nat), (rlN p y n Q = 0 ↔ Clr p n Q y)
  | 0, Q => by simp [rlN, Clr, mit]
  | n + 1, Q => by
    unfold rlN
    by_cases h0 : Q = 0
    · subst h0
      rw [if_pos rfl]
      unfold Clr
      rw [mit_zero]
    · rw [if_neg h0]
      by_cases h1 : Q + mi p Q ≤ y
      · rw [if_pos h1]
        unfold Clr
        rw [mit, show mst p y Q = 0 by unfold mst; omega, mit_zero]
      · rw [if_neg h1]
        by_cases h2 : Q ≤ mst p y Q
        · rw [if_pos h2]
          have := mit_stuck h2 (n + 1)
          unfold Clr
          omega
        · rw [if_neg h2, rlN_iff n]
          unfold Clr
          rw [mit]

theorem mi_bd {p Q : Nat} (hQ : Q ≤ 1000000000000) (hp : p ≤ 1000000) : mi p Q ≤ 100000000000 := month_bd _ (pp_le hQ hp)
theorem mst_le {p y Q P : Nat} (h : mi p P ≤ y) (hQ : Q ≤ P) : mst p y Q ≤ Q := by
  have := mi_mono (p := p) hQ
  unfold mst
  omega
theorem mit_le {p y P : Nat} (h : mi p P ≤ y) : ∀ (n Q : Nat), Q ≤ P → mit p y n Q ≤ Q
  | 0, _, _ => Nat.le_refl _
  | n + 1, Q, hQ => by
    have h1 := mst_le h hQ
    have h2 := mit_le h n (mst p y Q) (by omega)
    rw [mit]
    omega
theorem mit_only (p P : Nat) : ∀ n, mit p (mi p P) n P = P
  | 0 => rfl
  | n + 1 => by rw [mit, show mst p (mi p P) P = P by unfold mst; omega, mit_only p P n]
end Go.Proofs.Ytbikfplipkhhcaa
