/-
  A day's text, read digit by digit. Plain mathematics, no condition.
-/
import Derived.Test.YtclmhgaggminpaaDoorPad
import Derived.Test.YtclmhgaggminpaaDoorCalM
namespace Go.Proofs.YtclmhgaggminpaaDoor

/-- What the first i bytes say: year, month, day. -/
def rdN (L : List UInt8) : Nat → Int × Int × Int
  | 0 => (0, 0, 0)
  | i + 1 => if i = 4 ∨ i = 7 then rdN L i
      else if i < 4 then (10 * (rdN L i).1 + (((L.getD i 0).toNat : Int) - 48), (rdN L i).2.1, (rdN L i).2.2)
      else if i < 7 then ((rdN L i).1, 10 * (rdN L i).2.1 + (((L.getD i 0).toNat : Int) - 48), (rdN L i).2.2)
      else ((rdN L i).1, (rdN L i).2.1, 10 * (rdN L i).2.2 + (((L.getD i 0).toNat : Int) - 48))
/-- Are the first i bytes, but for two, digits? -/
def okN (L : List UInt8) : Nat → Bool
  | 0 => true
  | i + 1 => okN L i && (decide (i = 4 ∨ i = 7) || decide (48 ≤ (L.getD i 0).toNat ∧ (L.getD i 0).toNat ≤ 57))
theorem okN_end {L : List UInt8} {k m : Nat} (hk : k ≤ m) (h : okN L k = false) : okN L m = false := by
  induction m with
  | zero => obtain rfl : k = 0 := by omega
            exact h
  | succ m ih =>
    rcases Nat.lt_or_ge k (m + 1) with h1 | h1
    · simp only [okN]; rw [ih (by omega)]; rfl
    · obtain rfl : k = m + 1 := by omega
      exact h
theorem rdN_bd {L : List UInt8} : ∀ i, i ≤ 10 → okN L i = true → (0 ≤ (rdN L i).1 ∧ (rdN L i).1 ≤ 10000000000) ∧ (0 ≤ (rdN L i).2.1 ∧ (rdN L i).2.1 ≤ 10000000000) ∧ (0 ≤ (rdN L i).2.2 ∧ (rdN L i).2.2 ≤ 10000000000) := by
  have key : ∀ i, i ≤ 10 → okN L i = true → (0 ≤ (rdN L i).1 ∧ (rdN L i).1 < 10 ^ i) ∧ (0 ≤ (rdN L i).2.1 ∧ (rdN L i).2.1 < 10 ^ i) ∧ (0 ≤ (rdN L i).2.2 ∧ (rdN L i).2.2 < 10 ^ i) := by
    intro i
    induction i with
    | zero => intro _ _; simp [rdN]
    | succ i ih =>
      intro h hok
      simp only [okN, Bool.and_eq_true, Bool.or_eq_true, decide_eq_true_eq] at hok
      obtain ⟨⟨a0, a1⟩, ⟨b0, b1⟩, ⟨c0, c1⟩⟩ := ih (by omega) hok.1
      have hp : (10 : Int) ^ (i + 1) = 10 * 10 ^ i := by rw [Int.pow_succ]; omega
      have hd := hok.2
      simp only [rdN]
      generalize (10 : Int) ^ i = p at *
      rw [hp]
      generalize (L.getD i 0).toNat = u at *
      split
      · refine ⟨⟨a0, by omega⟩, ⟨b0, by omega⟩, ⟨c0, by omega⟩⟩
      · split
        · refine ⟨⟨by simp only; omega, by simp only; omega⟩, ⟨b0, by simp only; omega⟩, ⟨c0, by simp only; omega⟩⟩
        · split
          · refine ⟨⟨a0, by simp only; omega⟩, ⟨by simp only; omega, by simp only; omega⟩, ⟨c0, by simp only; omega⟩⟩
          · refine ⟨⟨a0, by simp only; omega⟩, ⟨b0, by simp only; omega⟩, ⟨by simp only; omega, by simp only; omega⟩⟩
  intro i h hok
  obtain ⟨⟨a0, a1⟩, ⟨b0, b1⟩, ⟨c0, c1⟩⟩ := key i h hok
  have hp : (10 : Int) ^ i ≤ 10000000000 := by
    have h1 : (10 : Nat) ^ i ≤ 10 ^ 10 := Nat.pow_le_pow_right (by decide) h
    have h2 : ((10 ^ i : Nat) : Int) = (10 : Int) ^ i := by simp
    omega
  omega
/-- What a text of ten bytes says: its day, or -1. -/
def rdL (L : List UInt8) : Int := if L.length = 10 ∧ (L.getD 4 0).toNat = 45 ∧ (L.getD 7 0).toNat = 45 ∧ okN L 10 = true ∧ rightB (rdN L 10).1 (rdN L 10).2.1 (rdN L 10).2.2 = true then num (rdN L 10).1 (rdN L 10).2.1 (rdN L 10).2.2 else -1
theorem textL_len (y m d : Nat) : (textL y m d).length = 10 := rfl
theorem rdN_ten (b0 b1 b2 b3 b4 b5 b6 b7 b8 b9 : UInt8) : rdN [b0, b1, b2, b3, b4, b5, b6, b7, b8, b9] 10 = (10 * (10 * (10 * (10 * 0 + ((b0.toNat : Int) - 48)) + ((b1.toNat : Int) - 48)) + ((b2.toNat : Int) - 48)) + ((b3.toNat : Int) - 48), 10 * (10 * 0 + ((b5.toNat : Int) - 48)) + ((b6.toNat : Int) - 48), 10 * (10 * 0 + ((b8.toNat : Int) - 48)) + ((b9.toNat : Int) - 48)) := by
  simp [rdN]
theorem okN_ten (b0 b1 b2 b3 b4 b5 b6 b7 b8 b9 : UInt8) : okN [b0, b1, b2, b3, b4, b5, b6, b7, b8, b9] 10 = true ↔ (48 ≤ b0.toNat ∧ b0.toNat ≤ 57) ∧ (48 ≤ b1.toNat ∧ b1.toNat ≤ 57) ∧ (48 ≤ b2.toNat ∧ b2.toNat ≤ 57) ∧ (48 ≤ b3.toNat ∧ b3.toNat ≤ 57) ∧ (48 ≤ b5.toNat ∧ b5.toNat ≤ 57) ∧ (48 ≤ b6.toNat ∧ b6.toNat ≤ 57) ∧ (48 ≤ b8.toNat ∧ b8.toNat ≤ 57) ∧ (48 ≤ b9.toNat ∧ b9.toNat ≤ 57) := by
  simp [okN, and_assoc]
/-- A day's own text. -/
theorem rdL_text (y m d : Nat) (hy : y < 10000) (hm : m < 100) (hd : d < 100) (hr : rightB (y : Int) (m : Int) (d : Int) = true) : rdL (textL y m d) = num (y : Int) (m : Int) (d : Int) := by
  have e1 := dgt_nat (y / 1000)
  have e2 := dgt_nat (y / 100)
  have e3 := dgt_nat (y / 10)
  have e4 := dgt_nat y
  have e5 := dgt_nat (m / 10)
  have e6 := dgt_nat m
  have e7 := dgt_nat (d / 10)
  have e8 := dgt_nat d
  have hT : textL y m d = [dgt (y / 1000), dgt (y / 100), dgt (y / 10), dgt y, 45, dgt (m / 10), dgt m, 45, dgt (d / 10), dgt d] := rfl
  have hR : rdN (textL y m d) 10 = ((y : Int), (m : Int), (d : Int)) := by
    rw [hT, rdN_ten, e1, e2, e3, e4, e5, e6, e7, e8]
    refine Prod.ext ?_ (Prod.ext ?_ ?_) <;> simp only <;> omega
  have h1 : (rdN (textL y m d) 10).1 = (y : Int) := by rw [hR]
  have h2 : (rdN (textL y m d) 10).2.1 = (m : Int) := by rw [hR]
  have h3 : (rdN (textL y m d) 10).2.2 = (d : Int) := by rw [hR]
  have h4 : okN (textL y m d) 10 = true := by
    have f : ∀ n, 48 ≤ (dgt n).toNat ∧ (dgt n).toNat ≤ 57 := fun n => by rw [dgt_nat]; omega
    rw [hT, okN_ten]
    exact ⟨f _, f _, f _, f _, f _, f _, f _, f _⟩
  unfold rdL
  rw [h1, h2, h3, if_pos ⟨textL_len y m d, by rw [hT]; rfl, by rw [hT]; rfl, h4, hr⟩]
theorem ten_of (L : List UInt8) (h : L.length = 10) : ∃ b0 b1 b2 b3 b4 b5 b6 b7 b8 b9 : UInt8, L = [b0, b1, b2, b3, b4, b5, b6, b7, b8, b9] := by
  match L, h with
  | [b0, b1, b2, b3, b4, b5, b6, b7, b8, b9], _ => exact ⟨b0, b1, b2, b3, b4, b5, b6, b7, b8, b9, rfl⟩
/-- What is read is a day's own text. -/
theorem rdL_back (L : List UInt8) (h : rdL L ≠ -1) : ∃ y m d : Nat, L = textL y m d ∧ rightB (y : Int) (m : Int) (d : Int) = true ∧ rdL L = num (y : Int) (m : Int) (d : Int) := by
  unfold rdL at h ⊢
  by_cases hc : L.length = 10 ∧ (L.getD 4 0).toNat = 45 ∧ (L.getD 7 0).toNat = 45 ∧ okN L 10 = true ∧ rightB (rdN L 10).1 (rdN L 10).2.1 (rdN L 10).2.2 = true
  · rw [if_pos hc]
    clear h
    obtain ⟨hl, h4, h7, hok, hr⟩ := hc
    obtain ⟨b0, b1, b2, b3, b4, b5, b6, b7, b8, b9, rfl⟩ := ten_of L hl
    have q4 : b4.toNat = 45 := h4
    have q7 : b7.toNat = 45 := h7
    obtain ⟨d0, d1, d2, d3, d5, d6, d8, d9⟩ := (okN_ten b0 b1 b2 b3 b4 b5 b6 b7 b8 b9).1 hok
    have hR := rdN_ten b0 b1 b2 b3 b4 b5 b6 b7 b8 b9
    have h1 : (rdN [b0, b1, b2, b3, b4, b5, b6, b7, b8, b9] 10).1 = ((1000 * (b0.toNat - 48) + 100 * (b1.toNat - 48) + 10 * (b2.toNat - 48) + (b3.toNat - 48) : Nat) : Int) := by
      rw [hR]
      simp only
      omega
    have h2 : (rdN [b0, b1, b2, b3, b4, b5, b6, b7, b8, b9] 10).2.1 = ((10 * (b5.toNat - 48) + (b6.toNat - 48) : Nat) : Int) := by
      rw [hR]
      simp only
      omega
    have h3 : (rdN [b0, b1, b2, b3, b4, b5, b6, b7, b8, b9] 10).2.2 = ((10 * (b8.toNat - 48) + (b9.toNat - 48) : Nat) : Int) := by
      rw [hR]
      simp only
      omega
    rw [h1, h2, h3] at hr ⊢
    refine ⟨_, _, _, ?_, hr, rfl⟩
    have e : ∀ (b : UInt8) (n : Nat), 48 + n % 10 = b.toNat → b = dgt n := fun b n hn => UInt8.toNat_inj.1 (by rw [dgt_nat]; exact hn.symm)
    unfold textL pad4 pad2
    simp only [List.cons_append, List.nil_append]
    rw [← e b0 _ (by omega), ← e b1 _ (by omega), ← e b2 _ (by omega), ← e b3 _ (by omega), ← e b5 _ (by omega), ← e b6 _ (by omega), ← e b8 _ (by omega), ← e b9 _ (by omega)]
    rw [show b4 = 45 from UInt8.toNat_inj.1 q4, show b7 = 45 from UInt8.toNat_inj.1 q7]
  · rw [if_neg hc] at h
    exact absurd rfl h
end Go.Proofs.YtclmhgaggminpaaDoor
