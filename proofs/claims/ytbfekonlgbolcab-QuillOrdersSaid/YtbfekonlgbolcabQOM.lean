/-
  Numbers' bytes stand in the numbers' order. No condition.
-/
import Derived.Test.YtbfekonlgbolcabQuL
namespace Go.Proofs.Ytbfekonlgbolcab
open Go.RowKit

theorem val_cons (b : UInt8) (l : List UInt8) : val (b :: l) = b.toNat * 256 ^ l.length + val l := by
  refine snoc_ind (p := fun l => val (b :: l) = b.toNat * 256 ^ l.length + val l) ?_ ?_ l
  · simp [val]
  · intro l a ih
    rw [← List.cons_append, val_snoc, ih, val_snoc, List.length_append, List.length_singleton, Nat.pow_succ, Nat.mul_add]
    generalize 256 ^ l.length = P
    have e : 256 * (b.toNat * P) = b.toNat * (P * 256) := by rw [Nat.mul_comm 256, Nat.mul_assoc]
    omega
theorem less_val : ∀ (l m : List UInt8), l.length = m.length → Op.bytesLess l m = decide (val l < val m)
  | [], [], _ => by simp [Op.bytesLess]
  | [], _ :: _, h => by simp at h
  | _ :: _, [], h => by simp at h
  | a :: l, b :: m, h => by
    have hl : l.length = m.length := by simpa using h
    have ih := less_val l m hl
    have h1 := val_lt l
    have h2 := val_lt m
    rw [hl] at h1
    rw [Op.bytesLess, ih, val_cons, val_cons, hl]
    generalize val l = x at *
    generalize val m = y at *
    obtain ⟨P, hP⟩ : ∃ P, 256 ^ m.length = P := ⟨_, rfl⟩
    rw [hP] at h1 h2 ⊢
    rcases Nat.lt_trichotomy a.toNat b.toNat with hab | hab | hab
    · have e1 : decide (a < b) = true := decide_eq_true (UInt8.lt_iff_toNat_lt.2 hab)
      have h3 : (a.toNat + 1) * P ≤ b.toNat * P := Nat.mul_le_mul_right _ hab
      rw [Nat.add_mul, Nat.one_mul] at h3
      rw [e1, Bool.true_or, decide_eq_true (show a.toNat * P + x < b.toNat * P + y by omega)]
    · have e0 : a = b := UInt8.toNat_inj.1 hab
      subst e0
      have e1 : decide (a < a) = false := decide_eq_false (fun h => by have := UInt8.lt_iff_toNat_lt.1 h; omega)
      rw [e1, Bool.false_or]
      simp
    · have e1 : decide (a < b) = false := decide_eq_false (fun h => by have := UInt8.lt_iff_toNat_lt.1 h; omega)
      have e2 : (a == b) = false := by rw [beq_eq_false_iff_ne]; intro h; subst h; omega
      have h3 : (b.toNat + 1) * P ≤ a.toNat * P := Nat.mul_le_mul_right _ hab
      rw [Nat.add_mul, Nat.one_mul] at h3
      rw [e1, e2, decide_eq_false (show ¬ a.toNat * P + x < b.toNat * P + y by omega)]
      rfl
theorem nb_mono {a b : Nat} (ha : a < 18446744073709551616) (hb : b < 18446744073709551616) (h : a ≤ b) : nb a ≤ nb b := by
  rcases Nat.lt_or_ge (nb b) (nb a) with hlt | hge
  · exfalso
    have hv := val_digs a ha
    have hn := digs_len a
    have hb2 := val_lt (digs b)
    rw [val_digs b hb, digs_len] at hb2
    cases hd : digs a with
    | nil => rw [hd] at hn; simp at hn; omega
    | cons c r =>
      have hc := digs_head a ha c r hd
      rw [hd] at hv hn
      rw [val_cons] at hv
      rw [List.length_cons] at hn
      have h3 : 256 ^ nb b ≤ 256 ^ r.length := Nat.pow_le_pow_right (by decide) (by omega)
      have h4 : 1 * 256 ^ r.length ≤ c.toNat * 256 ^ r.length := Nat.mul_le_mul_right _ (Nat.pos_of_ne_zero hc)
      generalize 256 ^ r.length = P at *
      generalize c.toNat * P = Q at *
      omega
  · exact hge
theorem layN_less {a b : Nat} (ha : a < 18446744073709551616) (hb : b < 18446744073709551616) : Op.bytesLess (layN 0 a) (layN 0 b) = decide (a < b) := by
  have h1 := nb_le a ha
  have h2 := nb_le b hb
  unfold layN
  rw [Op.bytesLess]
  have t1 : (UInt8.ofNat (0 + nb a)).toNat = nb a := by rw [Nat.zero_add]; exact ofNat_nat _ (by omega)
  have t2 : (UInt8.ofNat (0 + nb b)).toNat = nb b := by rw [Nat.zero_add]; exact ofNat_nat _ (by omega)
  rcases Nat.lt_trichotomy (nb a) (nb b) with h | h | h
  · have e1 : decide (UInt8.ofNat (0 + nb a) < UInt8.ofNat (0 + nb b)) = true := decide_eq_true (UInt8.lt_iff_toNat_lt.2 (by rw [t1, t2]; exact h))
    have hab : a < b := by
      rcases Nat.lt_or_ge a b with hl | hg
      · exact hl
      · have := nb_mono hb ha hg; omega
    rw [e1, Bool.true_or, decide_eq_true hab]
  · rw [h]
    have e1 : decide (UInt8.ofNat (0 + nb b) < UInt8.ofNat (0 + nb b)) = false := decide_eq_false (fun h => by have := UInt8.lt_iff_toNat_lt.1 h; omega)
    rw [e1, Bool.false_or, less_val _ _ (by rw [digs_len, digs_len, h]), val_digs a ha, val_digs b hb]
    simp
  · have e1 : decide (UInt8.ofNat (0 + nb a) < UInt8.ofNat (0 + nb b)) = false := decide_eq_false (fun hh => by have := UInt8.lt_iff_toNat_lt.1 hh; rw [t1, t2] at this; omega)
    have e2 : (UInt8.ofNat (0 + nb a) == UInt8.ofNat (0 + nb b)) = false := by
      rw [beq_eq_false_iff_ne]
      intro hh
      have := congrArg UInt8.toNat hh
      rw [t1, t2] at this
      omega
    have hab : ¬ a < b := fun hl => by have := nb_mono ha hb (Nat.le_of_lt hl); omega
    rw [e1, e2, decide_eq_false hab]
    rfl
/-- What is read of a number's bytes. -/
theorem uV_lay {a m : Nat} (ha : a < 18446744073709551616) : uV m (some (layN 0 a)) = if a ≤ m then a else 0 := by
  have h := numT_lay 0 a [] (.inl rfl) ha
  rw [List.append_nil] at h
  unfold uV takeU
  simp only [Option.bind_some]
  rw [h]
  by_cases hm : a ≤ m
  · simp [hm]
  · simp [hm]
theorem iV_lay {i : Int} (hi : -9223372036854775808 ≤ i ∧ i ≤ 9223372036854775807) : iV (some (layI i)) = i := by
  unfold iV takeI layI
  simp only [Option.bind_some]
  by_cases h0 : 0 ≤ i
  · rw [if_pos h0]
    have h := numT_lay 0 i.toNat [] (.inl rfl) (by omega)
    rw [List.append_nil] at h
    rw [h]
    simp [show i.toNat < 9223372036854775808 by omega]
    omega
  · rw [if_neg h0]
    have h := numT_lay 128 (-1 - i).toNat [] (.inr rfl) (by omega)
    rw [List.append_nil] at h
    rw [h]
    simp [show (-1 - i).toNat < 9223372036854775808 by omega]
    omega
end Go.Proofs.Ytbfekonlgbolcab
