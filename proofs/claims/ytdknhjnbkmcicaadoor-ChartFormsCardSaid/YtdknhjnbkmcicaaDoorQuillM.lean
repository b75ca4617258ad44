/-
  Values as bytes: what is written, what is read off the front. Plain mathematics, no condition.
-/
import Derived.Lib.BitFns
import Derived.Lib.ItoaNum
namespace Go.Proofs.YtdknhjnbkmcicaaDoor

/-- The k lowest bytes of n, the highest first. -/
def beK : Nat → Nat → List UInt8
  | 0, _ => []
  | k + 1, n => UInt8.ofNat (n / 256 ^ k % 256) :: beK k n
theorem beK_len (k n : Nat) : (beK k n).length = k := by
  induction k with
  | zero => rfl
  | succ k ih => simp [beK, ih]
theorem beK_snoc (k n : Nat) : beK (k + 1) n = beK k (n / 256) ++ [UInt8.ofNat (n % 256)] := by
  induction k with
  | zero => simp [beK]
  | succ k ih =>
    rw [beK, ih, beK, List.cons_append, Nat.div_div_eq_div_mul, Nat.pow_succ, Nat.mul_comm 256]

@[elab_as_elim]
theorem snoc_ind {α : Type} {p : List α → Prop} (h0 : p []) (h1 : ∀ l a, p l → p (l ++ [a])) (l : List α) : p l := by
  have : ∀ r : List α, p r.reverse := by
    intro r
    induction r with
    | nil => exact h0
    | cons a r ih => rw [List.reverse_cons]; exact h1 _ _ ih
  simpa using this l.reverse

/-- How many bytes a number has. -/
def nb (n : Nat) : Nat := (Lib.bitLen n + 7) / 8
theorem nb_zero : nb 0 = 0 := by decide
theorem nb_small (n : Nat) (h0 : 0 < n) (h1 : n < 256) : nb n = 1 := by
  have h2 := Lib.bitLen_le8 ⟨n, h1⟩
  have h3 := (Lib.bitLenAux_bounds 64 n (by omega) (by omega)).1
  have h4 : 1 ≤ Lib.bitLen n := h3
  simp only at h2
  unfold nb
  omega
theorem nb_step (n : Nat) (h0 : 0 < n) (h1 : n < 18446744073709551616) : nb n = nb (n / 256) + 1 := by
  rcases Nat.lt_or_ge n 256 with h | h
  · rw [nb_small n h0 h, Nat.div_eq_of_lt h, nb_zero]
  · unfold nb
    rw [Lib.bitLen_shift8 n h h1]
    omega
theorem nb_le (n : Nat) (h1 : n < 18446744073709551616) : nb n ≤ 8 := by
  have := Lib.bitLen_le n 64 (by omega) (by simpa using h1)
  unfold nb
  omega
theorem bit_le (n : Nat) (h1 : n < 18446744073709551616) : Lib.bitLen n ≤ 64 := Lib.bitLen_le n 64 (by omega) (by simpa using h1)

/-- A number's bytes, the highest first. -/
def digs (n : Nat) : List UInt8 := beK (nb n) n
theorem digs_len (n : Nat) : (digs n).length = nb n := beK_len _ _
theorem digs_zero : digs 0 = [] := by unfold digs; rw [nb_zero]; rfl
theorem digs_step (n : Nat) (h0 : 0 < n) (h1 : n < 18446744073709551616) : digs n = digs (n / 256) ++ [UInt8.ofNat (n % 256)] := by
  unfold digs
  rw [nb_step n h0 h1, beK_snoc]

/-- The number that bytes are. -/
def val (l : List UInt8) : Nat := l.foldl (fun a b => 256 * a + b.toNat) 0
theorem val_snoc (l : List UInt8) (b : UInt8) : val (l ++ [b]) = 256 * val l + b.toNat := by simp [val]
theorem val_lt (l : List UInt8) : val l < 256 ^ l.length := by
  induction l using snoc_ind with
  | h0 => decide
  | h1 l b ih =>
    have hb : b.toNat < 256 := b.toNat_lt
    rw [val_snoc, List.length_append, List.length_singleton, Nat.pow_succ]
    omega
theorem val_lt8 (l : List UInt8) (h : l.length ≤ 8) : val l < 18446744073709551616 :=
  Nat.lt_of_lt_of_le (val_lt l) (Nat.le_trans (Nat.pow_le_pow_right (by decide) h) (by decide))
theorem ofNat_nat (n : Nat) (h : n < 256) : (UInt8.ofNat n).toNat = n := by simp [Nat.mod_eq_of_lt h]
theorem ofNat_toNat (b : UInt8) : UInt8.ofNat b.toNat = b := by simp
theorem val_digs (n : Nat) (h : n < 18446744073709551616) : val (digs n) = n := by
  induction n using Nat.strongRecOn with
  | ind n ih =>
    rcases Nat.eq_zero_or_pos n with h0 | h0
    · subst h0; rw [digs_zero]; rfl
    · rw [digs_step n h0 h, val_snoc, ih (n / 256) (by omega) (by omega), ofNat_nat _ (by omega)]
      omega
theorem digs_head (n : Nat) (h : n < 18446744073709551616) : ∀ b r, digs n = b :: r → b.toNat ≠ 0 := by
  induction n using Nat.strongRecOn with
  | ind n ih =>
    intro b r hb
    rcases Nat.eq_zero_or_pos n with h0 | h0
    · subst h0; rw [digs_zero] at hb; cases hb
    · rw [digs_step n h0 h] at hb
      rcases Nat.eq_zero_or_pos (n / 256) with h2 | h2
      · rw [h2, digs_zero, List.nil_append] at hb
        injection hb with hb _
        rw [← hb, ofNat_nat _ (by omega)]
        omega
      · cases hd : digs (n / 256) with
        | nil =>
          have := digs_len (n / 256)
          rw [hd, nb_step _ h2 (by omega)] at this
          simp at this
        | cons c s =>
          rw [hd, List.cons_append] at hb
          injection hb with hb _
          rw [← hb]
          exact ih (n / 256) (by omega) (by omega) c s hd
theorem val_pos (l : List UInt8) (b : UInt8) (hb : b.toNat ≠ 0) : 0 < val (b :: l) := by
  induction l using snoc_ind with
  | h0 => simp [val]; omega
  | h1 l c ih => rw [← List.cons_append, val_snoc]; omega
theorem digs_val (l : List UInt8) (h8 : l.length ≤ 8) (h0 : ∀ b r, l = b :: r → b.toNat ≠ 0) : digs (val l) = l := by
  induction l using snoc_ind with
  | h0 => exact digs_zero
  | h1 l b ih =>
    have hb : b.toNat < 256 := b.toNat_lt
    have hlt := val_lt8 _ h8
    rw [List.length_append, List.length_singleton] at h8
    have hp : 0 < val (l ++ [b]) := by
      cases l with
      | nil => exact val_pos [] b (h0 b [] rfl)
      | cons c s => exact val_pos (s ++ [b]) c (h0 c (s ++ [b]) rfl)
    rw [digs_step _ hp hlt, val_snoc, show (256 * val l + b.toNat) / 256 = val l by omega, show (256 * val l + b.toNat) % 256 = b.toNat by omega, ofNat_toNat, ih (by omega) (fun c s e => h0 c (s ++ [b]) (by rw [e]; rfl))]

/-- What is written. -/
def layN (m n : Nat) : List UInt8 := UInt8.ofNat (m + nb n) :: digs n
def layI (i : Int) : List UInt8 := if 0 ≤ i then layN 0 i.toNat else layN 128 (-1 - i).toNat
def layF (b : Bool) : List UInt8 := layN 0 (if b then 1 else 0)
def layT (s : List UInt8) : List UInt8 := layN 0 s.length ++ s

/-- A number off the front: is it marked, it, what is left. -/
def numT : List UInt8 → Option (Bool × Nat × List UInt8)
  | [] => none
  | f :: r => if 8 < f.toNat % 128 ∨ r.length < f.toNat % 128 ∨ (0 < f.toNat % 128 ∧ (r.getD 0 0).toNat = 0) then none
    else some (decide (128 ≤ f.toNat), val (r.take (f.toNat % 128)), r.drop (f.toNat % 128))
def takeU (most : Nat) (l : List UInt8) : Option (Nat × List UInt8) :=
  match numT l with
  | some (false, n, r) => if n ≤ most then some (n, r) else none
  | _ => none
def takeI (l : List UInt8) : Option (Int × List UInt8) :=
  match numT l with
  | some (m, n, r) => if n < 9223372036854775808 then some (if m then -1 - (n : Int) else n, r) else none
  | none => none
def takeS (most : Nat) (l : List UInt8) : Option (List UInt8 × List UInt8) :=
  match takeU most l with
  | some (n, r) => if n ≤ r.length then some (r.take n, r.drop n) else none
  | none => none

theorem numT_lt {l : List UInt8} {m : Bool} {n : Nat} {r : List UInt8} (h : numT l = some (m, n, r)) : n < 18446744073709551616 ∧ r.length < l.length := by
  cases l with
  | nil => cases h
  | cons f s =>
    simp only [numT] at h
    split at h
    · cases h
    · rename_i hc
      simp only [Option.some.injEq, Prod.mk.injEq] at h
      obtain ⟨-, h2, h3⟩ := h
      subst h2 h3
      refine ⟨val_lt8 _ (by rw [List.length_take]; omega), ?_⟩
      simp only [List.length_drop, List.length_cons]
      omega
/-- What was written is read again. -/
theorem numT_lay (m n : Nat) (r : List UInt8) (hm : m = 0 ∨ m = 128) (h : n < 18446744073709551616) : numT (layN m n ++ r) = some (decide (m = 128), n, r) := by
  have h8 := nb_le n h
  have hf : (UInt8.ofNat (m + nb n)).toNat = m + nb n := ofNat_nat _ (by omega)
  have e : (m + nb n) % 128 = nb n := by omega
  have hl := digs_len n
  unfold layN
  rw [List.cons_append, numT, hf, e, if_neg ?_]
  · rw [List.take_append_of_le_length (by omega), List.take_of_length_le (by omega), List.drop_append_of_le_length (by omega), List.drop_of_length_le (by omega), val_digs n h, List.nil_append]
    congr 2
    rw [decide_eq_decide]
    omega
  · rw [List.length_append, hl]
    rintro (h | h | ⟨h1, h2⟩)
    · omega
    · omega
    · cases hd : digs n with
      | nil => rw [hd] at hl; simp at hl; omega
      | cons b s =>
        rw [hd] at h2
        exact digs_head n h b s hd (by simpa using h2)
/-- There is one way. -/
theorem numT_one {l : List UInt8} {m : Bool} {n : Nat} {r : List UInt8} (h : numT l = some (m, n, r)) : l = layN (if m then 128 else 0) n ++ r := by
  cases l with
  | nil => cases h
  | cons f s =>
    simp only [numT] at h
    split at h
    · cases h
    · rename_i hc
      simp only [Option.some.injEq, Prod.mk.injEq] at h
      obtain ⟨h1, h2, h3⟩ := h
      have hf : f.toNat < 256 := f.toNat_lt
      have hlen : (s.take (f.toNat % 128)).length = f.toNat % 128 := by rw [List.length_take]; omega
      have hd : digs n = s.take (f.toNat % 128) := by
        rw [← h2]
        refine digs_val _ (by omega) (fun b t e hb => hc (.inr (.inr ⟨?_, ?_⟩)))
        · rw [e] at hlen; simp at hlen; omega
        · cases s with
          | nil => simp at e
          | cons c u =>
            cases hk : f.toNat % 128 with
            | zero => rw [hk] at e; cases e
            | succ k =>
              rw [hk, List.take_succ_cons] at e
              injection e with e _
              simpa [e] using hb
      have hn : nb n = f.toNat % 128 := by rw [← digs_len, hd, hlen]
      unfold layN
      rw [hd, hn, ← h3, List.cons_append, List.take_append_drop]
      congr 1
      apply UInt8.toNat_inj.1
      rw [← h1]
      by_cases h9 : 128 ≤ f.toNat
      · rw [decide_eq_true h9, if_pos rfl, ofNat_nat _ (by omega)]
        omega
      · rw [decide_eq_false h9, if_neg (by simp), ofNat_nat _ (by omega)]
        omega
end Go.Proofs.YtdknhjnbkmcicaaDoor
