/-
  A burst of at most 32 bits is never lost on CRC-32: by numbers. No condition but sizes.
-/
import Derived.Test.YtkikcemcaoihpaaDoorCrc
namespace Go.Proofs.YtkikcemcaoihpaaDoor.Crc

/-- A register fed with numbers for bytes. -/
def dvdN (s : Nat) (q : List Nat) : Nat := q.foldl (fun s x => stpN 8 (s ^^^ x)) s
/-- The lowest n bytes of a number, the lowest first. -/
def bytesN (M : Nat) : Nat → List Nat
  | 0 => []
  | n + 1 => M % 256 :: bytesN (M / 256) n
theorem bytesN_length (n : Nat) : ∀ M, (bytesN M n).length = n := by
  induction n with
  | zero => intro M; rfl
  | succ n ih => intro M; simp [bytesN, ih]
theorem bytesN_at (n : Nat) : ∀ (M i : Nat), i < n → (bytesN M n)[i]? = some (M / 256 ^ i % 256) := by
  induction n with
  | zero => intro M i h; omega
  | succ n ih =>
    intro M i h
    cases i with
    | zero => simp [bytesN]
    | succ i =>
      show (bytesN (M / 256) n)[i]? = _
      rw [ih (M / 256) i (by omega), Nat.div_div_eq_div_mul, Nat.pow_succ, Nat.mul_comm (256 ^ i) 256]
/-- Bytes turned by others: the registers' difference is the turned bytes' own. -/
theorem dvd_turned (l l' : List UInt8) (q : List Nat) (h1 : l'.length = l.length) (h2 : q.length = l.length)
    (h : ∀ (i : Nat) (u u' : UInt8) (x : Nat), l[i]? = some u → l'[i]? = some u' → q[i]? = some x → u'.toNat = u.toNat ^^^ x) : ∀ a d, dvd (a ^^^ d) l' = dvd a l ^^^ dvdN d q := by
  induction l generalizing l' q with
  | nil =>
    intro a d
    obtain rfl : l' = [] := List.eq_nil_of_length_eq_zero h1
    obtain rfl : q = [] := List.eq_nil_of_length_eq_zero h2
    rfl
  | cons u l ih =>
    intro a d
    cases l' with
    | nil => simp at h1
    | cons u' l' =>
      cases q with
      | nil => simp at h2
      | cons x q =>
        have hu := h 0 u u' x rfl rfl rfl
        have e : a ^^^ d ^^^ u'.toNat = (a ^^^ u.toNat) ^^^ (d ^^^ x) := by
          rw [hu]
          simp [Nat.xor_assoc, Nat.xor_comm, xor_lc]
        rw [dvd_cons, dvd_cons, e, stpN_xor]
        exact ih l' q (by simpa using h1) (by simpa using h2) (fun i v v' y hv hv' hy => h (i + 1) v v' y hv hv' hy) _ _
/-- A number's bytes are the number at once. -/
theorem dvdN_bytes (n : Nat) : ∀ (s M : Nat), M < 256 ^ n → dvdN s (bytesN M n) = stpN (8 * n) (s ^^^ M) := by
  induction n with
  | zero =>
    intro s M h
    obtain rfl : M = 0 := by simpa using h
    simp [dvdN, bytesN, stpN]
  | succ n ih =>
    intro s M h
    show dvdN (stpN 8 (s ^^^ M % 256)) (bytesN (M / 256) n) = _
    rw [ih _ _ (by rw [Nat.div_lt_iff_lt_mul (by decide)]; rw [Nat.pow_succ] at h; exact h), ← feed, show 8 * (n + 1) = 8 + 8 * n from by omega, stpN_add]
theorem bytesN_mod (n : Nat) : ∀ M, bytesN (M % 256 ^ n) n = bytesN M n := by
  induction n with
  | zero => intro M; rfl
  | succ n ih =>
    intro M
    have e1 : M % 256 ^ (n + 1) % 256 = M % 256 := by
      rw [Nat.pow_succ]
      exact Nat.mod_mul_left_mod ..
    have e2 : M % 256 ^ (n + 1) / 256 = M / 256 % 256 ^ n := by
      rw [Nat.pow_succ, Nat.mul_comm, Nat.mod_mul_right_div_self]
    simp only [bytesN, e1, e2, ih]
/-- A burst: 32 bits at most, somewhere: it isn't lost, unless there is none of it in these bytes. -/
theorem burst (m at_ n : Nat) (hm : m < 4294967296) (ha : at_ ≤ 8 * n) (h : dvdN 0 (bytesN (m * 2 ^ at_) n) = 0) : (m * 2 ^ at_) % 256 ^ n = 0 := by
  have hp : (256 : Nat) ^ n = 2 ^ at_ * 2 ^ (8 * n - at_) := by
    rw [← Nat.pow_add, show at_ + (8 * n - at_) = 8 * n from by omega, Nat.pow_mul]
  have e : (m * 2 ^ at_) % 256 ^ n = 2 ^ at_ * (m % 2 ^ (8 * n - at_)) := by
    rw [hp, Nat.mul_comm m, Nat.mul_mod_mul_left]
  rw [← bytesN_mod, dvdN_bytes n 0 _ (Nat.mod_lt _ (Nat.pow_pos (by decide))), Nat.zero_xor, e] at h
  rw [show 8 * n = at_ + (8 * n - at_) from by omega, stpN_add, stpN_pow] at h
  have hlt : m % 2 ^ (8 * n - at_) < 4294967296 := Nat.lt_of_le_of_lt (Nat.mod_le ..) hm
  rw [show at_ + (8 * n - at_) - at_ = 8 * n - at_ from by omega] at h
  have := stpN_eq_zero _ hlt h
  rw [e, this]
  rfl
theorem div256 (M i : Nat) : M / 256 ^ i = M / 2 ^ (8 * i) := by rw [Nat.pow_mul]
/-- One bit's byte. -/
theorem bit_byte (b i : Nat) : 2 ^ b / 256 ^ i % 256 = if b / 8 = i then 2 ^ (b % 8) else 0 := by
  rw [div256]
  by_cases h : b / 8 = i
  · rw [if_pos h, Nat.pow_div (by omega) (by decide), show b - 8 * i = b % 8 from by omega]
    refine Nat.mod_eq_of_lt ?_
    have : (2 : Nat) ^ (b % 8) ≤ 2 ^ 7 := Nat.pow_le_pow_right (by decide) (by omega)
    omega
  · rw [if_neg h]
    rcases Nat.lt_or_ge b (8 * i) with h1 | h1
    · rw [Nat.div_eq_of_lt (Nat.pow_lt_pow_right (by decide) h1)]
    · rw [Nat.pow_div h1 (by decide), show b - 8 * i = 8 + (b - 8 * i - 8) from by omega, Nat.pow_add]
      exact Nat.mul_mod_right 256 _
theorem byte_xor (M N i : Nat) : (M ^^^ N) / 256 ^ i % 256 = (M / 256 ^ i % 256) ^^^ (N / 256 ^ i % 256) := by
  rw [div256, div256, div256, Nat.xor_div_two_pow, show (256 : Nat) = 2 ^ 8 from rfl, Nat.xor_mod_two_pow]
theorem add_xor (M b : Nat) (h : M < 2 ^ b) : M + 2 ^ b = M ^^^ 2 ^ b := by
  have h1 := Nat.two_pow_add_eq_or_of_lt h 1
  rw [Nat.mul_one, Nat.add_comm] at h1
  rw [h1]
  apply Nat.eq_of_testBit_eq
  intro i
  rw [Nat.testBit_or, Nat.testBit_xor, Nat.testBit_two_pow]
  by_cases hi : b = i
  · subst hi
    rw [Nat.testBit_lt_two_pow h]
    simp
  · simp [hi]
end Go.Proofs.YtkikcemcaoihpaaDoor.Crc
