/-
CRC-32 by numbers: one step is linear and loses nothing; so are bytes, and words. No condition but sizes.
-/
import Derived.Below
namespace Go.Proofs.Ytbaenpgjggojaaa.Crc

/-- One bit's step. -/
def stp (s : Nat) : Nat := (s / 2) ^^^ (if s % 2 = 1 then 3988292384 else 0)
def stpN : Nat → Nat → Nat
  | 0, s => s
  | n + 1, s => stpN n (stp s)
/-- A list of bytes, from a register on. -/
def dvd (s : Nat) (l : List UInt8) : Nat := l.foldl (fun s u => stpN 8 (s ^^^ u.toNat)) s
/-- Four bytes, the lowest first. -/
def wrd (n : Nat) : List UInt8 := [UInt8.ofNat n, UInt8.ofNat (n / 256), UInt8.ofNat (n / 65536), UInt8.ofNat (n / 16777216)]
def chk (seed : Nat) (l : List UInt8) : Nat := 4294967295 ^^^ dvd (dvd 4294967295 (wrd seed)) l
def frm (seed : Nat) (l : List UInt8) : List UInt8 := (wrd l.length ++ l) ++ wrd (chk seed (wrd l.length ++ l))

theorem xor_lt {a b : Nat} (ha : a < 4294967296) (hb : b < 4294967296) : a ^^^ b < 4294967296 :=
  Nat.xor_lt_two_pow (n := 32) ha hb
theorem stp_lt {s : Nat} (h : s < 4294967296) : stp s < 4294967296 := by
  unfold stp
  refine xor_lt (by omega) ?_
  split <;> omega
theorem xor_lc (a b c : Nat) : a ^^^ (b ^^^ c) = b ^^^ (a ^^^ c) := by rw [← Nat.xor_assoc, ← Nat.xor_assoc, Nat.xor_comm a b]
theorem stp_xor (a b : Nat) : stp (a ^^^ b) = stp a ^^^ stp b := by
  have h1 : (a ^^^ b) / 2 = a / 2 ^^^ b / 2 := by
    have := Nat.xor_div_two_pow (a := a) (b := b) (n := 1)
    simpa using this
  have h2 : (a ^^^ b) % 2 = (a % 2 + b % 2) % 2 := by
    have := Nat.xor_mod_two_pow (a := a) (b := b) (n := 1)
    rw [show (2 : Nat) ^ 1 = 2 from rfl] at this
    rw [this]
    rcases Nat.mod_two_eq_zero_or_one a with ha | ha <;> rcases Nat.mod_two_eq_zero_or_one b with hb | hb <;> simp [ha, hb]
  unfold stp
  rw [h1, h2]
  rcases Nat.mod_two_eq_zero_or_one a with ha | ha <;> rcases Nat.mod_two_eq_zero_or_one b with hb | hb <;>
    simp [ha, hb, Nat.xor_assoc, Nat.xor_comm, xor_lc]
theorem stp_zero : stp 0 = 0 := by decide
theorem stp_double (y : Nat) : stp (2 * y) = y := by
  unfold stp
  rw [if_neg (by omega)]
  simp
theorem stp_eq_zero {s : Nat} (hs : s < 4294967296) (h : stp s = 0) : s = 0 := by
  unfold stp at h
  split at h
  · rename_i h1
    have h2 : s / 2 = 3988292384 := by
      have := congrArg (· ^^^ 3988292384) h
      simpa [Nat.xor_assoc] using this
    omega
  · rename_i h1
    have h2 : s / 2 = 0 := by simpa using h
    omega
theorem stpN_lt (n : Nat) : ∀ {s : Nat}, s < 4294967296 → stpN n s < 4294967296 := by
  induction n with
  | zero => exact fun h => h
  | succ n ih => exact fun h => ih (stp_lt h)
theorem stpN_xor (n : Nat) : ∀ (a b : Nat), stpN n (a ^^^ b) = stpN n a ^^^ stpN n b := by
  induction n with
  | zero => exact fun _ _ => rfl
  | succ n ih =>
    intro a b
    show stpN n (stp (a ^^^ b)) = _
    rw [stp_xor]
    exact ih _ _
theorem stpN_zero (n : Nat) : stpN n 0 = 0 := by
  induction n with
  | zero => rfl
  | succ n ih => show stpN n (stp 0) = 0; rw [stp_zero]; exact ih
theorem stpN_eq_zero (n : Nat) : ∀ {s : Nat}, s < 4294967296 → stpN n s = 0 → s = 0 := by
  induction n with
  | zero => exact fun _ h => h
  | succ n ih => exact fun hs h => stp_eq_zero hs (ih (stp_lt hs) h)
theorem stpN_add (m n : Nat) : ∀ s, stpN (m + n) s = stpN n (stpN m s) := by
  induction m with
  | zero => intro s; rw [Nat.zero_add]; rfl
  | succ m ih => intro s; rw [Nat.succ_add]; exact ih (stp s)
theorem stpN_succ' (n s : Nat) : stpN (n + 1) s = stp (stpN n s) := stpN_add n 1 s
theorem stpN_pow (n : Nat) : ∀ y, stpN n (2 ^ n * y) = y := by
  induction n with
  | zero => intro y; simp [stpN]
  | succ n ih =>
    intro y
    show stpN n (stp (2 ^ (n + 1) * y)) = y
    rw [show 2 ^ (n + 1) * y = 2 * (2 ^ n * y) from by rw [Nat.pow_succ, Nat.mul_comm (2 ^ n) 2, Nat.mul_assoc], stp_double]
    exact ih y
theorem xor_eq_zero {a b : Nat} (h : a ^^^ b = 0) : a = b := by
  have := congrArg (· ^^^ b) h
  simpa [Nat.xor_assoc] using this
theorem stpN_inj {n a b : Nat} (ha : a < 4294967296) (hb : b < 4294967296) (h : stpN n a = stpN n b) : a = b := by
  refine xor_eq_zero (stpN_eq_zero n (xor_lt ha hb) ?_)
  rw [stpN_xor, h, Nat.xor_self]

theorem u8_lt (u : UInt8) : u.toNat < 256 := u.toNat_lt
theorem dvd_nil (s : Nat) : dvd s [] = s := rfl
theorem dvd_cons (s : Nat) (u : UInt8) (l : List UInt8) : dvd s (u :: l) = dvd (stpN 8 (s ^^^ u.toNat)) l := rfl
theorem dvd_append (s : Nat) (l m : List UInt8) : dvd s (l ++ m) = dvd (dvd s l) m := by simp [dvd]
theorem dvd_snoc (s : Nat) (l : List UInt8) (u : UInt8) : dvd s (l ++ [u]) = stpN 8 (dvd s l ^^^ u.toNat) := by rw [dvd_append]; rfl
theorem dvd_take (s : Nat) (l : List UInt8) (k : Nat) (hk : k < l.length) : dvd s (l.take (k + 1)) = stpN 8 (dvd s (l.take k) ^^^ (l[k]).toNat) := by
  rw [List.take_succ_eq_append_getElem hk, dvd_snoc]
theorem dvd_lt (l : List UInt8) : ∀ {s : Nat}, s < 4294967296 → dvd s l < 4294967296 := by
  induction l with
  | nil => exact fun h => h
  | cons u l ih => exact fun h => ih (stpN_lt 8 (xor_lt h (by have := u8_lt u; omega)))
/-- What two registers differ in goes on by itself. -/
theorem dvd_diff (l : List UInt8) : ∀ (a d : Nat), dvd (a ^^^ d) l = dvd a l ^^^ stpN (8 * l.length) d := by
  induction l with
  | nil => intro a d; rfl
  | cons u l ih =>
    intro a d
    have e : a ^^^ d ^^^ u.toNat = (a ^^^ u.toNat) ^^^ d := by simp [Nat.xor_assoc, Nat.xor_comm, xor_lc]
    rw [dvd_cons, dvd_cons, e, stpN_xor, ih, List.length_cons, show 8 * (l.length + 1) = 8 + 8 * l.length from by omega, stpN_add]
theorem dvd_inj {l : List UInt8} {a b : Nat} (ha : a < 4294967296) (hb : b < 4294967296) (h : dvd a l = dvd b l) : a = b := by
  have e : b = a ^^^ (a ^^^ b) := by simp [← Nat.xor_assoc]
  rw [e, dvd_diff] at h
  have h1 : stpN (8 * l.length) (a ^^^ b) = 0 := by
    have := congrArg (dvd a l ^^^ ·) h
    simpa [← Nat.xor_assoc] using this.symm
  exact xor_eq_zero (stpN_eq_zero _ (xor_lt ha hb) h1)

theorem ofNat_toNat (n : Nat) : (UInt8.ofNat n).toNat = n % 256 := UInt8.toNat_ofNat' ..
theorem split256 (x : Nat) : x = (x % 256) ^^^ (2 ^ 8 * (x / 256)) := by
  apply Nat.eq_of_testBit_eq
  intro i
  rw [show (256 : Nat) = 2 ^ 8 from rfl, Nat.testBit_xor, Nat.testBit_mod_two_pow, Nat.testBit_two_pow_mul, Nat.testBit_div_two_pow]
  rcases Nat.lt_or_ge i 8 with h8 | h8
  · simp [h8, show ¬ (8 ≤ i) from by omega]
  · simp [h8, show ¬ (i < 8) from by omega]
theorem feed (s x : Nat) : stpN 8 (s ^^^ x) = stpN 8 (s ^^^ x % 256) ^^^ (x / 256) := by
  have e : s ^^^ x = (s ^^^ x % 256) ^^^ (2 ^ 8 * (x / 256)) := by
    rw [Nat.xor_assoc, ← split256]
  rw [e, stpN_xor (8) _ (2 ^ 8 * _), stpN_pow]
/-- A word's four bytes are the word at once. -/
theorem dvd_wrd (s x : Nat) (hx : x < 4294967296) : dvd s (wrd x) = stpN 32 (s ^^^ x) := by
  have e3 : x / 16777216 % 256 = x / 16777216 := by omega
  have d1 : x / 256 / 256 = x / 65536 := by omega
  have d2 : x / 65536 / 256 = x / 16777216 := by omega
  simp only [wrd, dvd_cons, dvd_nil, ofNat_toNat]
  rw [show (32 : Nat) = 8 + (8 + (8 + 8)) from rfl, stpN_add 8, feed s x, stpN_add 8, feed _ (x / 256), d1, stpN_add 8, feed _ (x / 65536), d2, e3]
theorem chk_lt (seed : Nat) (l : List UInt8) : chk seed l < 4294967296 := xor_lt (by decide) (dvd_lt l (dvd_lt _ (by decide)))
/-- Two seeds' checks of the same bytes differ. -/
theorem chk_seed {a b : Nat} (ha : a < 4294967296) (hb : b < 4294967296) {l : List UInt8} (h : chk a l = chk b l) : a = b := by
  have h1 : dvd (dvd 4294967295 (wrd a)) l = dvd (dvd 4294967295 (wrd b)) l := by
    have := congrArg (4294967295 ^^^ ·) h
    simpa [chk, ← Nat.xor_assoc] using this
  have h2 := dvd_inj (dvd_lt _ (by decide)) (dvd_lt _ (by decide)) h1
  rw [dvd_wrd _ _ ha, dvd_wrd _ _ hb] at h2
  have h3 := stpN_inj (xor_lt (by decide) ha) (xor_lt (by decide) hb) h2
  have := congrArg (4294967295 ^^^ ·) h3
  simpa [← Nat.xor_assoc] using this
theorem wrd_length (n : Nat) : (wrd n).length = 4 := rfl
theorem wrd_inj {a b : Nat} (ha : a < 4294967296) (hb : b < 4294967296) (h : wrd a = wrd b) : a = b := by
  simp only [wrd, List.cons.injEq, and_true] at h
  obtain ⟨h0, h1, h2, h3⟩ := h
  have g0 := congrArg UInt8.toNat h0
  have g1 := congrArg UInt8.toNat h1
  have g2 := congrArg UInt8.toNat h2
  have g3 := congrArg UInt8.toNat h3
  simp only [ofNat_toNat] at g0 g1 g2 g3
  omega
theorem frm_length (seed : Nat) (l : List UInt8) : (frm seed l).length = l.length + 8 := by simp [frm, wrd_length]; omega
end Go.Proofs.Ytbaenpgjggojaaa.Crc
