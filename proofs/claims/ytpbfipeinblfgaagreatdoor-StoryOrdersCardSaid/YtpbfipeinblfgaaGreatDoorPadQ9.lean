/-
Digits in so many places: what strconv's numerals are between ten thousand and twenty thousand, and between a hundred and two hundred; what they are read as. No condition.
-/
import Derived.Lib.ItoaNum
import Derived.Lib.AtoiAll
import Derived.Lib.Atoi
namespace Go.Proofs.YtpbfipeinblfgaaGreatDoor

/-- A digit as a byte. -/
def dgt (n : Nat) : UInt8 := UInt8.ofNat (48 + n % 10)
def pad2 (n : Nat) : List UInt8 := [dgt (n / 10), dgt n]
def pad4 (n : Nat) : List UInt8 := [dgt (n / 1000), dgt (n / 100), dgt (n / 10), dgt n]
theorem dec_step (u : Nat) (h : ¬ u < 10) : Lib.decDigits u = Lib.decDigits (u / 10) ++ [dgt u] := by
  rw [Lib.decDigits, dif_neg h]
  rfl
theorem itoa_nat (n : Nat) : Lib.itoa (n : Int) = Lib.decDigits n := by
  unfold Lib.itoa
  rw [if_neg (by omega)]
  rfl
theorem itoa_five (n : Nat) (h : n < 10000) : Lib.itoa (10000 + (n : Int)) = 49 :: pad4 n := by
  rw [show (10000 + (n : Int)) = ((10000 + n : Nat) : Int) by omega, itoa_nat]
  rw [dec_step _ (by omega), dec_step _ (by omega), dec_step _ (by omega), dec_step _ (by omega), Lib.decDigits, dif_pos (by omega)]
  have e0 : (10000 + n) / 10 / 10 / 10 / 10 = 1 := by omega
  have d0 : dgt (10000 + n) = dgt n := by unfold dgt; rw [show (10000 + n) % 10 = n % 10 by omega]
  have d1 : dgt ((10000 + n) / 10) = dgt (n / 10) := by unfold dgt; rw [show (10000 + n) / 10 % 10 = n / 10 % 10 by omega]
  have d2 : dgt ((10000 + n) / 10 / 10) = dgt (n / 100) := by unfold dgt; rw [show (10000 + n) / 10 / 10 % 10 = n / 100 % 10 by omega]
  have d3 : dgt ((10000 + n) / 10 / 10 / 10) = dgt (n / 1000) := by unfold dgt; rw [show (10000 + n) / 10 / 10 / 10 % 10 = n / 1000 % 10 by omega]
  rw [e0, d0, d1, d2, d3]
  rfl
theorem itoa_three (n : Nat) (h : n < 100) : Lib.itoa (100 + (n : Int)) = 49 :: pad2 n := by
  rw [show (100 + (n : Int)) = ((100 + n : Nat) : Int) by omega, itoa_nat]
  rw [dec_step _ (by omega), dec_step _ (by omega), Lib.decDigits, dif_pos (by omega)]
  have e0 : (100 + n) / 10 / 10 = 1 := by omega
  have d0 : dgt (100 + n) = dgt n := by unfold dgt; rw [show (100 + n) % 10 = n % 10 by omega]
  have d1 : dgt ((100 + n) / 10) = dgt (n / 10) := by unfold dgt; rw [show (100 + n) / 10 % 10 = n / 10 % 10 by omega]
  rw [e0, d0, d1]
  rfl
theorem dgt_nat (n : Nat) : (dgt n).toNat = 48 + n % 10 := by
  unfold dgt
  simp [UInt8.toNat_ofNat']
  omega
theorem dgt_val (n : Nat) : Lib.digitVal (dgt n) = some (n % 10) := by
  unfold Lib.digitVal
  rw [dgt_nat, if_pos (by omega)]
  congr 1
  omega
theorem dgt_sign (n : Nat) : (dgt n == 45) = false ∧ (dgt n == 43) = false := by
  constructor
  · rw [beq_eq_false_iff_ne]
    intro e
    have := congrArg UInt8.toNat e
    rw [dgt_nat] at this
    simp at this
    omega
  · rw [beq_eq_false_iff_ne]
    intro e
    have := congrArg UInt8.toNat e
    rw [dgt_nat] at this
    simp at this
    omega
theorem atoi_two (n : Nat) (h : n < 100) : Lib.atoi (pad2 n) = some (n : Int) := by
  simp only [pad2, Lib.atoi, (dgt_sign _).1, (dgt_sign _).2, Bool.false_eq_true, if_false, Lib.decNat, List.isEmpty_cons, Lib.decFrom, dgt_val, Option.map_some, Option.some.injEq]
  omega
theorem atoi_four (n : Nat) (h : n < 10000) : Lib.atoi (pad4 n) = some (n : Int) := by
  simp only [pad4, Lib.atoi, (dgt_sign _).1, (dgt_sign _).2, Bool.false_eq_true, if_false, Lib.decNat, List.isEmpty_cons, Lib.decFrom, dgt_val, Option.map_some, Option.some.injEq]
  omega
/-- A day's text. -/
def textL (y m d : Nat) : List UInt8 := pad4 y ++ 45 :: (pad2 m ++ 45 :: pad2 d)
def textS (y m d : Nat) : ByteArray := ⟨(textL y m d).toArray⟩
theorem text_size (y m d : Nat) : (textS y m d).size = 10 := rfl
end Go.Proofs.YtpbfipeinblfgaaGreatDoor
