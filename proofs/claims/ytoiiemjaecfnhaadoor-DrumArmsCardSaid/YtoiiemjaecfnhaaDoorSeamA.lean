/-
  seam's small functions: what divide, put, get, Size do. Conditions: the numbers fit their kinds, the slices are there.
-/
import Derived.Test.YtoiiemjaecfnhaaDoorMem
import Derived.Test.YtoiiemjaecfnhaaDoorCrc
namespace Go.Proofs.YtoiiemjaecfnhaaDoor
open Go.RowKit

theorem xor_word {a b : Int} (h0 : 0 ≤ a) (h1 : a < 4294967296) (h2 : 0 ≤ b) (h3 : b < 4294967296) : bits .xor .u32 a b = ((a.toNat ^^^ b.toNat : Nat) : Int) := u32_xor a b h0 h1 h2 h3

theorem stp_walk {y : Nat} (hy : y < 4294967296) :
    bits .xor .u32 ((y : Int) / 2) (bits .and .u32 3988292384 (-bits .and .u32 (y : Int) 1 % 4294967296)) = ((Crc.stp y : Nat) : Int) := by
  have e1 : bits .and .u32 (y : Int) 1 = ((y % 2 : Nat) : Int) := by
    rw [u32_and _ _ (by omega) (by omega) (by omega) (by omega)]
    have : ((y : Int).toNat &&& (1 : Int).toNat) = y % 2 := Nat.and_two_pow_sub_one_eq_mod y 1
    rw [this]
  have e2 : ((y : Int) / 2) = ((y / 2 : Nat) : Int) := by omega
  rw [e1, e2]
  unfold Crc.stp
  rcases Nat.mod_two_eq_zero_or_one y with h | h
  · rw [h, if_neg (by omega)]
    have e3 : bits .and .u32 3988292384 (-((0 : Nat) : Int) % 4294967296) = 0 := by decide
    rw [e3, u32_xor _ _ (by omega) (by omega) (by omega) (by omega)]
    rfl
  · rw [h, if_pos rfl]
    have e3 : bits .and .u32 3988292384 (-((1 : Nat) : Int) % 4294967296) = 3988292384 := by decide
    rw [e3, u32_xor _ _ (by omega) (by omega) (by omega) (by omega)]
    rfl

/-- What put leaves of a block behind k rounds. -/
def putK (cs : Array Value) (off n : Nat) : Nat → Array Value
  | 0 => cs
  | k + 1 => (putK cs off n k).setIfInBounds (off + k) (.int .u8 ((n / 2 ^ (8 * k) % 256 : Nat) : Int))
theorem putK_size (cs : Array Value) (off n k : Nat) : (putK cs off n k).size = cs.size := by
  induction k with
  | zero => rfl
  | succ k ih => simp [putK, ih]

/-- The number of the first k bytes, the lowest first. -/
def valK (l : List UInt8) : Nat → Nat
  | 0 => 0
  | k + 1 => valK l k + (l.getD k 0).toNat * 2 ^ (8 * k)
theorem valK_lt (l : List UInt8) (k : Nat) : valK l k < 2 ^ (8 * k) := by
  induction k with
  | zero => simp [valK]
  | succ k ih =>
    have hu := Crc.u8_lt (l.getD k 0)
    have e : 2 ^ (8 * (k + 1)) = 256 * 2 ^ (8 * k) := by rw [show 8 * (k + 1) = 8 + 8 * k from by omega, Nat.pow_add]
    have h2 : (l.getD k 0).toNat * 2 ^ (8 * k) ≤ 255 * 2 ^ (8 * k) := Nat.mul_le_mul_right _ (by omega)
    simp only [valK]
    omega
theorem or_walk (l : List UInt8) (k : Nat) (hk : k < 4) : bits .or .u32 ((valK l k : Nat) : Int) (((l.getD k 0).toNat : Int) * 2 ^ (8 * k) % 4294967296) = ((valK l (k + 1) : Nat) : Int) := by
  have hv := valK_lt l k
  have hu := Crc.u8_lt (l.getD k 0)
  have h3 : (2 : Nat) ^ (8 * k) ≤ 2 ^ 24 := Nat.pow_le_pow_right (by decide) (by omega)
  have h2 : (l.getD k 0).toNat * 2 ^ (8 * k) ≤ 255 * 2 ^ 24 := Nat.mul_le_mul (by omega) h3
  have e0 : ((l.getD k 0).toNat : Int) * 2 ^ (8 * k) = (((l.getD k 0).toNat * 2 ^ (8 * k) : Nat) : Int) := by
    rw [Int.natCast_mul, Int.natCast_pow]
    rfl
  have e1 : valK l k ||| (l.getD k 0).toNat * 2 ^ (8 * k) = valK l (k + 1) := by
    rw [Nat.or_comm, nat_join (8 * k) _ _ (by simp) hv, Nat.add_comm]
    rfl
  have h4 := Nat.lt_of_lt_of_le hv h3
  rw [e0, ← e1]
  generalize (l.getD k 0).toNat * 2 ^ (8 * k) = P at h2 ⊢
  rw [show ((P : Nat) : Int) % 4294967296 = (P : Int) from by omega, u32_or _ _ (by omega) (by omega) (by omega) (by omega)]
  rfl

end Go.Proofs.YtoiiemjaecfnhaaDoor
