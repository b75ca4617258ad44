/-
Two digits of 32 bits make a quotient of 64: what bits.Div64 reckons, in natural numbers. No condition.
bits.Len64, bits.LeadingZeros64, bits.Mul64: Go's own text is walked. No condition but the numbers' kinds.
-/
import Derived.Test.YtpbfipeinblfgaaGreatDoorProg
import Derived.Lib.BitFns
import Derived.Lib.ItoaNum
import Derived.WalkKit
import Derived.WalkSpells
import Derived.Lib.Strings
import Derived.Lib.Slices
import Derived.Lib.Small
import Derived.Lib.Walk
import Derived.Lib.Hide
import Derived.Deep.Light
import Derived.Lib.Mul64
import Derived.Laws.Bits64b
namespace Go.Proofs.YtpbfipeinblfgaaGreatDoor
/-- one digit of a quotient: what the estimate keeps -/
structure Dig (a c y1 y0 q r : Nat) : Prop where
  sum : q * y1 + r = a
  above : (a * 4294967296 + c) / (y1 * 4294967296 + y0) ≤ q

theorem dig_first (a c y1 y0 : Nat) (h1 : 2147483648 ≤ y1) (hc : c < 4294967296) : Dig a c y1 y0 (a / y1) (a % y1) := by
  constructor
  · rw [Nat.mul_comm]; exact Nat.div_add_mod a y1
  · have hpos : 0 < y1 * 4294967296 + y0 := by omega
    have : (a * 4294967296 + c) / (y1 * 4294967296 + y0) < a / y1 + 1 := by
      rw [Nat.div_lt_iff_lt_mul hpos]
      have h2 := Nat.div_add_mod a y1
      have h3 := Nat.mod_lt a (show y1 > 0 by omega)
      have e : (a / y1 + 1) * (y1 * 4294967296 + y0) = (y1 * (a / y1)) * 4294967296 + y1 * 4294967296 + (a / y1 + 1) * y0 := by
        rw [Nat.mul_add, ← Nat.mul_assoc, Nat.add_mul, Nat.one_mul, Nat.add_mul, Nat.mul_comm y1 (a / y1)]
      rw [e]
      generalize y1 * (a / y1) = m at *
      generalize (a / y1 + 1) * y0 = k at *
      omega
    omega

theorem dig_value (a c y1 y0 q r : Nat) (d : Dig a c y1 y0 q r) : q * (y1 * 4294967296 + y0) + r * 4294967296 = a * 4294967296 + q * y0 := by
  have := d.sum
  rw [← this, Nat.mul_add, ← Nat.mul_assoc, Nat.add_mul]
  omega

theorem dig_step (a c y1 y0 q r : Nat) (ha : a < y1 * 4294967296 + y0) (hc : c < 4294967296)
    (d : Dig a c y1 y0 q r) (hw : 4294967296 ≤ q ∨ 4294967296 * r + c < q * y0) : 1 ≤ q ∧ Dig a c y1 y0 (q - 1) (r + y1) := by
  have hpos : 0 < y1 * 4294967296 + y0 := by omega
  have hv := dig_value a c y1 y0 q r d
  have hlt : (a * 4294967296 + c) / (y1 * 4294967296 + y0) < q := by
    rw [Nat.div_lt_iff_lt_mul hpos]
    rcases hw with hw | hw
    · have : 4294967296 * (y1 * 4294967296 + y0) ≤ q * (y1 * 4294967296 + y0) := Nat.mul_le_mul_right _ hw
      omega
    · generalize q * (y1 * 4294967296 + y0) = k at *
      generalize q * y0 = m at *
      omega
  have hq1 : 1 ≤ q := Nat.lt_of_le_of_lt (Nat.zero_le _) hlt
  refine ⟨hq1, ?_, Nat.le_sub_one_of_lt hlt⟩
  have := d.sum
  obtain ⟨p, rfl⟩ : ∃ p, q = p + 1 := ⟨q - 1, by omega⟩
  rw [Nat.add_mul, Nat.one_mul] at this
  simp only [Nat.add_sub_cancel]
  generalize p * y1 = k at *
  clear hlt hv hw d
  omega

/-- at the end the digit is the quotient's -/
theorem dig_end (a c y1 y0 q r : Nat) (h0 : y0 < 4294967296) (ha : a < y1 * 4294967296 + y0) (hc : c < 4294967296)
    (d : Dig a c y1 y0 q r) (hw : (q < 4294967296 ∧ q * y0 ≤ 4294967296 * r + c) ∨ 4294967296 ≤ r) :
    q = (a * 4294967296 + c) / (y1 * 4294967296 + y0) ∧ q < 4294967296 ∧ q * (y1 * 4294967296 + y0) ≤ a * 4294967296 + c := by
  have hpos : 0 < y1 * 4294967296 + y0 := by omega
  have hv := dig_value a c y1 y0 q r d
  have hq : q < 4294967296 := by
    rcases hw with hw | hw
    · exact hw.1
    · have := d.sum
      apply Nat.lt_of_not_le
      intro hge
      have : 4294967296 * y1 ≤ q * y1 := Nat.mul_le_mul_right _ hge
      omega
  have hle : q * (y1 * 4294967296 + y0) ≤ a * 4294967296 + c := by
    have hk : q * y0 ≤ 4294967296 * r + c := by
      rcases hw with hw | hw
      · exact hw.2
      · have : q * y0 ≤ 4294967296 * y0 := Nat.mul_le_mul_right _ (by omega)
        omega
    generalize q * (y1 * 4294967296 + y0) = k at *
    generalize q * y0 = m at *
    omega
  refine ⟨?_, hq, hle⟩
  have := (Nat.le_div_iff_mul_le hpos).2 hle
  have := d.above
  omega

/-- two digits, one behind the other -/
theorem two_digits (u v c1 c0 q1 q0 N : Nat) (hN : N = u * 18446744073709551616 + c1 * 4294967296 + c0) (hv : 0 < v) (h1 : q1 = (u * 4294967296 + c1) / v)
    (h0 : q0 = ((u * 4294967296 + c1 - q1 * v) * 4294967296 + c0) / v) :
    q1 * 4294967296 + q0 = N / v ∧ (u * 4294967296 + c1 - q1 * v) * 4294967296 + c0 - q0 * v = N % v := by
  have d1 := Nat.div_add_mod (u * 4294967296 + c1) v
  have e1 : u * 4294967296 + c1 - q1 * v = (u * 4294967296 + c1) % v := by
    rw [h1, Nat.mul_comm _ v]; omega
  rw [e1] at h0 ⊢
  generalize (u * 4294967296 + c1) % v = t at *
  have d0 := Nat.div_add_mod (t * 4294967296 + c0) v
  have hm := Nat.mod_lt (t * 4294967296 + c0) hv
  rw [← h0] at d0
  rw [← h1] at d1
  generalize (t * 4294967296 + c0) % v = z at *
  have e : N = v * (q1 * 4294967296 + q0) + z := by
    rw [hN, Nat.mul_add, ← Nat.mul_assoc]
    generalize v * q1 = m at *
    generalize v * q0 = k at *
    omega
  rw [e]
  clear e hN
  constructor
  · rw [Nat.mul_add_div hv, Nat.div_eq_of_lt hm, Nat.add_zero]
  · rw [Nat.mul_add_mod, Nat.mod_eq_of_lt hm, Nat.mul_comm _ v]
    exact Nat.sub_eq_of_eq_add (by rw [Nat.add_comm z]; exact d0.symm)

/-- y, shifted till its top bit is set -/
theorem norm_y (y : Nat) (h0 : 0 < y) (hy : y < 18446744073709551616) :
    1 ≤ Lib.bitLen y ∧ Lib.bitLen y ≤ 64 ∧ 9223372036854775808 ≤ y * 2 ^ (64 - Lib.bitLen y) ∧ y * 2 ^ (64 - Lib.bitLen y) < 18446744073709551616 := by
  obtain ⟨h1, h2, h3⟩ := Lib.bitLenAux_bounds 64 y hy (by omega)
  have h4 : Lib.bitLen y ≤ 64 := Lib.bitLen_le y 64 (by omega) hy
  have e : Lib.bitLenAux 64 y = Lib.bitLen y := rfl
  rw [e] at h1 h2 h3
  generalize Lib.bitLen y = L at *
  refine ⟨h1, h4, ?_, ?_⟩
  · have := Nat.mul_le_mul_right (2 ^ (64 - L)) h2
    rw [← Nat.pow_add, show L - 1 + (64 - L) = 63 by omega] at this
    exact this
  · have := Nat.mul_lt_mul_of_pos_right h3 (Nat.two_pow_pos (64 - L))
    rw [← Nat.pow_add, show L + (64 - L) = 64 by omega] at this
    exact this

theorem pow_split (s : Nat) (hs : s ≤ 63) : 2 ^ s * 2 ^ (64 - s) = 18446744073709551616 := by
  rw [← Nat.pow_add, show s + (64 - s) = 64 by omega]
/-- lo, shifted: what goes up, and what stays -/
theorem shift_lo (lo p r : Nat) (hp : 0 < p) (h : p * r = 18446744073709551616) : lo * p = lo / r * 18446744073709551616 + lo * p % 18446744073709551616 := by
  have := Nat.div_add_mod (lo * p) 18446744073709551616
  have e : lo * p / 18446744073709551616 = lo / r := by rw [← h, Nat.mul_comm lo p, Nat.mul_div_mul_left _ _ hp]
  rw [e, Nat.mul_comm] at this
  exact this.symm
theorem shift_eq (hi lo p k z M : Nat) (h : lo * p = k * M + z) : (hi * p + k) * M + z = (hi * M + lo) * p := by
  rw [Nat.add_mul, Nat.add_mul, h, Nat.add_assoc, Nat.mul_right_comm]
theorem shift_whole (hi lo p r : Nat) (hp : 0 < p) (h : p * r = 18446744073709551616) :
    (hi * p + lo / r) * 18446744073709551616 + lo * p % 18446744073709551616 = (hi * 18446744073709551616 + lo) * p :=
  shift_eq hi lo p _ _ _ (shift_lo lo p r hp h)
theorem shift_or (a b s : Nat) (hb : b < 2 ^ s) : a * 2 ^ s ||| b = a * 2 ^ s + b := by
  rw [Nat.mul_comm, Nat.two_pow_add_eq_or_of_lt hb]
theorem shift_back (u y p : Nat) (hp : 0 < p) : u * p / (y * p) = u / y ∧ u * p % (y * p) / p = u % y := by
  refine ⟨Nat.mul_div_mul_right _ _ hp, ?_⟩
  rw [Nat.mul_mod_mul_right, Nat.mul_div_cancel _ hp]
end Go.Proofs.YtpbfipeinblfgaaGreatDoor
namespace Go.Proofs.YtpbfipeinblfgaaGreatDoor
open Go.RowKit

set_option maxRecDepth 100000 in
theorem tab_size : (Lib.len8tab.size : Int) = 256 := by
  have : Lib.len8tab.size = 256 := by decide
  omega
/-- The table's entry is the length of a byte. -/
theorem tab_at (y : Int) (h0 : 0 ≤ y) (h1 : y ≤ 255) (h : y.toNat < Lib.len8tab.size) : ((Lib.len8tab[y.toNat]'h).toNat : Int) = (Lib.bitLen y.toNat : Int) ∧ Lib.bitLen y.toNat ≤ 8 := by
  refine ⟨?_, Lib.bitLen_le8' y h0 h1⟩
  rw [← Lib.len8_of y h0 h1]
  unfold Lib.len8
  rw [getElem?_pos Lib.len8tab y.toNat h]
  rfl
theorem sum_small (k m : Nat) (hk : k ≤ 56) (hm : m ≤ 8) : wrap64 ((k : Int) + wrap64 (m : Int)) = ((k + m : Nat) : Int) := by
  unfold wrap64
  omega
theorem len_out (x Y : Int) (k d : Nat) (hk : k ≤ 56) (h0 : 0 ≤ Y) (hd : Y ≤ 255) (e2 : Y.toNat = x.toNat / d) (hb : Lib.bitLen x.toNat = k + Lib.bitLen (x.toNat / d)) (h : Y.toNat < Lib.len8tab.size) :
    wrap64 ((k : Int) + wrap64 ((Lib.len8tab[Y.toNat]'h).toNat : Int)) = (Lib.bitLen x.toNat : Int) := by
  obtain ⟨e, hle⟩ := tab_at Y h0 hd h
  rw [e, hb]
  rw [e2] at hle ⊢
  exact sum_small k _ hk hle
theorem len_out0 (x : Int) (h0 : 0 ≤ x) (hd : x ≤ 255) (h : x.toNat < Lib.len8tab.size) :
    wrap64 (wrap64 ((Lib.len8tab[x.toNat]'h).toNat : Int)) = (Lib.bitLen x.toNat : Int) := by
  obtain ⟨e, hle⟩ := tab_at x h0 hd h
  rw [e]
  generalize Lib.bitLen x.toNat = m at *
  unfold wrap64
  omega

set_option maxHeartbeats 8000000 in
set_option maxRecDepth 100000 in
theorem bits_Len64 (x : Int) (w : World) (h0 : 0 ≤ x) (h1 : x ≤ 18446744073709551615) :
    Calls Tryz.prog 208 #[.int .u64 x] w fun e w' => e = .returned (.int .i64 (Lib.bitLen x.toNat)) ∧ w' = w := by
  go_enter Tryz.func208, Tryz.ntmps208
  go_wp2
  all_goals first
    | (go_ret; refine ⟨congrArg Ending.returned (congrArg (Value.int IntKind.i64) ?_), rfl⟩; go_light)
    | (exfalso
       go_light
       have hs := tab_size
       omega)
  all_goals first
    | exact len_out x _ 56 72057594037927936 (by decide) (by omega) (by omega) (by omega) (Lib.bitLen_shift56 _ (by omega) (by omega)) _
    | exact len_out x _ 48 281474976710656 (by decide) (by omega) (by omega) (by omega) (Lib.bitLen_shift48 _ (by omega) (by omega)) _
    | exact len_out x _ 40 1099511627776 (by decide) (by omega) (by omega) (by omega) (Lib.bitLen_shift40 _ (by omega) (by omega)) _
    | exact len_out x _ 32 4294967296 (by decide) (by omega) (by omega) (by omega) (Lib.bitLen_shift32 _ (by omega) (by omega)) _
    | exact len_out x _ 24 16777216 (by decide) (by omega) (by omega) (by omega) (Lib.bitLen_shift24 _ (by omega) (by omega)) _
    | exact len_out x _ 16 65536 (by decide) (by omega) (by omega) (by omega) (Lib.bitLen_shift16 _ (by omega) (by omega)) _
    | exact len_out x _ 8 256 (by decide) (by omega) (by omega) (by omega) (Lib.bitLen_shift8 _ (by omega) (by omega)) _
    | exact len_out0 x (by omega) (by omega) _
theorem bitLen_le64 (x : Int) (h0 : 0 ≤ x) (h1 : x ≤ 18446744073709551615) : Lib.bitLen x.toNat ≤ 64 := Lib.bitLen_le x.toNat 64 (by omega) (by omega)

/-- bits.LeadingZeros64: "LeadingZeros64 returns the number of leading zero bits in x; the result is 64 for x == 0.": IT RETURNS '64 - Lib.bitLen x'; the world is as it was. ITS CALLEE bits.Len64 IS MET BY ITS OWN CONTRACT OFF THE SHELF (lay that first): entered in place it sends the kernel out of memory. -/
theorem bits_LeadingZeros64 (x : Int) (w : World) (h0 : 0 ≤ x) (h1 : x ≤ 18446744073709551615) :
    Calls Tryz.prog 250 #[.int .u64 x] w fun e w' => e = .returned (.int .i64 (64 - (Lib.bitLen x.toNat : Int))) ∧ w' = w := by
  have l := bitLen_le64 x h0 h1
  have e8 : (64 - (Lib.bitLen x.toNat : Int) + 9223372036854775808) % 18446744073709551616 - 9223372036854775808 = 64 - (Lib.bitLen x.toNat : Int) := by omega
  go_enter Tryz.func250, Tryz.ntmps250
  go_wp2_with (go_at_call 208; refine (bits_Len64 x _ h0 h1).mono ?_; rintro e w' ⟨rfl, rfl⟩)
  go_ret
  refine ⟨?_, rfl⟩
  rw [← e8]
  rfl

namespace Mul64
theorem maskN (a : Nat) (ha : a < 18446744073709551616) : bits .and .u64 (a : Int) 4294967295 = ((a % 4294967296 : Nat) : Int) := by
  have h := bits_and_u64_nat a 4294967295 ha (by omega)
  have e : a &&& 4294967295 = a % 4294967296 := Nat.and_two_pow_sub_one_eq_mod a 32
  rw [e] at h
  exact h
theorem divN (a : Nat) : (a : Int) / 4294967296 = ((a / 4294967296 : Nat) : Int) := by omega
theorem mulN (a b : Nat) : (a : Int) * (b : Int) = ((a * b : Nat) : Int) := (Int.natCast_mul a b).symm
theorem addN (a b : Nat) : (a : Int) + (b : Int) = ((a + b : Nat) : Int) := (Int.natCast_add a b).symm
theorem wrapN (a : Nat) (ha : a < 18446744073709551616) : IntKind.u64.wrap (a : Int) = (a : Int) := by rw [IntKind.wrap_u64]; omega
theorem wrapM (a : Nat) : IntKind.u64.wrap (a : Int) = ((a % 18446744073709551616 : Nat) : Int) := by rw [IntKind.wrap_u64]; omega
end Mul64

set_option maxHeartbeats 1000000 in
theorem bits_Mul64 (x y : Nat) (hx : x < 18446744073709551616) (hy : y < 18446744073709551616) (w : World) :
    Calls Tryz.prog 227 #[.int .u64 x, .int .u64 y] w fun e w' => e = .returned (.tuple #[.int .u64 ((x * y / 18446744073709551616 : Nat) : Int), .int .u64 ((x * y % 18446744073709551616 : Nat) : Int)]) ∧ w' = w := by
  obtain ⟨bd, bt, bw, hhi⟩ := Lib.mul64_hi x y hx hy
  have ba := Lib.half_mul_le (a := x / 4294967296) (b := y / 4294967296) (by omega) (by omega)
  have bb := Lib.half_mul_le (a := x / 4294967296) (b := y % 4294967296) (by omega) (by omega)
  have bc := Lib.half_mul_le (a := x % 4294967296) (b := y / 4294967296) (by omega) (by omega)
  have ba' : x / 4294967296 * (y / 4294967296) < 18446744073709551616 := by omega
  have bb' : x / 4294967296 * (y % 4294967296) < 18446744073709551616 := by omega
  have bc' : x % 4294967296 * (y / 4294967296) < 18446744073709551616 := by omega
  have bh1 : x / 4294967296 * (y / 4294967296) + (x / 4294967296 * (y % 4294967296) + x % 4294967296 * (y % 4294967296) / 4294967296) / 4294967296 < 18446744073709551616 := by omega
  have bh : x / 4294967296 * (y / 4294967296) + (x / 4294967296 * (y % 4294967296) + x % 4294967296 * (y % 4294967296) / 4294967296) / 4294967296 + ((x / 4294967296 * (y % 4294967296) + x % 4294967296 * (y % 4294967296) / 4294967296) % 4294967296 + x % 4294967296 * (y / 4294967296)) / 4294967296 < 18446744073709551616 := by omega
  go_enter Tryz.func227, Tryz.ntmps227
  go_wp2
  
  simp only [Mul64.maskN x hx, Mul64.maskN y hy, Mul64.divN, Mul64.mulN, Mul64.addN, Mul64.wrapN _ bd, Mul64.wrapN _ bb', Mul64.wrapN _ bt, Mul64.maskN _ bt, Mul64.wrapN _ bc', Mul64.wrapN _ bw, Mul64.wrapN _ ba', Mul64.wrapN _ bh1, Mul64.wrapN _ bh, Mul64.wrapM (x * y)]
  rw [hhi]
  go_ret2
  exact ⟨rfl, rfl⟩

end Go.Proofs.YtpbfipeinblfgaaGreatDoor
