/-
Two digits of 32 bits make a quotient of 64: what bits.Div64 reckons, in natural numbers. No condition.
bits.Len64, bits.LeadingZeros64, bits.Mul64: Go's own text is walked. No condition but the numbers' kinds.
bits.Div64: Go's own text is walked: two digits, each of them an estimate that is lowered till it is right. Condition: the upper word is below the divisor.
-/
import Derived.Test.YtpnoecjpplaicaaGreatDoorProg
import Derived.Lib.BitFns
import Derived.Lib.ItoaNum
import Derived.WalkKit
import Derived.WalkSpells
import Derived.Lib.Strings
import Derived.Lib.Slices
import Derived.Lib.Small
import Derived.Lib.Walk
import Derived.Lib.Hide
import Derived.Deep.Light
import Derived.Lib.Mul64
import Derived.Laws.Bits64b
import Derived.Test.YtpnoecjpplaicaaGreatDoorMem
import Derived.BigQuiet
import Derived.Deep.CutBlock
namespace Go.Proofs.YtpnoecjpplaicaaGreatDoor
/-- one digit of a quotient: what the estimate keeps -/
structure Dig (a c y1 y0 q r : Nat) : Prop where
  sum : q * y1 + r = a
  above : (a * 4294967296 + c) / (y1 * 4294967296 + y0) ≤ q

theorem dig_first (a c y1 y0 : Nat) (h1 : 2147483648 ≤ y1) (hc : c < 4294967296) : Dig a c y1 y0 (a / y1) (a % y1) := by
  constructor
  · rw [Nat.mul_comm]; exact Nat.div_add_mod a y1
  · have hpos : 0 < y1 * 4294967296 + y0 := by omega
    have : (a * 4294967296 + c) / (y1 * 4294967296 + y0) < a / y1 + 1 := by
      rw [Nat.div_lt_iff_lt_mul hpos]
      have h2 := Nat.div_add_mod a y1
      have h3 := Nat.mod_lt a (show y1 > 0 by omega)
      have e : (a / y1 + 1) * (y1 * 4294967296 + y0) = (y1 * (a / y1)) * 4294967296 + y1 * 4294967296 + (a / y1 + 1) * y0 := by
        rw [Nat.mul_add, ← Nat.mul_assoc, Nat.add_mul, Nat.one_mul, Nat.add_mul, Nat.mul_comm y1 (a / y1)]
      rw [e]
      generalize y1 * (a / y1) = m at *
      generalize (a / y1 + 1) * y0 = k at *
      omega
    omega

theorem dig_value (a c y1 y0 q r : Nat) (d : Dig a c y1 y0 q r) : q * (y1 * 4294967296 + y0) + r * 4294967296 = a * 4294967296 + q * y0 := by
  have := d.sum
  rw [← this, Nat.mul_add, ← Nat.mul_assoc, Nat.add_mul]
  omega

theorem dig_step (a c y1 y0 q r : Nat) (ha : a < y1 * 4294967296 + y0) (hc : c < 4294967296)
    (d : Dig a c y1 y0 q r) (hw : 4294967296 ≤ q ∨ 4294967296 * r + c < q * y0) : 1 ≤ q ∧ Dig a c y1 y0 (q - 1) (r + y1) := by
  have hpos : 0 < y1 * 4294967296 + y0 := by omega
  have hv := dig_value a c y1 y0 q r d
  have hlt : (a * 4294967296 + c) / (y1 * 4294967296 + y0) < q := by
    rw [Nat.div_lt_iff_lt_mul hpos]
    rcases hw with hw | hw
    · have : 4294967296 * (y1 * 4294967296 + y0) ≤ q * (y1 * 4294967296 + y0) := Nat.mul_le_mul_right _ hw
      omega
    · generalize q * (y1 * 4294967296 + y0) = k at *
      generalize q * y0 = m at *
      omega
  have hq1 : 1 ≤ q := Nat.lt_of_le_of_lt (Nat.zero_le _) hlt
  refine ⟨hq1, ?_, Nat.le_sub_one_of_lt hlt⟩
  have := d.sum
  obtain ⟨p, rfl⟩ : ∃ p, q = p + 1 := ⟨q - 1, by omega⟩
  rw [Nat.add_mul, Nat.one_mul] at this
  simp only [Nat.add_sub_cancel]
  generalize p * y1 = k at *
  clear hlt hv hw d
  omega

/-- at the end the digit is the quotient's -/
theorem dig_end (a c y1 y0 q r : Nat) (h0 : y0 < 4294967296) (ha : a < y1 * 4294967296 + y0) (hc : c < 4294967296)
    (d : Dig a c y1 y0 q r) (hw : (q < 4294967296 ∧ q * y0 ≤ 4294967296 * r + c) ∨ 4294967296 ≤ r) :
    q = (a * 4294967296 + c) / (y1 * 4294967296 + y0) ∧ q < 4294967296 ∧ q * (y1 * 4294967296 + y0) ≤ a * 4294967296 + c := by
  have hpos : 0 < y1 * 4294967296 + y0 := by omega
  have hv := dig_value a c y1 y0 q r d
  have hq : q < 4294967296 := by
    rcases hw with hw | hw
    · exact hw.1
    · have := d.sum
      apply Nat.lt_of_not_le
      intro hge
      have : 4294967296 * y1 ≤ q * y1 := Nat.mul_le_mul_right _ hge
      omega
  have hle : q * (y1 * 4294967296 + y0) ≤ a * 4294967296 + c := by
    have hk : q * y0 ≤ 4294967296 * r + c := by
      rcases hw with hw | hw
      · exact hw.2
      · have : q * y0 ≤ 4294967296 * y0 := Nat.mul_le_mul_right _ (by omega)
        omega
    generalize q * (y1 * 4294967296 + y0) = k at *
    generalize q * y0 = m at *
    omega
  refine ⟨?_, hq, hle⟩
  have := (Nat.le_div_iff_mul_le hpos).2 hle
  have := d.above
  omega

/-- two digits, one behind the other -/
theorem two_digits (u v c1 c0 q1 q0 N : Nat) (hN : N = u * 18446744073709551616 + c1 * 4294967296 + c0) (hv : 0 < v) (h1 : q1 = (u * 4294967296 + c1) / v)
    (h0 : q0 = ((u * 4294967296 + c1 - q1 * v) * 4294967296 + c0) / v) :
    q1 * 4294967296 + q0 = N / v ∧ (u * 4294967296 + c1 - q1 * v) * 4294967296 + c0 - q0 * v = N % v := by
  have d1 := Nat.div_add_mod (u * 4294967296 + c1) v
  have e1 : u * 4294967296 + c1 - q1 * v = (u * 4294967296 + c1) % v := by
    rw [h1, Nat.mul_comm _ v]; omega
  rw [e1] at h0 ⊢
  generalize (u * 4294967296 + c1) % v = t at *
  have d0 := Nat.div_add_mod (t * 4294967296 + c0) v
  have hm := Nat.mod_lt (t * 4294967296 + c0) hv
  rw [← h0] at d0
  rw [← h1] at d1
  generalize (t * 4294967296 + c0) % v = z at *
  have e : N = v * (q1 * 4294967296 + q0) + z := by
    rw [hN, Nat.mul_add, ← Nat.mul_assoc]
    generalize v * q1 = m at *
    generalize v * q0 = k at *
    omega
  rw [e]
  clear e hN
  constructor
  · rw [Nat.mul_add_div hv, Nat.div_eq_of_lt hm, Nat.add_zero]
  · rw [Nat.mul_add_mod, Nat.mod_eq_of_lt hm, Nat.mul_comm _ v]
    exact Nat.sub_eq_of_eq_add (by rw [Nat.add_comm z]; exact d0.symm)

/-- y, shifted till its top bit is set -/
theorem norm_y (y : Nat) (h0 : 0 < y) (hy : y < 18446744073709551616) :
    1 ≤ Lib.bitLen y ∧ Lib.bitLen y ≤ 64 ∧ 9223372036854775808 ≤ y * 2 ^ (64 - Lib.bitLen y) ∧ y * 2 ^ (64 - Lib.bitLen y) < 18446744073709551616 := by
  obtain ⟨h1, h2, h3⟩ := Lib.bitLenAux_bounds 64 y hy (by omega)
  have h4 : Lib.bitLen y ≤ 64 := Lib.bitLen_le y 64 (by omega) hy
  have e : Lib.bitLenAux 64 y = Lib.bitLen y := rfl
  rw [e] at h1 h2 h3
  generalize Lib.bitLen y = L at *
  refine ⟨h1, h4, ?_, ?_⟩
  · have := Nat.mul_le_mul_right (2 ^ (64 - L)) h2
    rw [← Nat.pow_add, show L - 1 + (64 - L) = 63 by omega] at this
    exact this
  · have := Nat.mul_lt_mul_of_pos_right h3 (Nat.two_pow_pos (64 - L))
    rw [← Nat.pow_add, show L + (64 - L) = 64 by omega] at this
    exact this

theorem pow_split (s : Nat) (hs : s ≤ 63) : 2 ^ s * 2 ^ (64 - s) = 18446744073709551616 := by
  rw [← Nat.pow_add, show s + (64 - s) = 64 by omega]
/-- lo, shifted: what goes up, and what stays -/
theorem shift_lo (lo p r : Nat) (hp : 0 < p) (h : p * r = 18446744073709551616) : lo * p = lo / r * 18446744073709551616 + lo * p % 18446744073709551616 := by
  have := Nat.div_add_mod (lo * p) 18446744073709551616
  have e : lo * p / 18446744073709551616 = lo / r := by rw [← h, Nat.mul_comm lo p, Nat.mul_div_mul_left _ _ hp]
  rw [e, Nat.mul_comm] at this
  exact this.symm
theorem shift_eq (hi lo p k z M : Nat) (h : lo * p = k * M + z) : (hi * p + k) * M + z = (hi * M + lo) * p := by
  rw [Nat.add_mul, Nat.add_mul, h, Nat.add_assoc, Nat.mul_right_comm]
theorem shift_whole (hi lo p r : Nat) (hp : 0 < p) (h : p * r = 18446744073709551616) :
    (hi * p + lo / r) * 18446744073709551616 + lo * p % 18446744073709551616 = (hi * 18446744073709551616 + lo) * p :=
  shift_eq hi lo p _ _ _ (shift_lo lo p r hp h)
theorem shift_or (a b s : Nat) (hb : b < 2 ^ s) : a * 2 ^ s ||| b = a * 2 ^ s + b := by
  rw [Nat.mul_comm, Nat.two_pow_add_eq_or_of_lt hb]
theorem shift_back (u y p : Nat) (hp : 0 < p) : u * p / (y * p) = u / y ∧ u * p % (y * p) / p = u % y := by
  refine ⟨Nat.mul_div_mul_right _ _ hp, ?_⟩
  rw [Nat.mul_mod_mul_right, Nat.mul_div_cancel _ hp]
end Go.Proofs.YtpnoecjpplaicaaGreatDoor
namespace Go.Proofs.YtpnoecjpplaicaaGreatDoor
open Go.RowKit

set_option maxRecDepth 100000 in
theorem tab_size : (Lib.len8tab.size : Int) = 256 := by
  have : Lib.len8tab.size = 256 := by decide
  omega
/-- The table's entry is the length of a byte. -/
theorem tab_at (y : Int) (h0 : 0 ≤ y) (h1 : y ≤ 255) (h : y.toNat < Lib.len8tab.size) : ((Lib.len8tab[y.toNat]'h).toNat : Int) = (Lib.bitLen y.toNat : Int) ∧ Lib.bitLen y.toNat ≤ 8 := by
  refine ⟨?_, Lib.bitLen_le8' y h0 h1⟩
  rw [← Lib.len8_of y h0 h1]
  unfold Lib.len8
  rw [getElem?_pos Lib.len8tab y.toNat h]
  rfl
theorem sum_small (k m : Nat) (hk : k ≤ 56) (hm : m ≤ 8) : wrap64 ((k : Int) + wrap64 (m : Int)) = ((k + m : Nat) : Int) := by
  unfold wrap64
  omega
theorem len_out (x Y : Int) (k d : Nat) (hk : k ≤ 56) (h0 : 0 ≤ Y) (hd : Y ≤ 255) (e2 : Y.toNat = x.toNat / d) (hb : Lib.bitLen x.toNat = k + Lib.bitLen (x.toNat / d)) (h : Y.toNat < Lib.len8tab.size) :
    wrap64 ((k : Int) + wrap64 ((Lib.len8tab[Y.toNat]'h).toNat : Int)) = (Lib.bitLen x.toNat : Int) := by
  obtain ⟨e, hle⟩ := tab_at Y h0 hd h
  rw [e, hb]
  rw [e2] at hle ⊢
  exact sum_small k _ hk hle
theorem len_out0 (x : Int) (h0 : 0 ≤ x) (hd : x ≤ 255) (h : x.toNat < Lib.len8tab.size) :
    wrap64 (wrap64 ((Lib.len8tab[x.toNat]'h).toNat : Int)) = (Lib.bitLen x.toNat : Int) := by
  obtain ⟨e, hle⟩ := tab_at x h0 hd h
  rw [e]
  generalize Lib.bitLen x.toNat = m at *
  unfold wrap64
  omega

set_option maxHeartbeats 8000000 in
set_option maxRecDepth 100000 in
theorem bits_Len64 (x : Int) (w : World) (h0 : 0 ≤ x) (h1 : x ≤ 18446744073709551615) :
    Calls Tryz.prog 123 #[.int .u64 x] w fun e w' => e = .returned (.int .i64 (Lib.bitLen x.toNat)) ∧ w' = w := by
  go_enter Tryz.func123, Tryz.ntmps123
  go_wp2
  all_goals first
    | (go_ret; refine ⟨congrArg Ending.returned (congrArg (Value.int IntKind.i64) ?_), rfl⟩; go_light)
    | (exfalso
       go_light
       have hs := tab_size
       omega)
  all_goals first
    | exact len_out x _ 56 72057594037927936 (by decide) (by omega) (by omega) (by omega) (Lib.bitLen_shift56 _ (by omega) (by omega)) _
    | exact len_out x _ 48 281474976710656 (by decide) (by omega) (by omega) (by omega) (Lib.bitLen_shift48 _ (by omega) (by omega)) _
    | exact len_out x _ 40 1099511627776 (by decide) (by omega) (by omega) (by omega) (Lib.bitLen_shift40 _ (by omega) (by omega)) _
    | exact len_out x _ 32 4294967296 (by decide) (by omega) (by omega) (by omega) (Lib.bitLen_shift32 _ (by omega) (by omega)) _
    | exact len_out x _ 24 16777216 (by decide) (by omega) (by omega) (by omega) (Lib.bitLen_shift24 _ (by omega) (by omega)) _
    | exact len_out x _ 16 65536 (by decide) (by omega) (by omega) (by omega) (Lib.bitLen_shift16 _ (by omega) (by omega)) _
    | exact len_out x _ 8 256 (by decide) (by omega) (by omega) (by omega) (Lib.bitLen_shift8 _ (by omega) (by omega)) _
    | exact len_out0 x (by omega) (by omega) _
theorem bitLen_le64 (x : Int) (h0 : 0 ≤ x) (h1 : x ≤ 18446744073709551615) : Lib.bitLen x.toNat ≤ 64 := Lib.bitLen_le x.toNat 64 (by omega) (by omega)

/-- bits.LeadingZeros64: "LeadingZeros64 returns the number of leading zero bits in x; the result is 64 for x == 0.": IT RETURNS '64 - Lib.bitLen x'; the world is as it was. ITS CALLEE bits.Len64 IS MET BY ITS OWN CONTRACT OFF THE SHELF (lay that first): entered in place it sends the kernel out of memory. -/
theorem bits_LeadingZeros64 (x : Int) (w : World) (h0 : 0 ≤ x) (h1 : x ≤ 18446744073709551615) :
    Calls Tryz.prog 217 #[.int .u64 x] w fun e w' => e = .returned (.int .i64 (64 - (Lib.bitLen x.toNat : Int))) ∧ w' = w := by
  have l := bitLen_le64 x h0 h1
  have e8 : (64 - (Lib.bitLen x.toNat : Int) + 9223372036854775808) % 18446744073709551616 - 9223372036854775808 = 64 - (Lib.bitLen x.toNat : Int) := by omega
  go_enter Tryz.func217, Tryz.ntmps217
  go_wp2_with (go_at_call 123; refine (bits_Len64 x _ h0 h1).mono ?_; rintro e w' ⟨rfl, rfl⟩)
  go_ret
  refine ⟨?_, rfl⟩
  rw [← e8]
  rfl

namespace Mul64
theorem maskN (a : Nat) (ha : a < 18446744073709551616) : bits .and .u64 (a : Int) 4294967295 = ((a % 4294967296 : Nat) : Int) := by
  have h := bits_and_u64_nat a 4294967295 ha (by omega)
  have e : a &&& 4294967295 = a % 4294967296 := Nat.and_two_pow_sub_one_eq_mod a 32
  rw [e] at h
  exact h
theorem divN (a : Nat) : (a : Int) / 4294967296 = ((a / 4294967296 : Nat) : Int) := by omega
theorem mulN (a b : Nat) : (a : Int) * (b : Int) = ((a * b : Nat) : Int) := (Int.natCast_mul a b).symm
theorem addN (a b : Nat) : (a : Int) + (b : Int) = ((a + b : Nat) : Int) := (Int.natCast_add a b).symm
theorem wrapN (a : Nat) (ha : a < 18446744073709551616) : IntKind.u64.wrap (a : Int) = (a : Int) := by rw [IntKind.wrap_u64]; omega
theorem wrapM (a : Nat) : IntKind.u64.wrap (a : Int) = ((a % 18446744073709551616 : Nat) : Int) := by rw [IntKind.wrap_u64]; omega
end Mul64

set_option maxHeartbeats 1000000 in
theorem bits_Mul64 (x y : Nat) (hx : x < 18446744073709551616) (hy : y < 18446744073709551616) (w : World) :
    Calls Tryz.prog 209 #[.int .u64 x, .int .u64 y] w fun e w' => e = .returned (.tuple #[.int .u64 ((x * y / 18446744073709551616 : Nat) : Int), .int .u64 ((x * y % 18446744073709551616 : Nat) : Int)]) ∧ w' = w := by
  obtain ⟨bd, bt, bw, hhi⟩ := Lib.mul64_hi x y hx hy
  have ba := Lib.half_mul_le (a := x / 4294967296) (b := y / 4294967296) (by omega) (by omega)
  have bb := Lib.half_mul_le (a := x / 4294967296) (b := y % 4294967296) (by omega) (by omega)
  have bc := Lib.half_mul_le (a := x % 4294967296) (b := y / 4294967296) (by omega) (by omega)
  have ba' : x / 4294967296 * (y / 4294967296) < 18446744073709551616 := by omega
  have bb' : x / 4294967296 * (y % 4294967296) < 18446744073709551616 := by omega
  have bc' : x % 4294967296 * (y / 4294967296) < 18446744073709551616 := by omega
  have bh1 : x / 4294967296 * (y / 4294967296) + (x / 4294967296 * (y % 4294967296) + x % 4294967296 * (y % 4294967296) / 4294967296) / 4294967296 < 18446744073709551616 := by omega
  have bh : x / 4294967296 * (y / 4294967296) + (x / 4294967296 * (y % 4294967296) + x % 4294967296 * (y % 4294967296) / 4294967296) / 4294967296 + ((x / 4294967296 * (y % 4294967296) + x % 4294967296 * (y % 4294967296) / 4294967296) % 4294967296 + x % 4294967296 * (y / 4294967296)) / 4294967296 < 18446744073709551616 := by omega
  go_enter Tryz.func209, Tryz.ntmps209
  go_wp2
  
  simp only [Mul64.maskN x hx, Mul64.maskN y hy, Mul64.divN, Mul64.mulN, Mul64.addN, Mul64.wrapN _ bd, Mul64.wrapN _ bb', Mul64.wrapN _ bt, Mul64.maskN _ bt, Mul64.wrapN _ bc', Mul64.wrapN _ bw, Mul64.wrapN _ ba', Mul64.wrapN _ bh1, Mul64.wrapN _ bh, Mul64.wrapM (x * y)]
  rw [hhi]
  go_ret2
  exact ⟨rfl, rfl⟩

end Go.Proofs.YtpnoecjpplaicaaGreatDoor
namespace Go.Proofs.YtpnoecjpplaicaaGreatDoor
open Go.RowKit

theorem lz_any (y s : Nat) (h0 : 0 < y) (hy : y < 18446744073709551616) (hs : s = 64 - Lib.bitLen y) (w : World) :
    Calls Tryz.prog 217 #[.int .u64 y] w fun e w' => e = .returned (.int .i64 (s : Int)) ∧ w' = w := by
  obtain ⟨-, hL, -, -⟩ := norm_y y h0 hy
  refine (bits_LeadingZeros64 y w (by omega) (by omega)).mono ?_
  rintro e w' ⟨rfl, rfl⟩
  refine ⟨?_, rfl⟩
  rw [hs, Int.toNat_natCast, Int.natCast_sub hL]
  rfl
theorem mask_any (v y0 : Nat) (hv : v < 18446744073709551616) (h : v % 4294967296 = y0) : bits .and .u64 (v : Int) 4294967295 = (y0 : Int) := by
  subst h
  exact Mul64.maskN v hv
theorem or_any (a b c m s : Nat) (hb : b < 2 ^ s) (hm : a * 2 ^ s = m) (ha : m < 18446744073709551616) (hb2 : b < 18446744073709551616) (h : m + b = c) : bits .or .u64 (m : Int) (b : Int) = (c : Int) := by
  subst h hm
  rw [bits_or_u64_nat _ _ ha hb2, shift_or _ _ _ hb]
theorem dig_next (a c y1 y0 q r : Nat) (ha : a < y1 * 4294967296 + y0) (hc : c < 4294967296)
    (d : Dig a c y1 y0 q r) (hw : 4294967296 ≤ q ∨ 4294967296 * r + c < q * y0) : ∃ q' r', q = q' + 1 ∧ r' = r + y1 ∧ Dig a c y1 y0 q' r' := by
  obtain ⟨h1, h2⟩ := dig_step a c y1 y0 q r ha hc d hw
  exact ⟨q - 1, r + y1, (Nat.sub_add_cancel h1).symm, rfl, h2⟩
theorem wrap_nat (x y : Int) (n : Nat) (h : x = (n : Int)) (hn : n < 18446744073709551616) (e : IntKind.u64.wrap x = y) : y = (n : Int) := by
  rw [← e, h, IntKind.wrap_u64]
  omega

set_option maxHeartbeats 4000000 in
set_option maxRecDepth 20000 in
theorem bits_Div64 (hi lo y : Nat) (hhi : hi < y) (hlo : lo < 18446744073709551616) (hy : y < 18446744073709551616) (w : World) :
    Calls Tryz.prog 210 #[.int .u64 hi, .int .u64 lo, .int .u64 y] w fun e w' =>
      e = .returned (.tuple #[.int .u64 (((hi * 18446744073709551616 + lo) / y : Nat) : Int), .int .u64 (((hi * 18446744073709551616 + lo) % y : Nat) : Int)]) ∧ ∃ k, w' = w.drewN k := by
  have hy0 : ¬ (y : Int) = 0 := by omega
  have hle : ¬ (y : Int) ≤ hi := by omega
  by_cases h0 : hi = 0
  · subst h0
    go_enter Tryz.func210, Tryz.ntmps210
    rw [Nat.zero_mul, Nat.zero_add]
    obtain ⟨k, hk⟩ : ∃ k, lo / y = k := ⟨_, rfl⟩
    obtain ⟨m, hm⟩ : ∃ m, lo % y = m := ⟨_, rfl⟩
    have i1 : (lo : Int) / (y : Int) = k := by rw [← hk]; rfl
    have i3 : (lo : Int) % (y : Int) = m := by rw [← hm]; rfl
    have hkl : k ≤ lo := by rw [← hk]; exact Nat.div_le_self _ _
    have i2 : IntKind.u64.wrap (k : Int) = k := by rw [IntKind.wrap_u64]; omega
    rw [hk, hm]
    clear hk hm hkl
    go_wp2
    go_quiet (fail)
    go_wp2
    go_ret2
    refine ⟨?_, _, rfl⟩
    show Ending.returned (.tuple #[.int .u64 (k : Int), .int .u64 ((lo : Int) % (y : Int))]) = _
    rw [i3]
  · have h0' : ¬ (hi : Int) = 0 := by omega
    obtain ⟨hL1, hL2, hv1, hv2⟩ := norm_y y (by omega) hy
    obtain ⟨s, hs⟩ : ∃ s, s = 64 - Lib.bitLen y := ⟨_, rfl⟩
    have hlz := fun W => lz_any y s (by omega) hy hs W
    rw [← hs] at hv1 hv2
    have hs63 : s ≤ 63 := by omega
    obtain ⟨s', hs'⟩ : ∃ s', s' = 64 - s := ⟨_, rfl⟩
    have hpr := pow_split s hs63
    rw [← hs'] at hpr
    obtain ⟨p, hp⟩ : ∃ p, p = 2 ^ s := ⟨_, rfl⟩
    obtain ⟨r, hr⟩ : ∃ r, r = 2 ^ s' := ⟨_, rfl⟩
    have hp0 : 0 < p := by rw [hp]; exact Nat.two_pow_pos s
    have hr0 : 0 < r := by rw [hr]; exact Nat.two_pow_pos s'
    have hor := fun b c m hb hm ha hb2 h => or_any hi b c m s hb hm ha hb2 h
    rw [← hp] at hpr hv1 hv2 hor
    rw [← hr] at hpr
    have hpI : (2 : Int) ^ s = (p : Int) := by rw [hp]; exact (Int.natCast_pow 2 s).symm
    have hrI : (2 : Int) ^ s' = (r : Int) := by rw [hr]; exact (Int.natCast_pow 2 s').symm
    obtain ⟨v, hv⟩ : ∃ v, y * p = v := ⟨_, rfl⟩
    rw [hv] at hv1 hv2
    have hw := shift_whole hi lo p r hp0 hpr
    obtain ⟨b, hb⟩ : ∃ b, lo / r = b := ⟨_, rfl⟩
    obtain ⟨t, ht⟩ : ∃ t, lo * p % 18446744073709551616 = t := ⟨_, rfl⟩
    have hback := shift_back (hi * 18446744073709551616 + lo) y p hp0
    rw [hv] at hback
    rw [hb, ht] at hw
    have hbp : b < p := by rw [← hb, Nat.div_lt_iff_lt_mul hr0, hpr]; exact hlo
    have hu : hi * p + p ≤ v := by
      rw [← hv, ← Nat.succ_mul]
      exact Nat.mul_le_mul_right _ hhi
    have hb2 : b < 18446744073709551616 := by omega
    obtain ⟨m, hm⟩ : ∃ m, hi * p = m := ⟨_, rfl⟩
    rw [hm] at hu hw
    obtain ⟨a, ha⟩ : ∃ a, m + b = a := ⟨_, rfl⟩
    rw [ha] at hw
    have hav : a < v := by omega
    have hor := hor b a m hbp hm (by omega) hb2 ha
    obtain ⟨y1, hy1⟩ : ∃ y1, v / 4294967296 = y1 := ⟨_, rfl⟩
    obtain ⟨y0, hy0'⟩ : ∃ y0, v % 4294967296 = y0 := ⟨_, rfl⟩
    obtain ⟨c1, hc1⟩ : ∃ c1, t / 4294967296 = c1 := ⟨_, rfl⟩
    obtain ⟨c0, hc0⟩ : ∃ c0, t % 4294967296 = c0 := ⟨_, rfl⟩
    have htl : t < 18446744073709551616 := by omega
    have hva : v = y1 * 4294967296 + y0 := by omega
    -- what the walk meets
    have i1 : IntKind.u64.wrap (s : Int) = s := by rw [IntKind.wrap_u64]; omega
    have i2 : min s 64 = s := by omega
    have i3 : IntKind.u64.wrap ((y : Int) * p) = v := by rw [IntKind.wrap_u64, ← Int.natCast_mul, hv]; omega
    have i4 : (v : Int) / 4294967296 = y1 := by omega
    have i5 := mask_any v y0 hv2 hy0'
    have i6 : IntKind.u64.wrap ((hi : Int) * p) = m := by rw [IntKind.wrap_u64, ← Int.natCast_mul, hm]; omega
    have i7 : IntKind.u64.wrap (64 - (s : Int)) = s' := by rw [IntKind.wrap_u64]; omega
    have i8 : min s' 64 = s' := by omega
    have i9 : (lo : Int) / (r : Int) = b := by rw [← hb]; rfl
    have i10 : IntKind.u64.wrap ((lo : Int) * p) = t := by rw [IntKind.wrap_u64, ← Int.natCast_mul, ← ht]; rfl
    have i11 : (t : Int) / 4294967296 = c1 := by omega
    have i12 := mask_any t c0 htl hc0
    have hy1n : ¬ (y1 : Int) = 0 := by omega
    obtain ⟨q, hq⟩ : ∃ q, a / y1 = q := ⟨_, rfl⟩
    obtain ⟨rh, hrh⟩ : ∃ rh, a % y1 = rh := ⟨_, rfl⟩
    have d1 := dig_first a c1 y1 y0 (by omega) (by omega)
    rw [hq, hrh] at d1
    have i13 : (a : Int).tdiv (y1 : Int) = q := by rw [← hq]; rfl
    have hql : q ≤ a := by rw [← hq]; exact Nat.div_le_self _ _
    have i15 : IntKind.u64.wrap (q : Int) = q := by rw [IntKind.wrap_u64]; omega
    have hqw : q < 18446744073709551616 := by omega
    have i14 : IntKind.u64.wrap ((a : Int) - IntKind.u64.wrap ((q : Int) * y1)) = rh := by
      have := d1.sum
      rw [IntKind.wrap_u64 ((q : Int) * y1), ← Int.natCast_mul]
      generalize q * y1 = m at *
      rw [IntKind.wrap_u64]; omega
    have hrl : rh < 4294967296 := by
      have := Nat.mod_lt a (show y1 > 0 by omega)
      omega
    have HW := Lib.hid hw
    have HV := Lib.hid hva
    have HB := Lib.hid hback
    have HD := Lib.hid d1
    have HA := Lib.hid hav
    clear hm hql hw hva hback d1 hp hr hpr ha hb ht hv hu hq hrh hs hs' hp0 hr0 hL1 hL2 hav
    have HA1 : Hid (a < y1 * 4294967296 + y0) := Lib.hid (by rw [← HV.out]; exact HA.out)
    go_enter Tryz.func210, Tryz.ntmps210
    go_upto_block 0 with (go_at_call 217; refine (hlz _).mono ?_; rintro e w' ⟨rfl, hw'⟩; subst hw')
    go_cut [15, 16] from 67 to 85 (fun x z wx => (∃ q r : Nat, x = .int .u64 q ∧ z = .int .u64 r ∧ (q = (a * 4294967296 + c1) / v ∧ q < 4294967296 ∧ q * v ≤ a * 4294967296 + c1)) ∧ wx = w')
    case first =>
      go_wp2_with fail
      go_loop [15, 16] (fun x z => ∃ q r : Nat, x = .int .u64 q ∧ z = .int .u64 r ∧ Dig a c1 y1 y0 q r ∧ r < 4294967296 ∧ q < 18446744073709551616) (fun x _ => (intOf x).toNat)
      case atStart => exact ⟨q, rh, rfl, rfl, HD.out, hrl, hqw⟩
      case round =>
        obtain ⟨q, r, rfl, rfl, hd, hr, hqw⟩ := hrel
        by_cases hq1 : 4294967296 ≤ q
        · have HX := Lib.hid (dig_next a c1 y1 y0 q r HA1.out (by omega) hd (Or.inl hq1))
          obtain ⟨q', r', hq', hr', hd'⟩ := HX.out
          have j1 : (4294967296 : Int) ≤ (q : Int) := by omega
          have j2 : IntKind.u64.wrap ((q : Int) - 1) = (q' : Int) := by rw [IntKind.wrap_u64]; omega
          have j3 : IntKind.u64.wrap ((r : Int) + (y1 : Int)) = (r' : Int) := by rw [IntKind.wrap_u64]; omega
          have HDD := Lib.hid hd'
          have HQ := Lib.hid hq'
          have hqw' : q' < 18446744073709551616 := by omega
          clear hd' hd hq' hr' HX hqw
          by_cases hb : (4294967296 : Int) ≤ (r' : Int)
          · have HE := Lib.hid (dig_end a c1 y1 y0 q' r' (by omega) HA1.out (by omega) HDD.out (Or.inr (by omega)))
            go_wp2
            go_meet
            case rel => exact ⟨⟨q', r', rfl, rfl, by rw [HV.out]; exact HE.out⟩, rfl⟩
          · go_wp2
            go_round
            case rel => exact ⟨q', r', rfl, rfl, HDD.out, by omega, hqw'⟩
            case measure => have := HQ.out; simp [intOf]; omega
        · have j0 : ¬ (4294967296 : Int) ≤ (q : Int) := by omega
          obtain ⟨m1, hm1⟩ : ∃ m1, q * y0 = m1 := ⟨_, rfl⟩
          have hm1l : m1 ≤ 4294967295 * 4294967295 := by rw [← hm1]; exact Nat.mul_le_mul (by omega) (by omega)
          have j4 : IntKind.u64.wrap ((q : Int) * (y0 : Int)) = (m1 : Int) := by rw [IntKind.wrap_u64, ← Int.natCast_mul, hm1]; omega
          obtain ⟨m2, hm2⟩ : ∃ m2, 4294967296 * r = m2 := ⟨_, rfl⟩
          have j5 : IntKind.u64.wrap (4294967296 * (r : Int)) = (m2 : Int) := by rw [IntKind.wrap_u64]; omega
          obtain ⟨m3, hm3⟩ : ∃ m3, m2 + c1 = m3 := ⟨_, rfl⟩
          have j6 : IntKind.u64.wrap ((m2 : Int) + (c1 : Int)) = (m3 : Int) := by rw [IntKind.wrap_u64]; omega
          have hs3 : m3 = 4294967296 * r + c1 := by rw [← hm3, ← hm2]
          by_cases hc : m3 < m1
          · have HX := Lib.hid (dig_next a c1 y1 y0 q r HA1.out (by omega) hd (Or.inr (by rw [← hs3, hm1]; exact hc)))
            obtain ⟨q', r', hq', hr', hd'⟩ := HX.out
            have j2 : IntKind.u64.wrap ((q : Int) - 1) = (q' : Int) := by rw [IntKind.wrap_u64]; omega
            have j3 : IntKind.u64.wrap ((r : Int) + (y1 : Int)) = (r' : Int) := by rw [IntKind.wrap_u64]; omega
            have HDD := Lib.hid hd'
            have HQ := Lib.hid hq'
            have hqw' : q' < 18446744073709551616 := by omega
            clear hd' hd hq' hr' HX hqw hm1 hm1l hm2 hm3 hs3
            by_cases hb : (4294967296 : Int) ≤ (r' : Int)
            · have HE := Lib.hid (dig_end a c1 y1 y0 q' r' (by omega) HA1.out (by omega) HDD.out (Or.inr (by omega)))
              go_wp2
              go_meet
              case rel => exact ⟨⟨q', r', rfl, rfl, by rw [HV.out]; exact HE.out⟩, rfl⟩
            · go_wp2
              go_round
              case rel => exact ⟨q', r', rfl, rfl, HDD.out, by omega, hqw'⟩
              case measure => have := HQ.out; simp [intOf]; omega
          · have HE := Lib.hid (dig_end a c1 y1 y0 q r (by omega) HA1.out (by omega) hd (Or.inl ⟨by omega, by rw [← hs3, hm1]; omega⟩))
            clear hd hm1 hm1l hm2 hm3 hs3
            go_wp2
            go_meet
            case rel => exact ⟨⟨q, r, rfl, rfl, by rw [HV.out]; exact HE.out⟩, rfl⟩
    case rest =>
      obtain ⟨⟨q1, r1, rfl, rfl, hq1⟩, rfl⟩ := hcut
      obtain ⟨hq1e, hq1l, hq1v⟩ := hq1
      obtain ⟨a2, ha2⟩ : ∃ a2, a * 4294967296 + c1 - q1 * v = a2 := ⟨_, rfl⟩
      have ha2l : a2 < v := by
        have h1 := Nat.div_add_mod (a * 4294967296 + c1) v
        have h2 := Nat.mod_lt (a * 4294967296 + c1) (show v > 0 by omega)
        rw [← hq1e, Nat.mul_comm] at h1
        omega
      obtain ⟨m5, hm5⟩ : ∃ m5, q1 * v = m5 := ⟨_, rfl⟩
      have k1 : IntKind.u64.wrap (IntKind.u64.wrap (IntKind.u64.wrap ((a : Int) * 4294967296) + (c1 : Int)) - IntKind.u64.wrap ((q1 : Int) * (v : Int))) = (a2 : Int) := by
        rw [hm5] at ha2 hq1v
        have e5 : ((q1 : Int) * (v : Int)) = ((m5 : Nat) : Int) := by rw [← Int.natCast_mul, hm5]
        rw [e5]
        simp only [IntKind.wrap_u64]
        clear e5 hm5 hq1e HW HB
        omega
      have HA2 : Hid (a2 < y1 * 4294967296 + y0) := Lib.hid (by rw [← HV.out]; exact ha2l)
      obtain ⟨q0, hq0⟩ : ∃ q0, a2 / y1 = q0 := ⟨_, rfl⟩
      obtain ⟨rh2, hrh2⟩ : ∃ rh2, a2 % y1 = rh2 := ⟨_, rfl⟩
      have d2 := dig_first a2 c0 y1 y0 (by omega) (by omega)
      rw [hq0, hrh2] at d2
      have k2 : (a2 : Int).tdiv (y1 : Int) = q0 := by rw [← hq0]; rfl
      have hql0 : q0 ≤ a2 := by rw [← hq0]; exact Nat.div_le_self _ _
      have k3 : IntKind.u64.wrap (q0 : Int) = q0 := by rw [IntKind.wrap_u64]; omega
      have hqw0 : q0 < 18446744073709551616 := by omega
      have k4 : IntKind.u64.wrap ((a2 : Int) - IntKind.u64.wrap ((q0 : Int) * y1)) = rh2 := by
        have := d2.sum
        rw [IntKind.wrap_u64 ((q0 : Int) * y1), ← Int.natCast_mul]
        generalize q0 * y1 = m at *
        rw [IntKind.wrap_u64]; omega
      have hrl2 : rh2 < 4294967296 := by
        have := Nat.mod_lt a2 (show y1 > 0 by omega)
        omega
      have HD2 := Lib.hid d2
      have HA3 := Lib.hid ha2
      have HQ1 := Lib.hid hq1e
      clear d2 ha2 hq1e hq0 hrh2 hql0 hm5 hq1v HD HA HA1 i14 i15 i13 hrl
      go_upto_block 2 with (fail)
      go_cut [18, 16] from 102 to 120 (fun x z wx => (∃ q r : Nat, x = .int .u64 q ∧ z = .int .u64 r ∧ (q = (a2 * 4294967296 + c0) / v ∧ q < 4294967296 ∧ q * v ≤ a2 * 4294967296 + c0)) ∧ wx = wc)
      case first =>
        go_wp2_with fail
        go_loop [18, 16] (fun x z => ∃ q r : Nat, x = .int .u64 q ∧ z = .int .u64 r ∧ Dig a2 c0 y1 y0 q r ∧ r < 4294967296 ∧ q < 18446744073709551616) (fun x _ => (intOf x).toNat)
        case atStart => exact ⟨q0, rh2, rfl, rfl, HD2.out, hrl2, hqw0⟩
        case round =>
          obtain ⟨q, r, rfl, rfl, hd, hr, hqw⟩ := hrel
          by_cases hq1 : 4294967296 ≤ q
          · have HX := Lib.hid (dig_next a2 c0 y1 y0 q r HA2.out (by omega) hd (Or.inl hq1))
            obtain ⟨q', r', hq', hr', hd'⟩ := HX.out
            have j1 : (4294967296 : Int) ≤ (q : Int) := by omega
            have j2 : IntKind.u64.wrap ((q : Int) - 1) = (q' : Int) := by rw [IntKind.wrap_u64]; omega
            have j3 : IntKind.u64.wrap ((r : Int) + (y1 : Int)) = (r' : Int) := by rw [IntKind.wrap_u64]; omega
            have HDD := Lib.hid hd'
            have HQ := Lib.hid hq'
            have hqw' : q' < 18446744073709551616 := by omega
            clear hd' hd hq' hr' HX hqw
            by_cases hb : (4294967296 : Int) ≤ (r' : Int)
            · have HE := Lib.hid (dig_end a2 c0 y1 y0 q' r' (by omega) HA2.out (by omega) HDD.out (Or.inr (by omega)))
              go_wp2
              go_meet
              case rel => exact ⟨⟨q', r', rfl, rfl, by rw [HV.out]; exact HE.out⟩, rfl⟩
            · go_wp2
              go_round
              case rel => exact ⟨q', r', rfl, rfl, HDD.out, by omega, hqw'⟩
              case measure => have := HQ.out; simp [intOf]; omega
          · have j0 : ¬ (4294967296 : Int) ≤ (q : Int) := by omega
            obtain ⟨m1, hm1⟩ : ∃ m1, q * y0 = m1 := ⟨_, rfl⟩
            have hm1l : m1 ≤ 4294967295 * 4294967295 := by rw [← hm1]; exact Nat.mul_le_mul (by omega) (by omega)
            have j4 : IntKind.u64.wrap ((q : Int) * (y0 : Int)) = (m1 : Int) := by rw [IntKind.wrap_u64, ← Int.natCast_mul, hm1]; omega
            obtain ⟨m2, hm2⟩ : ∃ m2, 4294967296 * r = m2 := ⟨_, rfl⟩
            have j5 : IntKind.u64.wrap (4294967296 * (r : Int)) = (m2 : Int) := by rw [IntKind.wrap_u64]; omega
            obtain ⟨m3, hm3⟩ : ∃ m3, m2 + c0 = m3 := ⟨_, rfl⟩
            have j6 : IntKind.u64.wrap ((m2 : Int) + (c0 : Int)) = (m3 : Int) := by rw [IntKind.wrap_u64]; omega
            have hs3 : m3 = 4294967296 * r + c0 := by rw [← hm3, ← hm2]
            by_cases hc : m3 < m1
            · have HX := Lib.hid (dig_next a2 c0 y1 y0 q r HA2.out (by omega) hd (Or.inr (by rw [← hs3, hm1]; exact hc)))
              obtain ⟨q', r', hq', hr', hd'⟩ := HX.out
              have j2 : IntKind.u64.wrap ((q : Int) - 1) = (q' : Int) := by rw [IntKind.wrap_u64]; omega
              have j3 : IntKind.u64.wrap ((r : Int) + (y1 : Int)) = (r' : Int) := by rw [IntKind.wrap_u64]; omega
              have HDD := Lib.hid hd'
              have HQ := Lib.hid hq'
              have hqw' : q' < 18446744073709551616 := by omega
              clear hd' hd hq' hr' HX hqw hm1 hm1l hm2 hm3 hs3
              by_cases hb : (4294967296 : Int) ≤ (r' : Int)
              · have HE := Lib.hid (dig_end a2 c0 y1 y0 q' r' (by omega) HA2.out (by omega) HDD.out (Or.inr (by omega)))
                go_wp2
                go_meet
                case rel => exact ⟨⟨q', r', rfl, rfl, by rw [HV.out]; exact HE.out⟩, rfl⟩
              · go_wp2
                go_round
                case rel => exact ⟨q', r', rfl, rfl, HDD.out, by omega, hqw'⟩
                case measure => have := HQ.out; simp [intOf]; omega
            · have HE := Lib.hid (dig_end a2 c0 y1 y0 q r (by omega) HA2.out (by omega) hd (Or.inl ⟨by omega, by rw [← hs3, hm1]; omega⟩))
              clear hd hm1 hm1l hm2 hm3 hs3
              go_wp2
              go_meet
              case rel => exact ⟨⟨q, r, rfl, rfl, by rw [HV.out]; exact HE.out⟩, rfl⟩
      case rest =>
        obtain ⟨⟨q2, r2, rfl, rfl, hq2⟩, rfl⟩ := hcut
        obtain ⟨hq2e, hq2l, hq2v⟩ := hq2
        have hN : a * 18446744073709551616 + t = a * 18446744073709551616 + c1 * 4294967296 + c0 := by omega
        have hD := two_digits a v c1 c0 q1 q2 (a * 18446744073709551616 + t) hN (by omega) HQ1.out (by rw [HA3.out]; exact hq2e)
        rw [HW.out, HA3.out, HB.out.1] at hD
        have hB2 := HB.out.2
        rw [← hD.2] at hB2
        obtain ⟨u, hu⟩ : ∃ u, a2 * 4294967296 + c0 - q2 * v = u := ⟨_, rfl⟩
        obtain ⟨m6, hm6⟩ : ∃ m6, q2 * v = m6 := ⟨_, rfl⟩
        obtain ⟨Q, hQ⟩ : ∃ Q, (hi * 18446744073709551616 + lo) / y = Q := ⟨_, rfl⟩
        obtain ⟨R, hR⟩ : ∃ R, (hi * 18446744073709551616 + lo) % y = R := ⟨_, rfl⟩
        have hul : u < 18446744073709551616 := by
          have := Nat.mod_lt ((hi * 18446744073709551616 + lo) * p) (show v > 0 by omega)
          rw [← hD.2, hu] at this
          omega
        have l1 : (q1 : Int) * 4294967296 + (q2 : Int) = (Q : Int) := by
          have h1 := hD.1
          rw [hQ] at h1
          omega
        have L1 := Lib.hid l1
        clear l1
        have l2 : IntKind.u64.wrap (IntKind.u64.wrap (IntKind.u64.wrap ((a2 : Int) * 4294967296) + (c0 : Int)) - IntKind.u64.wrap ((q2 : Int) * (v : Int))) = (u : Int) := by
          rw [hm6] at hu hq2v
          have e5 : ((q2 : Int) * (v : Int)) = ((m6 : Nat) : Int) := by rw [← Int.natCast_mul, hm6]
          rw [e5]
          simp only [IntKind.wrap_u64]
          clear e5 hm6 hq2e hD hB2 hQ hR HW HB hN k1
          omega
        rw [hu, hR] at hB2
        have l3 : (u : Int) / (p : Int) = (R : Int) := by rw [← hB2]; rfl
        have HQQ := Lib.hid hQ
        have HRR := Lib.hid hR
        clear hN hD hB2 hu hm6 hQ hR hq2e hq2v HQ1 HA3 k1 k2 k3 k4
        go_wp2
        go_ret2
        refine ⟨?_, 0, rfl⟩
        rw [HQQ.out, HRR.out]
        show Ending.returned (.tuple #[.int .u64 ((q1 : Int) * 4294967296 + (q2 : Int)), .int .u64 (R : Int)]) = _
        rw [L1.out]
end Go.Proofs.YtpnoecjpplaicaaGreatDoor
