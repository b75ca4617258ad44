/-
bits.Div64: Go's own text is walked: two digits, each of them an estimate that is lowered till it is right. Condition: the upper word is below the divisor.
wide: Mul, Less, Div, Small, Scale. No condition but the numbers' kinds.
wide: Plus, Add, Round. No condition but the numbers' kinds.
yield's arithmetic: pieces, parts by parts, months. No condition.
yield: Right, Unit, Days. Conditions: the numbers' kinds.
-/
import Derived.Test.YtpbfipeinblfgaaGreatDoorMemQ9
import Derived.Test.YtpbfipeinblfgaaGreatDoorDivBQ9
import Derived.BigQuiet
import Derived.Deep.CutBlock
import Derived.Handy
import Derived.Laws.Externs
import Derived.Deep.RegionHeld3
namespace Go.Proofs.YtpbfipeinblfgaaGreatDoor
open Go.RowKit

theorem lz_any (y s : Nat) (h0 : 0 < y) (hy : y < 18446744073709551616) (hs : s = 64 - Lib.bitLen y) (w : World) :
    Calls Tryz.prog 250 #[.int .u64 y] w fun e w' => e = .returned (.int .i64 (s : Int)) ∧ w' = w := by
  obtain ⟨-, hL, -, -⟩ := norm_y y h0 hy
  refine (bits_LeadingZeros64 y w (by omega) (by omega)).mono ?_
  rintro e w' ⟨rfl, rfl⟩
  refine ⟨?_, rfl⟩
  rw [hs, Int.toNat_natCast, Int.natCast_sub hL]
  rfl
theorem mask_any (v y0 : Nat) (hv : v < 18446744073709551616) (h : v % 4294967296 = y0) : bits .and .u64 (v : Int) 4294967295 = (y0 : Int) := by
  subst h
  exact Mul64.maskN v hv
theorem or_any (a b c m s : Nat) (hb : b < 2 ^ s) (hm : a * 2 ^ s = m) (ha : m < 18446744073709551616) (hb2 : b < 18446744073709551616) (h : m + b = c) : bits .or .u64 (m : Int) (b : Int) = (c : Int) := by
  subst h hm
  rw [bits_or_u64_nat _ _ ha hb2, shift_or _ _ _ hb]
theorem dig_next (a c y1 y0 q r : Nat) (ha : a < y1 * 4294967296 + y0) (hc : c < 4294967296)
    (d : Dig a c y1 y0 q r) (hw : 4294967296 ≤ q ∨ 4294967296 * r + c < q * y0) : ∃ q' r', q = q' + 1 ∧ r' = r + y1 ∧ Dig a c y1 y0 q' r' := by
  obtain ⟨h1, h2⟩ := dig_step a c y1 y0 q r ha hc d hw
  exact ⟨q - 1, r + y1, (Nat.sub_add_cancel h1).symm, rfl, h2⟩
theorem wrap_nat (x y : Int) (n : Nat) (h : x = (n : Int)) (hn : n < 18446744073709551616) (e : IntKind.u64.wrap x = y) : y = (n : Int) := by
  rw [← e, h, IntKind.wrap_u64]
  omega

set_option maxHeartbeats 4000000 in
set_option maxRecDepth 20000 in
theorem bits_Div64 (hi lo y : Nat) (hhi : hi < y) (hlo : lo < 18446744073709551616) (hy : y < 18446744073709551616) (w : World) :
    Calls Tryz.prog 229 #[.int .u64 hi, .int .u64 lo, .int .u64 y] w fun e w' =>
      e = .returned (.tuple #[.int .u64 (((hi * 18446744073709551616 + lo) / y : Nat) : Int), .int .u64 (((hi * 18446744073709551616 + lo) % y : Nat) : Int)]) ∧ ∃ k, w' = w.drewN k := by
  have hy0 : ¬ (y : Int) = 0 := by omega
  have hle : ¬ (y : Int) ≤ hi := by omega
  by_cases h0 : hi = 0
  · subst h0
    go_enter Tryz.func229, Tryz.ntmps229
    rw [Nat.zero_mul, Nat.zero_add]
    obtain ⟨k, hk⟩ : ∃ k, lo / y = k := ⟨_, rfl⟩
    obtain ⟨m, hm⟩ : ∃ m, lo % y = m := ⟨_, rfl⟩
    have i1 : (lo : Int) / (y : Int) = k := by rw [← hk]; rfl
    have i3 : (lo : Int) % (y : Int) = m := by rw [← hm]; rfl
    have hkl : k ≤ lo := by rw [← hk]; exact Nat.div_le_self _ _
    have i2 : IntKind.u64.wrap (k : Int) = k := by rw [IntKind.wrap_u64]; omega
    rw [hk, hm]
    clear hk hm hkl
    go_wp2
    go_quiet (fail)
    go_wp2
    go_ret2
    refine ⟨?_, _, rfl⟩
    show Ending.returned (.tuple #[.int .u64 (k : Int), .int .u64 ((lo : Int) % (y : Int))]) = _
    rw [i3]
  · have h0' : ¬ (hi : Int) = 0 := by omega
    obtain ⟨hL1, hL2, hv1, hv2⟩ := norm_y y (by omega) hy
    obtain ⟨s, hs⟩ : ∃ s, s = 64 - Lib.bitLen y := ⟨_, rfl⟩
    have hlz := fun W => lz_any y s (by omega) hy hs W
    rw [← hs] at hv1 hv2
    have hs63 : s ≤ 63 := by omega
    obtain ⟨s', hs'⟩ : ∃ s', s' = 64 - s := ⟨_, rfl⟩
    have hpr := pow_split s hs63
    rw [← hs'] at hpr
    obtain ⟨p, hp⟩ : ∃ p, p = 2 ^ s := ⟨_, rfl⟩
    obtain ⟨r, hr⟩ : ∃ r, r = 2 ^ s' := ⟨_, rfl⟩
    have hp0 : 0 < p := by rw [hp]; exact Nat.two_pow_pos s
    have hr0 : 0 < r := by rw [hr]; exact Nat.two_pow_pos s'
    have hor := fun b c m hb hm ha hb2 h => or_any hi b c m s hb hm ha hb2 h
    rw [← hp] at hpr hv1 hv2 hor
    rw [← hr] at hpr
    have hpI : (2 : Int) ^ s = (p : Int) := by rw [hp]; exact (Int.natCast_pow 2 s).symm
    have hrI : (2 : Int) ^ s' = (r : Int) := by rw [hr]; exact (Int.natCast_pow 2 s').symm
    obtain ⟨v, hv⟩ : ∃ v, y * p = v := ⟨_, rfl⟩
    rw [hv] at hv1 hv2
    have hw := shift_whole hi lo p r hp0 hpr
    obtain ⟨b, hb⟩ : ∃ b, lo / r = b := ⟨_, rfl⟩
    obtain ⟨t, ht⟩ : ∃ t, lo * p % 18446744073709551616 = t := ⟨_, rfl⟩
    have hback := shift_back (hi * 18446744073709551616 + lo) y p hp0
    rw [hv] at hback
    rw [hb, ht] at hw
    have hbp : b < p := by rw [← hb, Nat.div_lt_iff_lt_mul hr0, hpr]; exact hlo
    have hu : hi * p + p ≤ v := by
      rw [← hv, ← Nat.succ_mul]
      exact Nat.mul_le_mul_right _ hhi
    have hb2 : b < 18446744073709551616 := by omega
    obtain ⟨m, hm⟩ : ∃ m, hi * p = m := ⟨_, rfl⟩
    rw [hm] at hu hw
    obtain ⟨a, ha⟩ : ∃ a, m + b = a := ⟨_, rfl⟩
    rw [ha] at hw
    have hav : a < v := by omega
    have hor := hor b a m hbp hm (by omega) hb2 ha
    obtain ⟨y1, hy1⟩ : ∃ y1, v / 4294967296 = y1 := ⟨_, rfl⟩
    obtain ⟨y0, hy0'⟩ : ∃ y0, v % 4294967296 = y0 := ⟨_, rfl⟩
    obtain ⟨c1, hc1⟩ : ∃ c1, t / 4294967296 = c1 := ⟨_, rfl⟩
    obtain ⟨c0, hc0⟩ : ∃ c0, t % 4294967296 = c0 := ⟨_, rfl⟩
    have htl : t < 18446744073709551616 := by omega
    have hva : v = y1 * 4294967296 + y0 := by omega
    -- what the walk meets
    have i1 : IntKind.u64.wrap (s : Int) = s := by rw [IntKind.wrap_u64]; omega
    have i2 : min s 64 = s := by omega
    have i3 : IntKind.u64.wrap ((y : Int) * p) = v := by rw [IntKind.wrap_u64, ← Int.natCast_mul, hv]; omega
    have i4 : (v : Int) / 4294967296 = y1 := by omega
    have i5 := mask_any v y0 hv2 hy0'
    have i6 : IntKind.u64.wrap ((hi : Int) * p) = m := by rw [IntKind.wrap_u64, ← Int.natCast_mul, hm]; omega
    have i7 : IntKind.u64.wrap (64 - (s : Int)) = s' := by rw [IntKind.wrap_u64]; omega
    have i8 : min s' 64 = s' := by omega
    have i9 : (lo : Int) / (r : Int) = b := by rw [← hb]; rfl
    have i10 : IntKind.u64.wrap ((lo : Int) * p) = t := by rw [IntKind.wrap_u64, ← Int.natCast_mul, ← ht]; rfl
    have i11 : (t : Int) / 4294967296 = c1 := by omega
    have i12 := mask_any t c0 htl hc0
    have hy1n : ¬ (y1 : Int) = 0 := by omega
    obtain ⟨q, hq⟩ : ∃ q, a / y1 = q := ⟨_, rfl⟩
    obtain ⟨rh, hrh⟩ : ∃ rh, a % y1 = rh := ⟨_, rfl⟩
    have d1 := dig_first a c1 y1 y0 (by omega) (by omega)
    rw [hq, hrh] at d1
    have i13 : (a : Int).tdiv (y1 : Int) = q := by rw [← hq]; rfl
    have hql : q ≤ a := by rw [← hq]; exact Nat.div_le_self _ _
    have i15 : IntKind.u64.wrap (q : Int) = q := by rw [IntKind.wrap_u64]; omega
    have hqw : q < 18446744073709551616 := by omega
    have i14 : IntKind.u64.wrap ((a : Int) - IntKind.u64.wrap ((q : Int) * y1)) = rh := by
      have := d1.sum
      rw [IntKind.wrap_u64 ((q : Int) * y1), ← Int.natCast_mul]
      generalize q * y1 = m at *
      rw [IntKind.wrap_u64]; omega
    have hrl : rh < 4294967296 := by
      have := Nat.mod_lt a (show y1 > 0 by omega)
      omega
    have HW := Lib.hid hw
    have HV := Lib.hid hva
    have HB := Lib.hid hback
    have HD := Lib.hid d1
    have HA := Lib.hid hav
    clear hm hql hw hva hback d1 hp hr hpr ha hb ht hv hu hq hrh hs hs' hp0 hr0 hL1 hL2 hav
    have HA1 : Hid (a < y1 * 4294967296 + y0) := Lib.hid (by rw [← HV.out]; exact HA.out)
    go_enter Tryz.func229, Tryz.ntmps229
    go_upto_block 0 with (go_at_call 250; refine (hlz _).mono ?_; rintro e w' ⟨rfl, hw'⟩; subst hw')
    go_cut [15, 16] from 67 to 85 (fun x z wx => (∃ q r : Nat, x = .int .u64 q ∧ z = .int .u64 r ∧ (q = (a * 4294967296 + c1) / v ∧ q < 4294967296 ∧ q * v ≤ a * 4294967296 + c1)) ∧ wx = w')
    case first =>
      go_wp2_with fail
      go_loop [15, 16] (fun x z => ∃ q r : Nat, x = .int .u64 q ∧ z = .int .u64 r ∧ Dig a c1 y1 y0 q r ∧ r < 4294967296 ∧ q < 18446744073709551616) (fun x _ => (intOf x).toNat)
      case atStart => exact ⟨q, rh, rfl, rfl, HD.out, hrl, hqw⟩
      case round =>
        obtain ⟨q, r, rfl, rfl, hd, hr, hqw⟩ := hrel
        by_cases hq1 : 4294967296 ≤ q
        · have HX := Lib.hid (dig_next a c1 y1 y0 q r HA1.out (by omega) hd (Or.inl hq1))
          obtain ⟨q', r', hq', hr', hd'⟩ := HX.out
          have j1 : (4294967296 : Int) ≤ (q : Int) := by omega
          have j2 : IntKind.u64.wrap ((q : Int) - 1) = (q' : Int) := by rw [IntKind.wrap_u64]; omega
          have j3 : IntKind.u64.wrap ((r : Int) + (y1 : Int)) = (r' : Int) := by rw [IntKind.wrap_u64]; omega
          have HDD := Lib.hid hd'
          have HQ := Lib.hid hq'
          have hqw' : q' < 18446744073709551616 := by omega
          clear hd' hd hq' hr' HX hqw
          by_cases hb : (4294967296 : Int) ≤ (r' : Int)
          · have HE := Lib.hid (dig_end a c1 y1 y0 q' r' (by omega) HA1.out (by omega) HDD.out (Or.inr (by omega)))
            go_wp2
            go_meet
            case rel => exact ⟨⟨q', r', rfl, rfl, by rw [HV.out]; exact HE.out⟩, rfl⟩
          · go_wp2
            go_round
            case rel => exact ⟨q', r', rfl, rfl, HDD.out, by omega, hqw'⟩
            case measure => have := HQ.out; simp [intOf]; omega
        · have j0 : ¬ (4294967296 : Int) ≤ (q : Int) := by omega
          obtain ⟨m1, hm1⟩ : ∃ m1, q * y0 = m1 := ⟨_, rfl⟩
          have hm1l : m1 ≤ 4294967295 * 4294967295 := by rw [← hm1]; exact Nat.mul_le_mul (by omega) (by omega)
          have j4 : IntKind.u64.wrap ((q : Int) * (y0 : Int)) = (m1 : Int) := by rw [IntKind.wrap_u64, ← Int.natCast_mul, hm1]; omega
          obtain ⟨m2, hm2⟩ : ∃ m2, 4294967296 * r = m2 := ⟨_, rfl⟩
          have j5 : IntKind.u64.wrap (4294967296 * (r : Int)) = (m2 : Int) := by rw [IntKind.wrap_u64]; omega
          obtain ⟨m3, hm3⟩ : ∃ m3, m2 + c1 = m3 := ⟨_, rfl⟩
          have j6 : IntKind.u64.wrap ((m2 : Int) + (c1 : Int)) = (m3 : Int) := by rw [IntKind.wrap_u64]; omega
          have hs3 : m3 = 4294967296 * r + c1 := by rw [← hm3, ← hm2]
          by_cases hc : m3 < m1
          · have HX := Lib.hid (dig_next a c1 y1 y0 q r HA1.out (by omega) hd (Or.inr (by rw [← hs3, hm1]; exact hc)))
            obtain ⟨q', r', hq', hr', hd'⟩ := HX.out
            have j2 : IntKind.u64.wrap ((q : Int) - 1) = (q' : Int) := by rw [IntKind.wrap_u64]; omega
            have j3 : IntKind.u64.wrap ((r : Int) + (y1 : Int)) = (r' : Int) := by rw [IntKind.wrap_u64]; omega
            have HDD := Lib.hid hd'
            have HQ := Lib.hid hq'
            have hqw' : q' < 18446744073709551616 := by omega
            clear hd' hd hq' hr' HX hqw hm1 hm1l hm2 hm3 hs3
            by_cases hb : (4294967296 : Int) ≤ (r' : Int)
            · have HE := Lib.hid (dig_end a c1 y1 y0 q' r' (by omega) HA1.out (by omega) HDD.out (Or.inr (by omega)))
              go_wp2
              go_meet
              case rel => exact ⟨⟨q', r', rfl, rfl, by rw [HV.out]; exact HE.out⟩, rfl⟩
            · go_wp2
              go_round
              case rel => exact ⟨q', r', rfl, rfl, HDD.out, by omega, hqw'⟩
              case measure => have := HQ.out; simp [intOf]; omega
          · have HE := Lib.hid (dig_end a c1 y1 y0 q r (by omega) HA1.out (by omega) hd (Or.inl ⟨by omega, by rw [← hs3, hm1]; omega⟩))
            clear hd hm1 hm1l hm2 hm3 hs3
            go_wp2
            go_meet
            case rel => exact ⟨⟨q, r, rfl, rfl, by rw [HV.out]; exact HE.out⟩, rfl⟩
    case rest =>
      obtain ⟨⟨q1, r1, rfl, rfl, hq1⟩, rfl⟩ := hcut
      obtain ⟨hq1e, hq1l, hq1v⟩ := hq1
      obtain ⟨a2, ha2⟩ : ∃ a2, a * 4294967296 + c1 - q1 * v = a2 := ⟨_, rfl⟩
      have ha2l : a2 < v := by
        have h1 := Nat.div_add_mod (a * 4294967296 + c1) v
        have h2 := Nat.mod_lt (a * 4294967296 + c1) (show v > 0 by omega)
        rw [← hq1e, Nat.mul_comm] at h1
        omega
      obtain ⟨m5, hm5⟩ : ∃ m5, q1 * v = m5 := ⟨_, rfl⟩
      have k1 : IntKind.u64.wrap (IntKind.u64.wrap (IntKind.u64.wrap ((a : Int) * 4294967296) + (c1 : Int)) - IntKind.u64.wrap ((q1 : Int) * (v : Int))) = (a2 : Int) := by
        rw [hm5] at ha2 hq1v
        have e5 : ((q1 : Int) * (v : Int)) = ((m5 : Nat) : Int) := by rw [← Int.natCast_mul, hm5]
        rw [e5]
        simp only [IntKind.wrap_u64]
        clear e5 hm5 hq1e HW HB
        omega
      have HA2 : Hid (a2 < y1 * 4294967296 + y0) := Lib.hid (by rw [← HV.out]; exact ha2l)
      obtain ⟨q0, hq0⟩ : ∃ q0, a2 / y1 = q0 := ⟨_, rfl⟩
      obtain ⟨rh2, hrh2⟩ : ∃ rh2, a2 % y1 = rh2 := ⟨_, rfl⟩
      have d2 := dig_first a2 c0 y1 y0 (by omega) (by omega)
      rw [hq0, hrh2] at d2
      have k2 : (a2 : Int).tdiv (y1 : Int) = q0 := by rw [← hq0]; rfl
      have hql0 : q0 ≤ a2 := by rw [← hq0]; exact Nat.div_le_self _ _
      have k3 : IntKind.u64.wrap (q0 : Int) = q0 := by rw [IntKind.wrap_u64]; omega
      have hqw0 : q0 < 18446744073709551616 := by omega
      have k4 : IntKind.u64.wrap ((a2 : Int) - IntKind.u64.wrap ((q0 : Int) * y1)) = rh2 := by
        have := d2.sum
        rw [IntKind.wrap_u64 ((q0 : Int) * y1), ← Int.natCast_mul]
        generalize q0 * y1 = m at *
        rw [IntKind.wrap_u64]; omega
      have hrl2 : rh2 < 4294967296 := by
        have := Nat.mod_lt a2 (show y1 > 0 by omega)
        omega
      have HD2 := Lib.hid d2
      have HA3 := Lib.hid ha2
      have HQ1 := Lib.hid hq1e
      clear d2 ha2 hq1e hq0 hrh2 hql0 hm5 hq1v HD HA HA1 i14 i15 i13 hrl
      go_upto_block 2 with (fail)
      go_cut [18, 16] from 102 to 120 (fun x z wx => (∃ q r : Nat, x = .int .u64 q ∧ z = .int .u64 r ∧ (q = (a2 * 4294967296 + c0) / v ∧ q < 4294967296 ∧ q * v ≤ a2 * 4294967296 + c0)) ∧ wx = wc)
      case first =>
        go_wp2_with fail
        go_loop [18, 16] (fun x z => ∃ q r : Nat, x = .int .u64 q ∧ z = .int .u64 r ∧ Dig a2 c0 y1 y0 q r ∧ r < 4294967296 ∧ q < 18446744073709551616) (fun x _ => (intOf x).toNat)
        case atStart => exact ⟨q0, rh2, rfl, rfl, HD2.out, hrl2, hqw0⟩
        case round =>
          obtain ⟨q, r, rfl, rfl, hd, hr, hqw⟩ := hrel
          by_cases hq1 : 4294967296 ≤ q
          · have HX := Lib.hid (dig_next a2 c0 y1 y0 q r HA2.out (by omega) hd (Or.inl hq1))
            obtain ⟨q', r', hq', hr', hd'⟩ := HX.out
            have j1 : (4294967296 : Int) ≤ (q : Int) := by omega
            have j2 : IntKind.u64.wrap ((q : Int) - 1) = (q' : Int) := by rw [IntKind.wrap_u64]; omega
            have j3 : IntKind.u64.wrap ((r : Int) + (y1 : Int)) = (r' : Int) := by rw [IntKind.wrap_u64]; omega
            have HDD := Lib.hid hd'
            have HQ := Lib.hid hq'
            have hqw' : q' < 18446744073709551616 := by omega
            clear hd' hd hq' hr' HX hqw
            by_cases hb : (4294967296 : Int) ≤ (r' : Int)
            · have HE := Lib.hid (dig_end a2 c0 y1 y0 q' r' (by omega) HA2.out (by omega) HDD.out (Or.inr (by omega)))
              go_wp2
              go_meet
              case rel => exact ⟨⟨q', r', rfl, rfl, by rw [HV.out]; exact HE.out⟩, rfl⟩
            · go_wp2
              go_round
              case rel => exact ⟨q', r', rfl, rfl, HDD.out, by omega, hqw'⟩
              case measure => have := HQ.out; simp [intOf]; omega
          · have j0 : ¬ (4294967296 : Int) ≤ (q : Int) := by omega
            obtain ⟨m1, hm1⟩ : ∃ m1, q * y0 = m1 := ⟨_, rfl⟩
            have hm1l : m1 ≤ 4294967295 * 4294967295 := by rw [← hm1]; exact Nat.mul_le_mul (by omega) (by omega)
            have j4 : IntKind.u64.wrap ((q : Int) * (y0 : Int)) = (m1 : Int) := by rw [IntKind.wrap_u64, ← Int.natCast_mul, hm1]; omega
            obtain ⟨m2, hm2⟩ : ∃ m2, 4294967296 * r = m2 := ⟨_, rfl⟩
            have j5 : IntKind.u64.wrap (4294967296 * (r : Int)) = (m2 : Int) := by rw [IntKind.wrap_u64]; omega
            obtain ⟨m3, hm3⟩ : ∃ m3, m2 + c0 = m3 := ⟨_, rfl⟩
            have j6 : IntKind.u64.wrap ((m2 : Int) + (c0 : Int)) = (m3 : Int) := by rw [IntKind.wrap_u64]; omega
            have hs3 : m3 = 4294967296 * r + c0 := by rw [← hm3, ← hm2]
            by_cases hc : m3 < m1
            · have HX := Lib.hid (dig_next a2 c0 y1 y0 q r HA2.out (by omega) hd (Or.inr (by rw [← hs3, hm1]; exact hc)))
              obtain ⟨q', r', hq', hr', hd'⟩ := HX.out
              have j2 : IntKind.u64.wrap ((q : Int) - 1) = (q' : Int) := by rw [IntKind.wrap_u64]; omega
              have j3 : IntKind.u64.wrap ((r : Int) + (y1 : Int)) = (r' : Int) := by rw [IntKind.wrap_u64]; omega
              have HDD := Lib.hid hd'
              have HQ := Lib.hid hq'
              have hqw' : q' < 18446744073709551616 := by omega
              clear hd' hd hq' hr' HX hqw hm1 hm1l hm2 hm3 hs3
              by_cases hb : (4294967296 : Int) ≤ (r' : Int)
              · have HE := Lib.hid (dig_end a2 c0 y1 y0 q' r' (by omega) HA2.out (by omega) HDD.out (Or.inr (by omega)))
                go_wp2
                go_meet
                case rel => exact ⟨⟨q', r', rfl, rfl, by rw [HV.out]; exact HE.out⟩, rfl⟩
              · go_wp2
                go_round
                case rel => exact ⟨q', r', rfl, rfl, HDD.out, by omega, hqw'⟩
                case measure => have := HQ.out; simp [intOf]; omega
            · have HE := Lib.hid (dig_end a2 c0 y1 y0 q r (by omega) HA2.out (by omega) hd (Or.inl ⟨by omega, by rw [← hs3, hm1]; omega⟩))
              clear hd hm1 hm1l hm2 hm3 hs3
              go_wp2
              go_meet
              case rel => exact ⟨⟨q, r, rfl, rfl, by rw [HV.out]; exact HE.out⟩, rfl⟩
      case rest =>
        obtain ⟨⟨q2, r2, rfl, rfl, hq2⟩, rfl⟩ := hcut
        obtain ⟨hq2e, hq2l, hq2v⟩ := hq2
        have hN : a * 18446744073709551616 + t = a * 18446744073709551616 + c1 * 4294967296 + c0 := by omega
        have hD := two_digits a v c1 c0 q1 q2 (a * 18446744073709551616 + t) hN (by omega) HQ1.out (by rw [HA3.out]; exact hq2e)
        rw [HW.out, HA3.out, HB.out.1] at hD
        have hB2 := HB.out.2
        rw [← hD.2] at hB2
        obtain ⟨u, hu⟩ : ∃ u, a2 * 4294967296 + c0 - q2 * v = u := ⟨_, rfl⟩
        obtain ⟨m6, hm6⟩ : ∃ m6, q2 * v = m6 := ⟨_, rfl⟩
        obtain ⟨Q, hQ⟩ : ∃ Q, (hi * 18446744073709551616 + lo) / y = Q := ⟨_, rfl⟩
        obtain ⟨R, hR⟩ : ∃ R, (hi * 18446744073709551616 + lo) % y = R := ⟨_, rfl⟩
        have hul : u < 18446744073709551616 := by
          have := Nat.mod_lt ((hi * 18446744073709551616 + lo) * p) (show v > 0 by omega)
          rw [← hD.2, hu] at this
          omega
        have l1 : (q1 : Int) * 4294967296 + (q2 : Int) = (Q : Int) := by
          have h1 := hD.1
          rw [hQ] at h1
          omega
        have L1 := Lib.hid l1
        clear l1
        have l2 : IntKind.u64.wrap (IntKind.u64.wrap (IntKind.u64.wrap ((a2 : Int) * 4294967296) + (c0 : Int)) - IntKind.u64.wrap ((q2 : Int) * (v : Int))) = (u : Int) := by
          rw [hm6] at hu hq2v
          have e5 : ((q2 : Int) * (v : Int)) = ((m6 : Nat) : Int) := by rw [← Int.natCast_mul, hm6]
          rw [e5]
          simp only [IntKind.wrap_u64]
          clear e5 hm6 hq2e hD hB2 hQ hR HW HB hN k1
          omega
        rw [hu, hR] at hB2
        have l3 : (u : Int) / (p : Int) = (R : Int) := by rw [← hB2]; rfl
        have HQQ := Lib.hid hQ
        have HRR := Lib.hid hR
        clear hN hD hB2 hu hm6 hQ hR hq2e hq2v HQ1 HA3 k1 k2 k3 k4
        go_wp2
        go_ret2
        refine ⟨?_, 0, rfl⟩
        rw [HQQ.out, HRR.out]
        show Ending.returned (.tuple #[.int .u64 ((q1 : Int) * 4294967296 + (q2 : Int)), .int .u64 (R : Int)]) = _
        rw [L1.out]
end Go.Proofs.YtpbfipeinblfgaaGreatDoor
namespace Go.Proofs.YtpbfipeinblfgaaGreatDoor
open Go.RowKit

/-- A Wide as a value. -/
def wv (hi lo : Nat) : Value := .agg #[.int .u64 (hi : Int), .int .u64 (lo : Int)]
/-- .. that holds n. -/
def wof (n : Nat) : Value := wv (n / 18446744073709551616) (n % 18446744073709551616)
def Ret (v : Value) (w : World) (e : Ending) (w' : World) : Prop := e = .returned v ∧ Below w.heap.size w w'
theorem wof_parts (q p : Nat) (hp : p < 18446744073709551616) : wof (q * 18446744073709551616 + p) = wv q p := by
  unfold wof
  rw [show (q * 18446744073709551616 + p) / 18446744073709551616 = q by omega, show (q * 18446744073709551616 + p) % 18446744073709551616 = p by omega]
theorem wof_ex (n : Nat) : ∃ h l : Nat, wof n = .agg #[.int .u64 (h : Int), .int .u64 (l : Int)] ∧ n = h * 18446744073709551616 + l ∧ l < 18446744073709551616 :=
  ⟨n / 18446744073709551616, n % 18446744073709551616, rfl, by omega, by omega⟩
theorem wof_small (n : Nat) (hn : n < 18446744073709551616) : wof n = .agg #[.int .u64 0, .int .u64 (n : Int)] := by
  unfold wof wv
  rw [show n / 18446744073709551616 = 0 by omega, show n % 18446744073709551616 = n by omega]
  rfl
theorem wof_eq (n : Nat) : wof n = .agg #[.int .u64 ((n : Int) / 18446744073709551616), .int .u64 ((n : Int) % 18446744073709551616)] := by
  unfold wof wv
  rw [Int.natCast_ediv, Int.natCast_emod]
  rfl

set_option maxHeartbeats 1000000 in
theorem Mul_any (a b : Nat) (ha : a < 18446744073709551616) (hb : b < 18446744073709551616) (w : World) :
    Calls Tryz.prog 195 #[.int .u64 a, .int .u64 b] w (Ret (wof (a * b)) w) := by
  have hM := bits_Mul64 a b ha hb
  generalize a * b = n at *
  go_enter Tryz.func195, Tryz.ntmps195
  go_wp2_with (go_at_call 227; refine (hM _).mono ?_; rintro e w' ⟨rfl, rfl⟩)
  go_returns
  rw [wof_eq]
  exact ⟨rfl, (Below.refl _ _).alloc (Nat.le_refl _) _⟩

def eno (n : Int) : Value := .iface 110 (.int .i64 n)

set_option maxHeartbeats 1000000 in
theorem Div_zero (h l : Nat) (w : World) :
    Calls Tryz.prog 197 #[wv h l, .int .u64 0] w (Ret (.tuple #[wv 0 0, .int .u64 0, eno 1]) w) := by
  unfold wv
  go_enter Tryz.func197, Tryz.ntmps197
  go_wp2
  go_returns
  refine ⟨?_, ?_⟩
  · rfl
  · exact ((Below.refl _ _).alloc (Nat.le_refl _) _).alloc (by simp) _

theorem div_parts (h l n : Nat) (hn : 0 < n) : (h * 18446744073709551616 + l) / n = h / n * 18446744073709551616 + (h % n * 18446744073709551616 + l) / n ∧ (h * 18446744073709551616 + l) % n = (h % n * 18446744073709551616 + l) % n := by
  have e : h * 18446744073709551616 + l = n * (h / n * 18446744073709551616) + (h % n * 18446744073709551616 + l) := by
    have := Nat.div_add_mod h n
    rw [← Nat.mul_assoc]
    generalize n * (h / n) = m at *
    omega
  constructor
  · rw [e, Nat.mul_add_div hn]
  · rw [e, Nat.mul_add_mod]
theorem div_low (h l n : Nat) (hn : h < n) (hl : l < 18446744073709551616) : (h * 18446744073709551616 + l) / n < 18446744073709551616 := by
  rw [Nat.div_lt_iff_lt_mul (by omega), Nat.mul_comm]
  have : (h + 1) * 18446744073709551616 ≤ n * 18446744073709551616 := Nat.mul_le_mul_right _ hn
  omega

set_option maxHeartbeats 2000000 in
set_option maxRecDepth 20000 in
theorem Div_some (h l n : Nat) (hh : h < 18446744073709551616) (hl : l < 18446744073709551616) (hn0 : 0 < n) (hn : n < 18446744073709551616) (w : World) :
    Calls Tryz.prog 197 #[wv h l, .int .u64 n] w (Ret (.tuple #[wof ((h * 18446744073709551616 + l) / n), .int .u64 ((h * 18446744073709551616 + l) % n : Nat), .nilIface]) w) := by
  have hz : ¬ (n : Int) = 0 := by omega
  obtain ⟨d1, d2⟩ := div_parts h l n hn0
  have hlow := div_low (h % n) l n (Nat.mod_lt _ hn0) hl
  have hC := fun W => bits_Div64 (h % n) l n (Nat.mod_lt _ hn0) hl hn W
  have hle := Nat.div_le_self h n
  obtain ⟨q, hq⟩ : ∃ q, h / n = q := ⟨_, rfl⟩
  obtain ⟨r, hr⟩ : ∃ r, h % n = r := ⟨_, rfl⟩
  rw [hq] at d1 hle
  rw [hr] at d1 d2 hlow hC
  obtain ⟨p, hp⟩ : ∃ p, (r * 18446744073709551616 + l) / n = p := ⟨_, rfl⟩
  obtain ⟨s, hs⟩ : ∃ s, (r * 18446744073709551616 + l) % n = s := ⟨_, rfl⟩
  rw [hp] at d1 hlow hC
  rw [hs] at d2 hC
  have i1 : (h : Int) % (n : Int) = r := by rw [← hr]; rfl
  have i2 : (h : Int).tdiv (n : Int) = q := by rw [← hq]; rfl
  have i3 : IntKind.u64.wrap (q : Int) = q := by rw [IntKind.wrap_u64]; omega
  have i4 : (h : Int).tmod (n : Int) = r := by rw [← hr]; rfl
  have i5 : (h : Int) / (n : Int) = q := by rw [← hq]; rfl
  have D1 := Lib.hid d1
  have D2 := Lib.hid d2
  clear d1 d2 hq hr hp hs
  unfold wv
  go_enter Tryz.func197, Tryz.ntmps197
  go_wp2_with fail
  go_quiet ((go_at_call 229; exact Calls.quiet_of (hC _)))
  go_wp2_with fail
  go_returns
  refine ⟨?_, ?_⟩
  · rw [D1.out, D2.out, wof_parts q p hlow]
    rfl
  · exact (((below_drewN (((Below.refl _ _).alloc (Nat.le_refl _) _).alloc (by simp) _) nq).setCell (by simp) _).setCell (by simp) _)

set_option maxHeartbeats 1000000 in
theorem Small_over (h l : Nat) (hh : 0 < h) (w : World) :
    Calls Tryz.prog 198 #[wv h l] w (Ret (.tuple #[.int .u64 0, eno 12]) w) := by
  have i1 : ((h : Int) != 0) = true := by rw [bne_iff_ne]; omega
  have i2 : ((h : Int) == 0) = false := by rw [beq_eq_false_iff_ne]; omega
  unfold wv
  go_enter Tryz.func198, Tryz.ntmps198
  go_wp2
  go_returns
  exact ⟨rfl, (Below.refl _ _).alloc (Nat.le_refl _) _⟩

set_option maxHeartbeats 1000000 in
theorem Small_ok (l : Nat) (w : World) :
    Calls Tryz.prog 198 #[wv 0 l] w (Ret (.tuple #[.int .u64 l, .nilIface]) w) := by
  unfold wv
  go_enter Tryz.func198, Tryz.ntmps198
  go_wp2
  go_returns
  exact ⟨rfl, (Below.refl _ _).alloc (Nat.le_refl _) _⟩

set_option maxHeartbeats 1000000 in
theorem Scale_zero (a b : Nat) (ha : a < 18446744073709551616) (hb : b < 18446744073709551616) (w : World) :
    Calls Tryz.prog 212 #[.int .u64 a, .int .u64 b, .int .u64 0] w (Ret (.tuple #[.int .u64 0, .int .u64 0, eno 1]) w) := by
  have hM := fun W => Mul_any a b ha hb W
  obtain ⟨h, hh⟩ : ∃ h, a * b / 18446744073709551616 = h := ⟨_, rfl⟩
  obtain ⟨l, hl⟩ : ∃ l, a * b % 18446744073709551616 = l := ⟨_, rfl⟩
  have hD := fun W => Div_zero h l W
  unfold wof at hM
  rw [hh, hl] at hM
  clear hh hl
  unfold wv at hM hD
  unfold eno at hD ⊢
  go_enter Tryz.func212, Tryz.ntmps212
  go_wp2_with (first
    | (go_at_call 195; refine (hM _).mono ?_; rintro e w1 ⟨rfl, hb1⟩)
    | (go_at_call 197; refine (hD _).mono ?_; rintro e w2 ⟨rfl, hb2⟩))
  go_ret3
  exact ⟨rfl, (hb1.trans (hb2.mono hb1.size)).alloc (Nat.le_trans hb1.size hb2.size) _⟩

theorem of_mul (a b : Nat) (ha : a < 18446744073709551616) (hb : b < 18446744073709551616) : a * b / 18446744073709551616 < 18446744073709551616 := by
  rw [Nat.div_lt_iff_lt_mul (by decide)]
  exact Nat.mul_lt_mul_of_lt_of_le ha (Nat.le_of_lt hb) (by decide)

set_option maxHeartbeats 2000000 in
theorem Scale_over (a b c : Nat) (ha : a < 18446744073709551616) (hb : b < 18446744073709551616) (hc0 : 0 < c) (hc : c < 18446744073709551616) (hq : 18446744073709551616 ≤ a * b / c) (w : World) :
    Calls Tryz.prog 212 #[.int .u64 a, .int .u64 b, .int .u64 c] w (Ret (.tuple #[.int .u64 0, .int .u64 0, eno 12]) w) := by
  have hM := fun W => Mul_any a b ha hb W
  obtain ⟨h, hh⟩ : ∃ h, a * b / 18446744073709551616 = h := ⟨_, rfl⟩
  obtain ⟨l, hl⟩ : ∃ l, a * b % 18446744073709551616 = l := ⟨_, rfl⟩
  have hhl : h < 18446744073709551616 := by rw [← hh]; exact of_mul a b ha hb
  have hD := fun W => Div_some h l c hhl (by omega) hc0 hc W
  rw [show h * 18446744073709551616 + l = a * b by omega] at hD
  obtain ⟨s, hs⟩ : ∃ s, a * b % c = s := ⟨_, rfl⟩
  rw [hs] at hD
  unfold wof at hM hD
  rw [hh, hl] at hM
  obtain ⟨q, hqe⟩ : ∃ q, a * b / c = q := ⟨_, rfl⟩
  rw [hqe] at hD hq
  obtain ⟨qh, hqh⟩ : ∃ qh, q / 18446744073709551616 = qh := ⟨_, rfl⟩
  obtain ⟨ql, hql⟩ : ∃ ql, q % 18446744073709551616 = ql := ⟨_, rfl⟩
  rw [hqh, hql] at hD
  have hqp : 0 < qh := by omega
  have hS := fun W => Small_over qh ql hqp W
  clear hh hl hs hqe hqh hql hq hhl
  unfold wv at hM hD hS
  unfold eno at hS ⊢
  go_enter Tryz.func212, Tryz.ntmps212
  go_wp2_with (first
    | (go_at_call 195; refine (hM _).mono ?_; rintro e w1 ⟨rfl, hb1⟩)
    | (go_at_call 197; refine (hD _).mono ?_; rintro e w2 ⟨rfl, hb2⟩)
    | (go_at_call 198; refine (hS _).mono ?_; rintro e w3 ⟨rfl, hb3⟩))
  go_ret3
  have h2 := (hb1.trans (hb2.mono hb1.size)).alloc (Nat.le_trans hb1.size hb2.size) (.cells #[.int .u64 qh, .int .u64 ql] 276)
  exact ⟨rfl, h2.trans (hb3.mono h2.size)⟩

set_option maxHeartbeats 2000000 in
theorem Scale_ok (a b c : Nat) (ha : a < 18446744073709551616) (hb : b < 18446744073709551616) (hc0 : 0 < c) (hc : c < 18446744073709551616) (hq : a * b / c < 18446744073709551616) (w : World) :
    Calls Tryz.prog 212 #[.int .u64 a, .int .u64 b, .int .u64 c] w (Ret (.tuple #[.int .u64 (a * b / c : Nat), .int .u64 (a * b % c : Nat), .nilIface]) w) := by
  have hM := fun W => Mul_any a b ha hb W
  obtain ⟨h, hh⟩ : ∃ h, a * b / 18446744073709551616 = h := ⟨_, rfl⟩
  obtain ⟨l, hl⟩ : ∃ l, a * b % 18446744073709551616 = l := ⟨_, rfl⟩
  have hhl : h < 18446744073709551616 := by rw [← hh]; exact of_mul a b ha hb
  have hD := fun W => Div_some h l c hhl (by omega) hc0 hc W
  rw [show h * 18446744073709551616 + l = a * b by omega] at hD
  obtain ⟨s, hs⟩ : ∃ s, a * b % c = s := ⟨_, rfl⟩
  rw [hs] at hD ⊢
  unfold wof at hM hD
  rw [hh, hl] at hM
  obtain ⟨q, hqe⟩ : ∃ q, a * b / c = q := ⟨_, rfl⟩
  rw [hqe] at hD hq ⊢
  rw [show q / 18446744073709551616 = 0 by omega, show q % 18446744073709551616 = q by omega] at hD
  have hS := fun W => Small_ok q W
  clear hh hl hs hqe hq hhl
  unfold wv at hM hD hS
  go_enter Tryz.func212, Tryz.ntmps212
  go_wp2_with (first
    | (go_at_call 195; refine (hM _).mono ?_; rintro e w1 ⟨rfl, hb1⟩)
    | (go_at_call 197; refine (hD _).mono ?_; rintro e w2 ⟨rfl, hb2⟩)
    | (go_at_call 198; refine (hS _).mono ?_; rintro e w3 ⟨rfl, hb3⟩))
  go_ret3
  have h2 := (hb1.trans (hb2.mono hb1.size)).alloc (Nat.le_trans hb1.size hb2.size) (.cells #[.int .u64 0, .int .u64 q] 276)
  exact ⟨rfl, h2.trans (hb3.mono h2.size)⟩

end Go.Proofs.YtpbfipeinblfgaaGreatDoor
namespace Go.Proofs.YtpbfipeinblfgaaGreatDoor
open Go.RowKit

theorem add64_run (x y c : Nat) (hc : c ≤ 1) (w : World) :
    (callFunc 249 #[.int .u64 x, .int .u64 y, .int .u64 c]).run Tryz.prog w =
      .ok (.value (.tuple #[.int .u64 (((x + y + c) % 18446744073709551616 : Nat) : Int), .int .u64 (((x + y + c) / 18446744073709551616 : Nat) : Int)])) w := by
  rw [run_callFunc_extern Tryz.func249 (by kernel_rfl) (by kernel_rfl) (by kernel_rfl) (e := add64Entry) (by kernel_rfl), run_add64 x y c (by omega) (by omega) (by omega) (by omega)]
  simp only [Result.andThen]
  congr 5 <;> omega

set_option maxHeartbeats 2000000 in
theorem Plus_over (h1 l1 h2 l2 : Nat) (a1 : h1 < 18446744073709551616) (a2 : l1 < 18446744073709551616) (a3 : h2 < 18446744073709551616) (a4 : l2 < 18446744073709551616)
    (hs : 340282366920938463463374607431768211456 ≤ h1 * 18446744073709551616 + l1 + (h2 * 18446744073709551616 + l2)) (w : World) :
    Calls Tryz.prog 228 #[wv h1 l1, wv h2 l2] w (Ret (.tuple #[wv 0 0, eno 12]) w) := by
  have r1 := fun W => add64_run l1 l2 0 (by decide) W
  obtain ⟨lo, hlo⟩ : ∃ lo, (l1 + l2 + 0) % 18446744073709551616 = lo := ⟨_, rfl⟩
  obtain ⟨ca, hca⟩ : ∃ ca, (l1 + l2 + 0) / 18446744073709551616 = ca := ⟨_, rfl⟩
  rw [hlo, hca] at r1
  have r2 := fun W => add64_run h1 h2 ca (by omega) W
  obtain ⟨hi, hhi⟩ : ∃ hi, (h1 + h2 + ca) % 18446744073709551616 = hi := ⟨_, rfl⟩
  rw [hhi, show (h1 + h2 + ca) / 18446744073709551616 = 1 by omega] at r2
  replace r1 : ∀ W, (callFunc 249 #[.int .u64 (l1 : Int), .int .u64 (l2 : Int), .int .u64 0]).run Tryz.prog W = .ok (.value (.tuple #[.int .u64 (lo : Int), .int .u64 (ca : Int)])) W := r1
  replace r2 : ∀ W, (callFunc 249 #[.int .u64 (h1 : Int), .int .u64 (h2 : Int), .int .u64 (ca : Int)]).run Tryz.prog W = .ok (.value (.tuple #[.int .u64 (hi : Int), .int .u64 1])) W := r2
  clear hlo hca hhi hs
  unfold wv eno
  go_enter Tryz.func228, Tryz.ntmps228
  go_wp2
  go_returns
  exact ⟨rfl, (((Below.refl _ _).alloc (Nat.le_refl _) _).alloc (by simp) _).alloc (by simp; omega) _⟩

set_option maxHeartbeats 2000000 in
theorem Plus_ok (h1 l1 h2 l2 S : Nat) (a2 : l1 < 18446744073709551616) (a4 : l2 < 18446744073709551616)
    (hS : h1 * 18446744073709551616 + l1 + (h2 * 18446744073709551616 + l2) = S) (hs : S < 340282366920938463463374607431768211456) (w : World) :
    Calls Tryz.prog 228 #[wv h1 l1, wv h2 l2] w (Ret (.tuple #[wof S, .nilIface]) w) := by
  have r1 := fun W => add64_run l1 l2 0 (by decide) W
  obtain ⟨lo, hlo⟩ : ∃ lo, (l1 + l2 + 0) % 18446744073709551616 = lo := ⟨_, rfl⟩
  obtain ⟨ca, hca⟩ : ∃ ca, (l1 + l2 + 0) / 18446744073709551616 = ca := ⟨_, rfl⟩
  rw [hlo, hca] at r1
  have r2 := fun W => add64_run h1 h2 ca (by omega) W
  obtain ⟨hi, hhi⟩ : ∃ hi, (h1 + h2 + ca) % 18446744073709551616 = hi := ⟨_, rfl⟩
  rw [hhi, show (h1 + h2 + ca) / 18446744073709551616 = 0 by omega] at r2
  replace r1 : ∀ W, (callFunc 249 #[.int .u64 (l1 : Int), .int .u64 (l2 : Int), .int .u64 0]).run Tryz.prog W = .ok (.value (.tuple #[.int .u64 (lo : Int), .int .u64 (ca : Int)])) W := r1
  replace r2 : ∀ W, (callFunc 249 #[.int .u64 (h1 : Int), .int .u64 (h2 : Int), .int .u64 (ca : Int)]).run Tryz.prog W = .ok (.value (.tuple #[.int .u64 (hi : Int), .int .u64 0])) W := r2
  rw [show S = hi * 18446744073709551616 + lo by omega, wof_parts hi lo (by omega)]
  clear hlo hca hhi hs hS
  unfold wv
  go_enter Tryz.func228, Tryz.ntmps228
  go_wp2
  go_returns
  exact ⟨rfl, (((Below.refl _ _).alloc (Nat.le_refl _) _).alloc (by simp) _).alloc (by simp; omega) _⟩

set_option maxHeartbeats 2000000 in
theorem Add_over (h1 l1 n : Nat) (a1 : h1 < 18446744073709551616) (a2 : l1 < 18446744073709551616) (a4 : n < 18446744073709551616)
    (hs : 340282366920938463463374607431768211456 ≤ h1 * 18446744073709551616 + l1 + n) (w : World) :
    Calls Tryz.prog 196 #[wv h1 l1, .int .u64 n] w (Ret (.tuple #[wv 0 0, eno 12]) w) := by
  have hP := fun W => Plus_over h1 l1 0 n a1 a2 (by decide) a4 (by omega) W
  clear hs
  unfold wv at hP ⊢
  unfold eno at hP ⊢
  go_enter Tryz.func196, Tryz.ntmps196
  go_wp2_with fail
  refine (hP _).mono ?_
  rintro e w1 ⟨rfl, hb1⟩
  have hs1 := hb1.size
  have hb : Below w.heap.size w w1 := (((Below.refl _ _).alloc (Nat.le_refl _) _).alloc (by simp) _).trans (hb1.mono (by simp; omega))
  have HK : Hid (Blk w1 (w.heap.size + 1) 276 #[.int .u64 0, .int .u64 0]) := Lib.hid (by
    have h := Blk.new (w.alloc (.cells #[.int .u64 (h1 : Int), .int .u64 (l1 : Int)] 276)) 276 #[.int .u64 0, .int .u64 0]
    simp only [World.size_alloc] at h
    exact h.below hb1 (by simp))
  have k0 : w1.cell? ⟨w.heap.size + 1, 0, none⟩ = some (.int .u64 0) := HK.out.cell 0
  have k1 : w1.cell? ⟨w.heap.size + 1, 1, none⟩ = some (.int .u64 0) := HK.out.cell 1
  have f0 : w1.frozen? ⟨w.heap.size + 1, 0, none⟩ = false := HK.out.frozen 0
  have f1 : w1.frozen? ⟨w.heap.size + 1, 1, none⟩ = false := HK.out.frozen 1
  clear hb1
  go_wp2_with fail
  have HB := (HK.out.set_ 0 (.int .u64 0)).set_ 1 (.int .u64 0)
  have q0 := HB.cell 0
  have q1 := HB.cell 1
  refine bodyPost_ret (by simp [results, Tryz.results196, go_sem, q0, q1]; try rfl) rfl ?_
  exact ⟨rfl, (hb.setCell (by simp) _).setCell (by simp) _⟩

set_option maxHeartbeats 2000000 in
theorem Add_ok (h1 l1 n S : Nat) (a2 : l1 < 18446744073709551616) (a4 : n < 18446744073709551616)
    (hS : h1 * 18446744073709551616 + l1 + n = S) (hs : S < 340282366920938463463374607431768211456) (w : World) :
    Calls Tryz.prog 196 #[wv h1 l1, .int .u64 n] w (Ret (.tuple #[wof S, .nilIface]) w) := by
  have hP := fun W => Plus_ok h1 l1 0 n S a2 a4 (by omega) hs W
  obtain ⟨sh, sl, es, -, -⟩ := wof_ex S
  rw [es] at hP ⊢
  clear hs hS es
  unfold wv at hP ⊢
  go_enter Tryz.func196, Tryz.ntmps196
  go_wp2_with fail
  refine (hP _).mono ?_
  rintro e w1 ⟨rfl, hb1⟩
  have hs1 := hb1.size
  have hb : Below w.heap.size w w1 := (((Below.refl _ _).alloc (Nat.le_refl _) _).alloc (by simp) _).trans (hb1.mono (by simp; omega))
  have HK : Hid (Blk w1 (w.heap.size + 1) 276 #[.int .u64 0, .int .u64 0]) := Lib.hid (by
    have h := Blk.new (w.alloc (.cells #[.int .u64 (h1 : Int), .int .u64 (l1 : Int)] 276)) 276 #[.int .u64 0, .int .u64 0]
    simp only [World.size_alloc] at h
    exact h.below hb1 (by simp))
  have k0 : w1.cell? ⟨w.heap.size + 1, 0, none⟩ = some (.int .u64 0) := HK.out.cell 0
  have k1 : w1.cell? ⟨w.heap.size + 1, 1, none⟩ = some (.int .u64 0) := HK.out.cell 1
  have f0 : w1.frozen? ⟨w.heap.size + 1, 0, none⟩ = false := HK.out.frozen 0
  have f1 : w1.frozen? ⟨w.heap.size + 1, 1, none⟩ = false := HK.out.frozen 1
  clear hb1
  go_wp2_with fail
  have HB := (HK.out.set_ 0 (.int .u64 sh)).set_ 1 (.int .u64 sl)
  have q0 := HB.cell 0
  have q1 := HB.cell 1
  refine bodyPost_ret (by simp [results, Tryz.results196, go_sem, q0, q1]; try rfl) rfl ?_
  exact ⟨rfl, (hb.setCell (by simp) _).setCell (by simp) _⟩

set_option maxHeartbeats 1000000 in
theorem Round_zero (a b : Nat) (ha : a < 18446744073709551616) (hb : b < 18446744073709551616) (w : World) :
    Calls Tryz.prog 180 #[.int .u64 a, .int .u64 b, .int .u64 0] w (Ret (.tuple #[.int .u64 0, eno 1]) w) := by
  have hS := fun W => Scale_zero a b ha hb W
  unfold eno at hS ⊢
  go_enter Tryz.func180, Tryz.ntmps180
  go_wp2_with (go_at_call 212; refine (hS _).mono ?_; rintro e w1 ⟨rfl, hb1⟩)
  go_returns
  exact ⟨rfl, hb1⟩

set_option maxHeartbeats 1000000 in
theorem Round_over (a b c : Nat) (ha : a < 18446744073709551616) (hb : b < 18446744073709551616) (hc0 : 0 < c) (hc : c < 18446744073709551616) (hq : 18446744073709551616 ≤ a * b / c) (w : World) :
    Calls Tryz.prog 180 #[.int .u64 a, .int .u64 b, .int .u64 c] w (Ret (.tuple #[.int .u64 0, eno 12]) w) := by
  have hS := fun W => Scale_over a b c ha hb hc0 hc hq W
  clear hq
  unfold eno at hS ⊢
  go_enter Tryz.func180, Tryz.ntmps180
  go_wp2_with (go_at_call 212; refine (hS _).mono ?_; rintro e w1 ⟨rfl, hb1⟩)
  go_returns
  exact ⟨rfl, hb1⟩

set_option maxHeartbeats 1000000 in
theorem Round_down (a b c : Nat) (ha : a < 18446744073709551616) (hb : b < 18446744073709551616) (hc0 : 0 < c) (hc : c < 18446744073709551616) (hq : a * b / c < 18446744073709551616)
    (hd : a * b % c < c - a * b % c) (w : World) :
    Calls Tryz.prog 180 #[.int .u64 a, .int .u64 b, .int .u64 c] w (Ret (.tuple #[.int .u64 (a * b / c : Nat), .nilIface]) w) := by
  have hS := fun W => Scale_ok a b c ha hb hc0 hc hq W
  obtain ⟨q, hqe⟩ : ∃ q, a * b / c = q := ⟨_, rfl⟩
  obtain ⟨s, hs⟩ : ∃ s, a * b % c = s := ⟨_, rfl⟩
  rw [hqe, hs] at hS
  rw [hs] at hd
  rw [hqe]
  have i1 : IntKind.u64.wrap ((c : Int) - (s : Int)) = ((c : Int) - (s : Int)) := by rw [IntKind.wrap_u64]; omega
  have i2 : (s : Int) < (c : Int) - (s : Int) := by omega
  clear hq hqe hs hd
  go_enter Tryz.func180, Tryz.ntmps180
  go_wp2_with (go_at_call 212; refine (hS _).mono ?_; rintro e w1 ⟨rfl, hb1⟩)
  go_returns
  exact ⟨rfl, hb1⟩

set_option maxHeartbeats 2000000 in
theorem Round_up (a b c : Nat) (ha : a < 18446744073709551616) (hb : b < 18446744073709551616) (hc0 : 0 < c) (hc : c < 18446744073709551616) (hq : a * b / c + 1 < 18446744073709551616)
    (hd : ¬ a * b % c < c - a * b % c) (w : World) :
    Calls Tryz.prog 180 #[.int .u64 a, .int .u64 b, .int .u64 c] w (Ret (.tuple #[.int .u64 (a * b / c + 1 : Nat), .nilIface]) w) := by
  have hS := fun W => Scale_ok a b c ha hb hc0 hc (by omega) W
  have hsl := Nat.mod_lt (a * b) hc0
  obtain ⟨q, hqe⟩ : ∃ q, a * b / c = q := ⟨_, rfl⟩
  obtain ⟨s, hs⟩ : ∃ s, a * b % c = s := ⟨_, rfl⟩
  rw [hqe, hs] at hS
  rw [hs] at hd hsl
  rw [hqe] at hq ⊢
  have hA := fun W => Add_ok 0 q 1 (q + 1) (by omega) (by decide) (by omega) (by omega) W
  rw [wof_small (q + 1) hq] at hA
  obtain ⟨k, hk⟩ : ∃ k, q + 1 = k := ⟨_, rfl⟩
  rw [hk] at hA ⊢
  have hM := fun W => Small_ok k W
  have i1 : IntKind.u64.wrap ((c : Int) - (s : Int)) = ((c : Int) - (s : Int)) := by rw [IntKind.wrap_u64]; omega
  have i2 : ¬ (s : Int) < (c : Int) - (s : Int) := by omega
  unfold wv at hA hM
  clear hq hqe hs hd hk hsl
  go_enter Tryz.func180, Tryz.ntmps180
  go_wp2_with (first
    | (go_at_call 212; refine (hS _).mono ?_; rintro e w1 ⟨rfl, hb1⟩)
    | (go_at_call 196; refine (hA _).mono ?_; rintro e w2 ⟨rfl, hb2⟩)
    | (go_at_call 198; refine (hM _).mono ?_; rintro e w3 ⟨rfl, hb3⟩))
  go_returns
  have h2 := (hb1.trans (hb2.mono hb1.size)).alloc (Nat.le_trans hb1.size hb2.size) (.cells #[.int .u64 0, .int .u64 k] 276)
  exact ⟨rfl, h2.trans (hb3.mono h2.size)⟩

set_option maxHeartbeats 2000000 in
theorem Round_top (a b c : Nat) (ha : a < 18446744073709551616) (hb : b < 18446744073709551616) (hc0 : 0 < c) (hc : c < 18446744073709551616) (hq : a * b / c + 1 = 18446744073709551616)
    (hd : ¬ a * b % c < c - a * b % c) (w : World) :
    Calls Tryz.prog 180 #[.int .u64 a, .int .u64 b, .int .u64 c] w (Ret (.tuple #[.int .u64 0, eno 12]) w) := by
  have hS := fun W => Scale_ok a b c ha hb hc0 hc (by omega) W
  have hsl := Nat.mod_lt (a * b) hc0
  obtain ⟨q, hqe⟩ : ∃ q, a * b / c = q := ⟨_, rfl⟩
  obtain ⟨s, hs⟩ : ∃ s, a * b % c = s := ⟨_, rfl⟩
  rw [hqe, hs] at hS
  rw [hs] at hd hsl
  rw [hqe] at hq
  have hA := fun W => Add_ok 0 q 1 18446744073709551616 (by omega) (by decide) (by omega) (by decide) W
  have e1 : wof 18446744073709551616 = .agg #[.int .u64 1, .int .u64 0] := rfl
  rw [e1] at hA
  have hM := fun W => Small_over 1 0 (by decide) W
  have i1 : IntKind.u64.wrap ((c : Int) - (s : Int)) = ((c : Int) - (s : Int)) := by rw [IntKind.wrap_u64]; omega
  have i2 : ¬ (s : Int) < (c : Int) - (s : Int) := by omega
  unfold wv at hA hM
  unfold eno at hM ⊢
  clear hq hqe hs hd hsl e1
  go_enter Tryz.func180, Tryz.ntmps180
  go_wp2_with (first
    | (go_at_call 212; refine (hS _).mono ?_; rintro e w1 ⟨rfl, hb1⟩)
    | (go_at_call 196; refine (hA _).mono ?_; rintro e w2 ⟨rfl, hb2⟩)
    | (go_at_call 198; refine (hM _).mono ?_; rintro e w3 ⟨rfl, hb3⟩))
  go_returns
  have h2 := (hb1.trans (hb2.mono hb1.size)).alloc (Nat.le_trans hb1.size hb2.size) (.cells #[.int .u64 1, .int .u64 0] 276)
  exact ⟨rfl, h2.trans (hb3.mono h2.size)⟩
end Go.Proofs.YtpbfipeinblfgaaGreatDoor
namespace Go.Proofs.YtpbfipeinblfgaaGreatDoor
/-- How many pieces one is, by the basis. -/
def unitN (b : Nat) : Nat := if b = 1 then 365000000 else 360000000
theorem unitN_bd (b : Nat) : 360000000 ≤ unitN b ∧ unitN b ≤ 365000000 := by
  unfold unitN; split <;> omega
theorem pp_le {P p : Nat} (hP : P ≤ 1000000000000) (hp : p ≤ 1000000) : P * p ≤ 1000000000000000000 := Nat.mul_le_mul hP hp
theorem pcs_le {X d c : Nat} (hX : X ≤ 1000000000000000000) (hd : d ≤ 100000) (hc : c < 18446744073709551616) : X * d + c < 340282366920938463463374607431768211456 := by
  have := Nat.mul_le_mul hX hd
  omega
theorem pcs_div {X d c U : Nat} (hX : X ≤ 1000000000000000000) (hd : d ≤ 100000) (hU : 360000000 ≤ U) (hc : c < U) : (X * d + c) / U < 9223372036854775808 := by
  have h := Nat.mul_le_mul hX hd
  rw [Nat.div_lt_iff_lt_mul (by omega)]
  have : 9223372036854775808 * 360000000 ≤ 9223372036854775808 * U := Nat.mul_le_mul_left _ hU
  omega
/-- Part by part: what was carried adds up. -/
theorem adds_step {X U s l c A k : Nat} (h : s * U + l = X * A + c) :
    (s + (X * k + l) / U) * U + (X * k + l) % U = X * (A + k) + c := by
  have e := Nat.div_add_mod (X * k + l) U
  rw [Nat.add_mul, Nat.mul_add, Nat.mul_comm ((X * k + l) / U) U]
  omega
theorem adds_end {U s l N : Nat} (h : s * U + l = N) (hl : l < U) : N / U = s ∧ N % U = l := by
  subst h
  constructor
  · rw [Nat.add_comm, Nat.add_mul_div_right _ _ (by omega), Nat.div_eq_of_lt hl, Nat.zero_add]
  · rw [Nat.add_comm, Nat.add_mul_mod_self_right, Nat.mod_eq_of_lt hl]
theorem bound_one {X U c : Nat} (hU : 0 < U) (hc : c < U) : X / U ≤ (X + c) / U ∧ (X + c) / U ≤ X / U + 1 := by
  constructor
  · exact Nat.div_le_div_right (Nat.le_add_right _ _)
  · calc (X + c) / U ≤ (X + U) / U := Nat.div_le_div_right (by omega)
      _ = X / U + 1 := Nat.add_div_right _ hU
theorem grows {P Q p q d e U : Nat} (h1 : P ≤ Q) (h2 : p ≤ q) (h3 : d ≤ e) : (P * p * d + 0) / U ≤ (Q * q * e + 0) / U :=
  Nat.div_le_div_right (Nat.mul_le_mul (Nat.mul_le_mul h1 h2) h3)
/-- A month: a twelfth of a year. -/
theorem month_div (X : Nat) : X * 30 / 360000000 = X / 12000000 ∧ X * 30 % 360000000 = X % 12000000 * 30 := by
  omega
end Go.Proofs.YtpbfipeinblfgaaGreatDoor
namespace Go.Proofs.YtpbfipeinblfgaaGreatDoor
open Go.RowKit

theorem b_alloc (w : World) (o : Obj) : Below w.heap.size w (w.alloc o) := (Below.refl _ w).alloc (Nat.le_refl _) o
theorem one_b {w w' : World} {o : Obj} (h : Below (w.alloc o).heap.size (w.alloc o) w') : Below w.heap.size w w' := (b_alloc w o).trans (h.mono (by simp))
/-- A rate. -/
def rv (p b : Nat) : Value := .agg #[.int .u32 (p : Int), .int .u8 (b : Int)]
def rateB (p b : Nat) : Prop := p ≤ 1000000 ∧ (b = 1 ∨ b = 2)
instance (p b : Nat) : Decidable (rateB p b) := inferInstanceAs (Decidable (_ ∧ _))

set_option maxHeartbeats 1000000 in
theorem Right_any (a : Int) (w : World) :
    Calls Tryz.prog 103 #[.int .i64 a] w fun e w' => e = .returned (.bool (decide (0 ≤ a ∧ a ≤ 1000000000000))) ∧ w' = w := by
  by_cases h0 : 0 ≤ a
  · by_cases h1 : a ≤ 1000000000000
    · rw [decide_eq_true ⟨h0, h1⟩]
      go_enter Tryz.func103, Tryz.ntmps103
      go_wp2
      go_ret
      exact ⟨rfl, rfl⟩
    · rw [decide_eq_false (fun h => h1 h.2)]
      go_enter Tryz.func103, Tryz.ntmps103
      go_wp2
      go_ret
      exact ⟨rfl, rfl⟩
  · rw [decide_eq_false (fun h => h0 h.1)]
    go_enter Tryz.func103, Tryz.ntmps103
    go_wp2
    go_ret
    exact ⟨rfl, rfl⟩
theorem Coin_yes {a : Int} (h0 : 0 ≤ a) (h1 : a ≤ 1000000000000) (w : World) : Calls Tryz.prog 103 #[.int .i64 a] w fun e w' => e = .returned (.bool true) ∧ w = w' := by
  refine (Right_any a w).mono ?_
  rintro e w' ⟨rfl, rfl⟩
  exact ⟨by rw [decide_eq_true ⟨h0, h1⟩], rfl⟩
theorem Coin_no {a : Int} (h : ¬ (0 ≤ a ∧ a ≤ 1000000000000)) (w : World) : Calls Tryz.prog 103 #[.int .i64 a] w fun e w' => e = .returned (.bool false) ∧ w = w' := by
  refine (Right_any a w).mono ?_
  rintro e w' ⟨rfl, rfl⟩
  exact ⟨by rw [decide_eq_false h], rfl⟩

set_option maxHeartbeats 1000000 in
theorem Year_any (b : Nat) (w : World) : Calls Tryz.prog 138 #[.int .u8 (b : Int)] w fun e w' => e = .returned (.int .i64 (if b = 1 then 365 else if b = 2 then 360 else 0)) ∧ w = w' := by
  by_cases h1 : b = 1
  · subst h1
    go_enter Tryz.func138, Tryz.ntmps138
    go_wp2_with fail
    go_ret
    exact ⟨rfl, rfl⟩
  · by_cases h2 : b = 2
    · subst h2
      go_enter Tryz.func138, Tryz.ntmps138
      go_wp2_with fail
      go_ret
      exact ⟨rfl, rfl⟩
    · rw [if_neg h1, if_neg h2]
      have i1 : ¬ (b : Int) = 1 := by omega
      have i2 : ¬ (b : Int) = 2 := by omega
      have j1 : ((b : Int) == 1) = false := by rw [beq_eq_false_iff_ne]; omega
      have j2 : ((b : Int) == 2) = false := by rw [beq_eq_false_iff_ne]; omega
      clear h1 h2
      go_enter Tryz.func138, Tryz.ntmps138
      go_wp2_with fail
      go_ret
      exact ⟨rfl, rfl⟩
theorem Year_bad {b : Nat} (h : ¬ (b = 1 ∨ b = 2)) (w : World) : Calls Tryz.prog 138 #[.int .u8 (b : Int)] w fun e w' => e = .returned (.int .i64 0) ∧ w = w' := by
  have := Year_any b w
  rwa [if_neg (fun e => h (Or.inl e)), if_neg (fun e => h (Or.inr e))] at this

set_option maxHeartbeats 2000000 in
theorem YR_yes {p b : Nat} (h : rateB p b) (w : World) : Calls Tryz.prog 87 #[rv p b] w (Ret (.bool true) w) := by
  obtain ⟨hp, hb⟩ := h
  have hY := fun W => Year_any b W
  unfold rv
  have i1 : (p : Int) ≤ 1000000 := by omega
  rcases hb with rfl | rfl
  · replace hY : ∀ W, Calls Tryz.prog 138 #[.int .u8 1] W fun e w' => e = .returned (.int .i64 365) ∧ W = w' := hY
    go_enter Tryz.func87, Tryz.ntmps87
    go_wp2_with (go_at_call 138; refine (hY _).mono ?_; rintro e w1 ⟨rfl, rfl⟩)
    go_ret
    exact ⟨rfl, b_alloc _ _⟩
  · replace hY : ∀ W, Calls Tryz.prog 138 #[.int .u8 2] W fun e w' => e = .returned (.int .i64 360) ∧ W = w' := hY
    go_enter Tryz.func87, Tryz.ntmps87
    go_wp2_with (go_at_call 138; refine (hY _).mono ?_; rintro e w1 ⟨rfl, rfl⟩)
    go_ret
    exact ⟨rfl, b_alloc _ _⟩
set_option maxHeartbeats 2000000 in
theorem YR_no {p b : Nat} (h : ¬ rateB p b) (w : World) : Calls Tryz.prog 87 #[rv p b] w (Ret (.bool false) w) := by
  unfold rv
  by_cases hp : p ≤ 1000000
  · have hY := fun W => Year_bad (b := b) (fun hb => h ⟨hp, hb⟩) W
    have i1 : (p : Int) ≤ 1000000 := by omega
    clear h
    go_enter Tryz.func87, Tryz.ntmps87
    go_wp2_with (go_at_call 138; refine (hY _).mono ?_; rintro e w1 ⟨rfl, rfl⟩)
    go_ret
    exact ⟨rfl, b_alloc _ _⟩
  · have i1 : ¬ (p : Int) ≤ 1000000 := by omega
    clear h
    go_enter Tryz.func87, Tryz.ntmps87
    go_wp2_with fail
    go_ret
    exact ⟨rfl, b_alloc _ _⟩
set_option maxHeartbeats 2000000 in
theorem unitOf_any {b : Nat} (hb : b = 1 ∨ b = 2) (w : World) : Calls Tryz.prog 182 #[.int .u8 (b : Int)] w (Ret (.int .u64 (unitN b : Nat)) w) := by
  have hY := fun W => Year_any b W
  rcases hb with rfl | rfl
  · replace hY : ∀ W, Calls Tryz.prog 138 #[.int .u8 1] W fun e w' => e = .returned (.int .i64 365) ∧ W = w' := hY
    rw [show unitN 1 = 365000000 from rfl]
    go_enter Tryz.func182, Tryz.ntmps182
    go_wp2_with (go_at_call 138; refine (hY _).mono ?_; rintro e w1 ⟨rfl, rfl⟩)
    go_ret
    exact ⟨rfl, Below.refl _ _⟩
  · replace hY : ∀ W, Calls Tryz.prog 138 #[.int .u8 2] W fun e w' => e = .returned (.int .i64 360) ∧ W = w' := hY
    rw [show unitN 2 = 360000000 from rfl]
    go_enter Tryz.func182, Tryz.ntmps182
    go_wp2_with (go_at_call 138; refine (hY _).mono ?_; rintro e w1 ⟨rfl, rfl⟩)
    go_ret
    exact ⟨rfl, Below.refl _ _⟩
set_option maxHeartbeats 2000000 in
theorem takes_yes {p b : Nat} {P : Int} (h : rateB p b) (h0 : 0 ≤ P) (h1 : P ≤ 1000000000000) (w : World) : Calls Tryz.prog 179 #[rv p b, .int .i64 P] w (Ret (.bool true) w) := by
  have hR := fun W => YR_yes h W
  have hC := fun W => Coin_yes h0 h1 W
  clear h
  unfold rv at hR ⊢
  go_enter Tryz.func179, Tryz.ntmps179
  have HQ0 := Lib.hid (Blk.new w 25 #[.int .u32 (p : Int), .int .u8 (b : Int)])
  have HB0 := Lib.hid (b_alloc w (.cells #[.int .u32 (p : Int), .int .u8 (b : Int)] 25))
  go_wp2_with fail
  refine (hR _).mono ?_
  rintro e w1 ⟨rfl, hb1⟩
  have HQ1_0 := Lib.hid (HQ0.out.below hb1 HQ0.out.lt)
  have HB1 := Lib.hid (HB0.out.trans (hb1.mono HB0.out.size))
  clear hb1
  have c1_0_0 := HQ1_0.out.cell 0
  have c1_0_1 := HQ1_0.out.cell 1
  have z1_0 := HQ1_0.out.lt
  simp at c1_0_0 c1_0_1
  go_wp2_with fail
  refine (hC _).mono ?_
  rintro e w99 ⟨rfl, rfl⟩
  go_wp2_with fail
  go_ret
  exact ⟨rfl, HB1.out⟩
set_option maxHeartbeats 2000000 in
theorem takes_rate {p b : Nat} (P : Int) (h : ¬ rateB p b) (w : World) : Calls Tryz.prog 179 #[rv p b, .int .i64 P] w (Ret (.bool false) w) := by
  have hR := fun W => YR_no h W
  clear h
  unfold rv at hR ⊢
  go_enter Tryz.func179, Tryz.ntmps179
  have HQ0 := Lib.hid (Blk.new w 25 #[.int .u32 (p : Int), .int .u8 (b : Int)])
  have HB0 := Lib.hid (b_alloc w (.cells #[.int .u32 (p : Int), .int .u8 (b : Int)] 25))
  go_wp2_with fail
  refine (hR _).mono ?_
  rintro e w1 ⟨rfl, hb1⟩
  have HQ1_0 := Lib.hid (HQ0.out.below hb1 HQ0.out.lt)
  have HB1 := Lib.hid (HB0.out.trans (hb1.mono HB0.out.size))
  clear hb1
  have c1_0_0 := HQ1_0.out.cell 0
  have c1_0_1 := HQ1_0.out.cell 1
  have z1_0 := HQ1_0.out.lt
  simp at c1_0_0 c1_0_1
  go_wp2_with fail
  go_ret
  exact ⟨rfl, HB1.out⟩
set_option maxHeartbeats 2000000 in
theorem takes_coin {p b : Nat} {P : Int} (h : rateB p b) (h0 : ¬ (0 ≤ P ∧ P ≤ 1000000000000)) (w : World) : Calls Tryz.prog 179 #[rv p b, .int .i64 P] w (Ret (.bool false) w) := by
  have hR := fun W => YR_yes h W
  have hC := fun W => Coin_no h0 W
  clear h h0
  unfold rv at hR ⊢
  go_enter Tryz.func179, Tryz.ntmps179
  have HQ0 := Lib.hid (Blk.new w 25 #[.int .u32 (p : Int), .int .u8 (b : Int)])
  have HB0 := Lib.hid (b_alloc w (.cells #[.int .u32 (p : Int), .int .u8 (b : Int)] 25))
  go_wp2_with fail
  refine (hR _).mono ?_
  rintro e w1 ⟨rfl, hb1⟩
  have HQ1_0 := Lib.hid (HQ0.out.below hb1 HQ0.out.lt)
  have HB1 := Lib.hid (HB0.out.trans (hb1.mono HB0.out.size))
  clear hb1
  have c1_0_0 := HQ1_0.out.cell 0
  have c1_0_1 := HQ1_0.out.cell 1
  have z1_0 := HQ1_0.out.lt
  simp at c1_0_0 c1_0_1
  go_wp2_with fail
  refine (hC _).mono ?_
  rintro e w99 ⟨rfl, rfl⟩
  go_wp2_with fail
  go_ret
  exact ⟨rfl, HB1.out⟩
set_option maxHeartbeats 2000000 in
theorem takes_no {p b : Nat} {P : Int} (h : ¬ (rateB p b ∧ 0 ≤ P ∧ P ≤ 1000000000000)) (w : World) : Calls Tryz.prog 179 #[rv p b, .int .i64 P] w (Ret (.bool false) w) := by
  by_cases hr : rateB p b
  · exact takes_coin hr (fun hc => h ⟨hr, hc⟩) w
  · exact takes_rate P hr w
set_option maxHeartbeats 2000000 in
theorem daily_any {P p X : Nat} (b : Nat) (hP : P ≤ 1000000000000) (hp : p ≤ 1000000) (hX : P * p = X) (w : World) : Calls Tryz.prog 181 #[rv p b, .int .i64 (P : Int)] w (Ret (.int .u64 (X : Int)) w) := by
  have hXl := pp_le hP hp
  rw [hX] at hXl
  have i1 : (P : Int) * (p : Int) = (X : Int) := by rw [← hX]; simp
  have i2 : IntKind.u64.wrap (X : Int) = (X : Int) := by rw [IntKind.wrap_u64]; omega
  have i3 : IntKind.u64.wrap (P : Int) = (P : Int) := by rw [IntKind.wrap_u64]; omega
  have i4 : IntKind.u64.wrap (p : Int) = (p : Int) := by rw [IntKind.wrap_u64]; omega
  clear hXl hX
  unfold rv
  go_enter Tryz.func181, Tryz.ntmps181
  go_wp2_with fail
  go_ret

  exact ⟨by first | rfl | rw [i1, i2], b_alloc _ _⟩
end Go.Proofs.YtpbfipeinblfgaaGreatDoor
