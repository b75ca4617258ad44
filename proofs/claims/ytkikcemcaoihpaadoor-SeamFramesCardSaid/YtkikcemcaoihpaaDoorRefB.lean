/-
  The references' Word, Value. Conditions: the bytes are there.
-/
import Derived.Test.YtkikcemcaoihpaaDoorRefA
namespace Go.Proofs.YtkikcemcaoihpaaDoor
open Go.RowKit

/-- Four bytes in a block of their own. -/
theorem four_rd (w : World) (a b c d : UInt8) : Rd (w.alloc (.cells #[.int .u8 (a.toNat : Int), .int .u8 (b.toNat : Int), .int .u8 (c.toNat : Int), .int .u8 (d.toNat : Int)] 5)) (w.heap.size + 1) (some ⟨w.heap.size, 0, none⟩) [a, b, c, d] := fun _ =>
  ⟨w.heap.size, 0, rfl, by omega, fun j u hu => by
    rcases j with _ | _ | _ | _ | j
    all_goals first
      | (simp only [List.getElem?_cons_zero, List.getElem?_cons_succ, Option.some.injEq] at hu; subst hu; simp [go_sem]; done)
      | (simp at hu; done)⟩

set_option maxHeartbeats 1000000 in
theorem Word_any (n : Nat) (w : World) (hn : n < 4294967296) : Calls Tryd.prog 60 #[.int .u64 n] w (CutPost w.heap.size w (Crc.wrd n)) := by
  have h0 : ((UInt8.ofNat n).toNat : Int) = (n : Int) % 256 := by rw [Crc.ofNat_toNat]; omega
  have h1 : ((UInt8.ofNat (n / 256)).toNat : Int) = (n : Int) / 256 % 256 := by rw [Crc.ofNat_toNat]; omega
  have h2 : ((UInt8.ofNat (n / 65536)).toNat : Int) = (n : Int) / 65536 % 256 := by rw [Crc.ofNat_toNat]; omega
  have h3 : ((UInt8.ofNat (n / 16777216)).toNat : Int) = (n : Int) / 16777216 % 256 := by rw [Crc.ofNat_toNat]; omega
  have HR := Lib.hid (four_rd w (UInt8.ofNat n) (UInt8.ofNat (n / 256)) (UInt8.ofNat (n / 65536)) (UInt8.ofNat (n / 16777216)))
  rw [h0, h1, h2, h3] at HR
  clear h0 h1 h2 h3
  go_enter Tryd.func60, Tryd.ntmps60
  go_wp2
  go_ret
  refine ⟨some ⟨w.heap.size, 0, none⟩, 4, rfl, by rw [Crc.wrd_length]; decide, by decide, ?_, (Below.refl _ w).alloc (Nat.le_refl _) _⟩
  exact HR.out.more (by simp)

set_option maxHeartbeats 1000000 in
theorem Value_any (A : Option Addr) (n c B : Nat) (l : List UInt8) (w : World) (hR : Rd w B A l) (hn : l.length = n) (hm : n ≤ maxLen) (h4 : 4 ≤ n) :
    Calls Tryd.prog 61 #[.slice A n c] w (QuietPost (.int .u64 (headOf l : Nat)) w) := by
  unfold maxLen at hm
  subst hn
  obtain ⟨b, o, rfl, _, c0⟩ := hR.at_ (k := 0) (by omega)
  obtain ⟨b1, o1, e1, _, c1⟩ := hR.at_ (k := 1) (by omega)
  obtain ⟨b2, o2, e2, _, c2⟩ := hR.at_ (k := 2) (by omega)
  obtain ⟨b3, o3, e3, _, c3⟩ := hR.at_ (k := 3) (by omega)
  cases e1; cases e2; cases e3
  have hv : headOf l = (l[0]).toNat + 256 * (l[1]).toNat + 65536 * (l[2]).toNat + 16777216 * (l[3]).toNat := by
    have g0 : l.getD 0 0 = l[0] := by simp [List.getD, List.getElem?_eq_getElem (show 0 < l.length by omega)]
    have g1 : l.getD 1 0 = l[1] := by simp [List.getD, List.getElem?_eq_getElem (show 1 < l.length by omega)]
    have g2 : l.getD 2 0 = l[2] := by simp [List.getD, List.getElem?_eq_getElem (show 2 < l.length by omega)]
    have g3 : l.getD 3 0 = l[3] := by simp [List.getD, List.getElem?_eq_getElem (show 3 < l.length by omega)]
    simp only [headOf, valK, g0, g1, g2, g3]
    omega
  have HV := Lib.hid hv
  have u0 := Crc.u8_lt l[0]
  have u1 := Crc.u8_lt l[1]
  have u2 := Crc.u8_lt l[2]
  have u3 := Crc.u8_lt l[3]
  clear hv
  generalize (l[0]).toNat = x0 at c0 HV u0
  generalize (l[1]).toNat = x1 at c1 HV u1
  generalize (l[2]).toNat = x2 at c2 HV u2
  generalize (l[3]).toNat = x3 at c3 HV u3
  rw [Nat.add_zero] at c0
  have i0 : (0 : Int) < ((l.length : Nat) : Int) := by omega
  have i1 : (1 : Int) < ((l.length : Nat) : Int) := by omega
  have i2 : (2 : Int) < ((l.length : Nat) : Int) := by omega
  have i3 : (3 : Int) < ((l.length : Nat) : Int) := by omega
  have m1 : IntKind.u64.wrap (256 * (x1 : Int)) = 256 * (x1 : Int) := by rw [IntKind.wrap_u64]; omega
  have m2 : IntKind.u64.wrap (65536 * (x2 : Int)) = 65536 * (x2 : Int) := by rw [IntKind.wrap_u64]; omega
  have m3 : IntKind.u64.wrap (16777216 * (x3 : Int)) = 16777216 * (x3 : Int) := by rw [IntKind.wrap_u64]; omega
  have s1 : IntKind.u64.wrap ((x0 : Int) + 256 * (x1 : Int)) = (x0 : Int) + 256 * (x1 : Int) := by rw [IntKind.wrap_u64]; omega
  have s2 : IntKind.u64.wrap ((x0 : Int) + 256 * (x1 : Int) + 65536 * (x2 : Int)) = (x0 : Int) + 256 * (x1 : Int) + 65536 * (x2 : Int) := by rw [IntKind.wrap_u64]; omega
  have s3 : IntKind.u64.wrap ((x0 : Int) + 256 * (x1 : Int) + 65536 * (x2 : Int) + 16777216 * (x3 : Int)) = (x0 : Int) + 256 * (x1 : Int) + 65536 * (x2 : Int) + 16777216 * (x3 : Int) := by rw [IntKind.wrap_u64]; omega
  go_enter Tryd.func61, Tryd.ntmps61
  go_wp2_with fail
  go_quiet (fail)
  go_wp2
  go_ret
  refine ⟨?_, _, rfl⟩
  rw [HV.out]
  exact congrArg (fun z : Int => Ending.returned (.int .u64 z)) (show (x0 : Int) + 256 * (x1 : Int) + 65536 * (x2 : Int) + 16777216 * (x3 : Int) = ((x0 + 256 * x1 + 65536 * x2 + 16777216 * x3 : Nat) : Int) by omega)

theorem xor_ones (d : Nat) (hd : d < 4294967296) : 4294967295 ^^^ d = 4294967295 - d := by
  have e : (4294967295 : Nat) - d = 2 ^ 32 - (d + 1) := by omega
  apply Nat.eq_of_testBit_eq
  intro i
  rw [e, Nat.testBit_two_pow_sub_succ hd, Nat.testBit_xor, show (4294967295 : Nat) = 2 ^ 32 - 1 from rfl, Nat.testBit_two_pow_sub_one]
  rcases Nat.lt_or_ge i 32 with h | h
  · simp [h]
  · have : d.testBit i = false := Nat.testBit_lt_two_pow (Nat.lt_of_lt_of_le hd (Nat.pow_le_pow_right (n := 2) (by decide) h))
    simp [this, show ¬ i < 32 by omega]

/-- The reference's register behind i of a byte's bits. -/
def bitAt (X b i : Nat) : Nat := Crc.stpN i X ^^^ b / 2 ^ i
theorem bitAt_lt {X b i : Nat} (hX : X < 4294967296) (hb : b < 256) : bitAt X b i < 4294967296 :=
  Crc.xor_lt (Crc.stpN_lt i hX) (Nat.lt_of_le_of_lt (Nat.div_le_self ..) (by omega))
theorem bitAt_end (X b : Nat) (hb : b < 256) : bitAt X b 8 = Crc.stpN 8 X := by
  unfold bitAt
  rw [show b / 2 ^ 8 = 0 from by omega, Nat.xor_zero]
theorem xor_half (a b : Nat) : (a ^^^ b) / 2 = a / 2 ^^^ b / 2 := by
  have := Nat.xor_div_two_pow (a := a) (b := b) (n := 1)
  simpa using this
theorem xor_odd (a b : Nat) : (a ^^^ b) % 2 = (a % 2 + b % 2) % 2 := by
  have := Nat.xor_mod_two_pow (a := a) (b := b) (n := 1)
  rw [show (2 : Nat) ^ 1 = 2 from rfl] at this
  rw [this]
  rcases Nat.mod_two_eq_zero_or_one a with ha | ha <;> rcases Nat.mod_two_eq_zero_or_one b with hb | hb <;> simp [ha, hb]
/-- One bit: whether the polynomial comes in, and what is left. -/
theorem bitAt_odd (X b i : Nat) : (bitAt X b i % 2 + b / 2 ^ i) % 2 = Crc.stpN i X % 2 := by
  unfold bitAt
  rw [xor_odd]
  omega
theorem bitAt_next (X b i : Nat) : bitAt X b (i + 1) = if Crc.stpN i X % 2 = 1 then bitAt X b i / 2 ^^^ 3988292384 else bitAt X b i / 2 := by
  unfold bitAt
  rw [Crc.stpN_succ', xor_half, Nat.div_div_eq_div_mul, ← Nat.pow_succ]
  unfold Crc.stp
  split
  · simp [Nat.xor_assoc, Nat.xor_comm, Crc.xor_lc]
  · simp
end Go.Proofs.YtkikcemcaoihpaaDoor
