/-
strconv.FormatUint at base 10, at every number. Condition: strconv's powers of ten are laid.
coin.Text at every number. Condition: strconv's powers of ten are laid.
-/
import Derived.Test.YtpbfipeinblfgaaGreatDoorTextAQ9
import Derived.Test.YtpbfipeinblfgaaGreatDoorMemQ9
import Derived.Test.YtpbfipeinblfgaaGreatDoorShelf
import Derived.Handy
import Derived.Lib.Hide
import Derived.Lib.AppendIntMem
import Derived.Lib.QuietBelow
namespace Go.Proofs.YtpbfipeinblfgaaGreatDoor
open Go.RowKit Go.Sort

theorem below_grow0 (w : World) (k : Nat) (os : Array Obj) : Below w.heap.size w (Go.Sort.grow (w.drewN k) os) :=
  ⟨rfl, rfl, rfl, by simp [Go.Sort.grow], fun i hi => by
    have : (w.drewN k).heap = w.heap := rfl
    simp [Go.Sort.grow, Array.getElem?_append, hi]⟩
/-- A number in words. -/
def dec (n : Nat) : ByteArray := ⟨(Lib.decDigits n).toArray⟩

set_option maxRecDepth 100000 in
set_option maxHeartbeats 4000000 in
theorem IFormat_any (u : Nat) (hu64 : u < 18446744073709551616) (w : World) (htab : Pows w) :
    Calls Tryz.prog 136 #[.int .u64 (u : Int), .int .i64 10] w fun e w' => e = .returned (.string (dec u)) ∧ Below w.heap.size w w' := by
  by_cases hs : u < 100
  · have hi : (u : Int) < 100 := by omega
    have i1 : IntKind.i64.wrap (u : Int) = (u : Int) := by rw [IntKind.wrap_i64]; omega
    go_enter Tryz.func136, Tryz.ntmps136
    go_wp2_with fail
    refine (Tryz.internal_strconv_small u hs _).mono ?_
    rintro e w' ⟨rfl, rfl⟩
    go_wp2_with fail
    go_ret
    exact ⟨rfl, Below.refl _ _⟩
  · have hu1 : 1 ≤ u := by omega
    have hi : ¬ (u : Int) < 100 := by omega
    have hnd20 : Lib.nDigits u ≤ 20 := by have := Lib.numDigits_eq u hu1 hu64; split at this <;> omega
    have HT := Lib.hid htab
    have hal : Tryz.prog.arrayLen 251 = 24 := by kernel_rfl
    have hsl1 : ∀ W, (Instr.sliceAt 251 (.pointer (some ⟨w.heap.size, 0, none⟩)) none (some (.int .i64 (Lib.nDigits u : Int))) none).run Tryz.prog W = .ok (.slice (some ⟨w.heap.size, 0, none⟩) (Lib.nDigits u) 24) W := fun W => by
      rw [run_sliceAt_array_h W 251 ⟨w.heap.size, 0, none⟩ (by kernel_rfl) .i64 (Lib.nDigits u : Int) (by omega) (by rw [hal]; omega)]
      rw [show Tryz.prog.elem 251 = 5 by kernel_rfl]
      go_simp
    have hH0 := Lib.holds_zero0 w 251 (Lib.nDigits u) (by omega)
    have hfmt := Tryz.internal_strconv_formatBase10 w.heap.size 0 24 u (Array.replicate (Lib.nDigits u) 0) (w.alloc (.cells Lib.zeros24 251)) hH0 (by rw [Array.size_replicate]; exact Lib.lt_pow_nDigits u) hu64 (by rw [Array.size_replicate]; omega)
    rw [Array.size_replicate] at hfmt
    have HH0 := Lib.hid hH0
    clear htab hs hH0 hal
    go_enter Tryz.func136, Tryz.ntmps136
    go_wp2_with fail
    refine (Tryz.internal_strconv_numDigits u hu1 hu64 _ (Lib.tabIs_alloc HT.out _)).mono ?_
    rintro e w' ⟨rfl, rfl⟩
    go_wp2_with fail
    refine hfmt.mono ?_
    rintro e w' ⟨rfl, k, v', dk, rfl, hF⟩
    have hcv : (convert 30 9 (.slice (some ⟨w.heap.size, 0, none⟩) (Lib.nDigits u) 24)).run Tryz.prog ((putRow (fun (b : UInt8) => Value.int .u8 (b.toNat : Int)) (w.alloc (.cells Lib.zeros24 251)) w.heap.size 0 dk).drewN k) = .ok (.string ⟨(Lib.decDigits u).toArray⟩) ((putRow (fun (b : UInt8) => Value.int .u8 (b.toNat : Int)) (w.alloc (.cells Lib.zeros24 251)) w.heap.size 0 dk).drewN k) := by
      have h := run_convert_bytes_back (P := Tryz.prog) ((putRow (fun (b : UInt8) => Value.int .u8 (b.toNat : Int)) (w.alloc (.cells Lib.zeros24 251)) w.heap.size 0 dk).drewN k) 30 9 5 ⟨w.heap.size, 0, none⟩ 24 (Lib.decDigits u) (by rfl) (by rfl) (by rfl) (fun j hj => by
        rw [Lib.row_is_numeral hF j hj, Lib.add_plain, World.cell?_drewN]
        exact cell?_putRow (fun (b : UInt8) => Value.int .u8 (b.toNat : Int)) _ w.heap.size 0 _ dk HH0.out (by rw [hF.size, Array.size_replicate]) j (by rw [hF.size]; rw [Lib.decDigits_length] at hj; exact hj))
      rw [Lib.decDigits_length] at h
      exact h
    obtain ⟨os, eo⟩ := Lib.fin_at w (.cells Lib.zeros24 251) dk k 0
    rw [eo] at hcv ⊢
    clear hF eo
    go_wp2_with fail
    go_ret
    exact ⟨rfl, below_grow0 w k os⟩

set_option maxRecDepth 100000 in
set_option maxHeartbeats 4000000 in
theorem Format_any (u : Nat) (hu64 : u < 18446744073709551616) (w : World) (htab : Pows w) :
    Calls Tryz.prog 84 #[.int .u64 (u : Int), .int .i64 10] w fun e w' => e = .returned (.string (dec u)) ∧ Below w.heap.size w w' := by
  have HF := Lib.hid (IFormat_any u hu64 w htab)
  clear htab
  go_enter Tryz.func84, Tryz.ntmps84
  go_wp2_with fail
  refine HF.out.mono ?_
  rintro e w1 ⟨rfl, hb⟩
  go_wp2_with fail
  go_ret
  exact ⟨rfl, hb⟩
end Go.Proofs.YtpbfipeinblfgaaGreatDoor
namespace Go.Proofs.YtpbfipeinblfgaaGreatDoor
open Go.RowKit

/-- Two digits. -/
def two (r : Nat) : List UInt8 := [UInt8.ofNat (48 + r / 10), UInt8.ofNat (48 + r % 10)]
theorem dec_two : ∀ r, r < 100 → Lib.decDigits (100 + r) = 49 :: two r := by
  intro r hr
  have h : ∀ i : Fin 100, Lib.decDigits (100 + i.1) = 49 :: two i.1 := by decide +kernel
  exact h ⟨r, hr⟩
def sgnB (a : Int) : ByteArray := if a < 0 then ⟨#[45]⟩ else ⟨#[]⟩
def textC (a : Int) : ByteArray := ((sgnB a ++ dec (a.natAbs / 100)) ++ ⟨#[46]⟩) ++ ⟨(two (a.natAbs % 100)).toArray⟩

set_option maxRecDepth 100000 in
set_option maxHeartbeats 4000000 in
theorem CText_any (a : Int) (ha : -9223372036854775808 ≤ a ∧ a ≤ 9223372036854775807) (w : World) (hp : Pows w) :
    Calls Tryz.prog 83 #[.int .i64 a] w fun e w' => e = .returned (.string (textC a)) ∧ Below w.heap.size w w' := by
  obtain ⟨N, hN⟩ : ∃ N, a.natAbs = N := ⟨_, rfl⟩
  have hNl : N ≤ 9223372036854775808 := by omega
  have H1 := fun W (hP : Pows W) => Format_any (N / 100) (by omega) W hP
  have H2 := fun W (hP : Pows W) => Format_any (100 + N % 100) (by omega) W hP
  obtain ⟨R, hR⟩ : ∃ R, two (N % 100) = R := ⟨_, rfl⟩
  have hdt := dec_two (N % 100) (by omega)
  rw [hR] at hdt
  have hRl : R.length = 2 := by rw [← hR]; rfl
  have hcut := cut_first R
  rw [← hdt] at hcut
  have hd2 : dec (100 + N % 100) = ⟨(Lib.decDigits (100 + N % 100)).toArray⟩ := rfl
  rw [← hd2] at hcut
  rw [hRl] at hcut
  have hsz : (dec (100 + N % 100)).size = 3 := by rw [hd2, hdt]; simp [ByteArray.size, hRl]
  have hT : textC a = ((sgnB a ++ dec (N / 100)) ++ ⟨#[46]⟩) ++ ⟨R.toArray⟩ := by unfold textC; rw [hN, hR]
  obtain ⟨q, hq⟩ : ∃ q, N / 100 = q := ⟨_, rfl⟩
  obtain ⟨s, hs⟩ : ∃ s, 100 + N % 100 = s := ⟨_, rfl⟩
  rw [hq] at H1 hT
  rw [hs] at H2 hcut hsz
  obtain ⟨DQ, hDQ⟩ : ∃ D, dec q = D := ⟨_, rfl⟩
  obtain ⟨DS, hDS⟩ : ∃ D, dec s = D := ⟨_, rfl⟩
  rw [hDQ] at H1 hT
  rw [hDS] at H2 hcut hsz
  obtain ⟨RB, hRB⟩ : ∃ D : ByteArray, (⟨R.toArray⟩ : ByteArray) = D := ⟨_, rfl⟩
  rw [hRB] at hcut hT
  rw [hT]
  have i1 : (N : Int) / 100 = (q : Int) := by omega
  have i2 : (100 : Int) + (N : Int) % 100 = (s : Int) := by omega
  have i3 : IntKind.u64.wrap (s : Int) = (s : Int) := by rw [IntKind.wrap_u64]; omega
  have i4 : IntKind.u64.wrap (N : Int) = (N : Int) := by rw [IntKind.wrap_u64]; omega
  have i5 : IntKind.u64.wrap (q : Int) = (q : Int) := by rw [IntKind.wrap_u64]; omega
  have k1 : DQ.size ≤ 25 := by
    rw [← hDQ]
    have h1 : (dec q).size = Lib.nDigits q := by simp [dec, ByteArray.size, Lib.decDigits_length]
    rw [h1]
    rcases Nat.eq_zero_or_pos q with h | h
    · rw [h, Lib.nDigits_small (by omega)]; omega
    · have := Lib.numDigits_eq q h (by omega)
      split at this <;> omega
  have k2 : RB.size = 2 := by rw [← hRB]; simp [ByteArray.size, hRl]
  have k3 : ∀ S : ByteArray, (S ++ DQ).size = S.size + DQ.size := fun S => ByteArray.size_append
  have HP := Lib.hid hp
  by_cases h0 : a < 0
  · have j1 : IntKind.u64.wrap (-IntKind.u64.wrap a) = (N : Int) := by rw [IntKind.wrap_u64, IntKind.wrap_u64]; omega
    have j2 : IntKind.u64.wrap (0 - IntKind.u64.wrap a) = (N : Int) := by rw [IntKind.wrap_u64, IntKind.wrap_u64]; omega
    have hS : sgnB a = ⟨#[45]⟩ := if_pos h0
    rw [hS]
    clear hN hNl hR hdt hRl hd2 hT hq hs hDQ hDS hRB hS hp
    go_enter Tryz.func83, Tryz.ntmps83
    go_wp2_with fail
    refine (H1 _ HP.out).mono ?_
    rintro e w1 ⟨rfl, hb1⟩
    go_wp2_with fail
    refine (H2 _ (HP.out.below hb1)).mono ?_
    rintro e w2 ⟨rfl, hb2⟩
    go_wp2_with fail
    go_ret
    exact ⟨rfl, hb1.trans (hb2.mono hb1.size)⟩
  · have j1 : IntKind.u64.wrap a = (N : Int) := by rw [IntKind.wrap_u64]; omega
    have hS : sgnB a = ⟨#[]⟩ := if_neg h0
    rw [hS]
    clear hN hNl hR hdt hRl hd2 hT hq hs hDQ hDS hRB hS hp
    go_enter Tryz.func83, Tryz.ntmps83
    go_wp2_with fail
    refine (H1 _ HP.out).mono ?_
    rintro e w1 ⟨rfl, hb1⟩
    go_wp2_with fail
    refine (H2 _ (HP.out.below hb1)).mono ?_
    rintro e w2 ⟨rfl, hb2⟩
    go_wp2_with fail
    go_ret
    exact ⟨rfl, hb1.trans (hb2.mono hb1.size)⟩
end Go.Proofs.YtpbfipeinblfgaaGreatDoor
