/-
  coin.Text at every number. Condition: strconv's powers of ten are laid.
-/
import Derived.Test.YtijkcolkedeibaaDoorFmt
namespace Go.Proofs.YtijkcolkedeibaaDoor
open Go.RowKit

/-- Two digits. -/
def two (r : Nat) : List UInt8 := [UInt8.ofNat (48 + r / 10), UInt8.ofNat (48 + r % 10)]
theorem dec_two : ∀ r, r < 100 → Lib.decDigits (100 + r) = 49 :: two r := by
  intro r hr
  have h : ∀ i : Fin 100, Lib.decDigits (100 + i.1) = 49 :: two i.1 := by decide +kernel
  exact h ⟨r, hr⟩
def sgnB (a : Int) : ByteArray := if a < 0 then ⟨#[45]⟩ else ⟨#[]⟩
def textC (a : Int) : ByteArray := ((sgnB a ++ dec (a.natAbs / 100)) ++ ⟨#[46]⟩) ++ ⟨(two (a.natAbs % 100)).toArray⟩

set_option maxRecDepth 100000 in
set_option maxHeartbeats 4000000 in
theorem CText_any (a : Int) (ha : -9223372036854775808 ≤ a ∧ a ≤ 9223372036854775807) (w : World) (hp : Pows w) :
    Calls Tryd.prog 9 #[.int .i64 a] w fun e w' => e = .returned (.string (textC a)) ∧ Below w.heap.size w w' := by
  obtain ⟨N, hN⟩ : ∃ N, a.natAbs = N := ⟨_, rfl⟩
  have hNl : N ≤ 9223372036854775808 := by omega
  have H1 := fun W (hP : Pows W) => Format_any (N / 100) (by omega) W hP
  have H2 := fun W (hP : Pows W) => Format_any (100 + N % 100) (by omega) W hP
  obtain ⟨R, hR⟩ : ∃ R, two (N % 100) = R := ⟨_, rfl⟩
  have hdt := dec_two (N % 100) (by omega)
  rw [hR] at hdt
  have hRl : R.length = 2 := by rw [← hR]; rfl
  have hcut := cut_first R
  rw [← hdt] at hcut
  have hd2 : dec (100 + N % 100) = ⟨(Lib.decDigits (100 + N % 100)).toArray⟩ := rfl
  rw [← hd2] at hcut
  rw [hRl] at hcut
  have hsz : (dec (100 + N % 100)).size = 3 := by rw [hd2, hdt]; simp [ByteArray.size, hRl]
  have hT : textC a = ((sgnB a ++ dec (N / 100)) ++ ⟨#[46]⟩) ++ ⟨R.toArray⟩ := by unfold textC; rw [hN, hR]
  obtain ⟨q, hq⟩ : ∃ q, N / 100 = q := ⟨_, rfl⟩
  obtain ⟨s, hs⟩ : ∃ s, 100 + N % 100 = s := ⟨_, rfl⟩
  rw [hq] at H1 hT
  rw [hs] at H2 hcut hsz
  obtain ⟨DQ, hDQ⟩ : ∃ D, dec q = D := ⟨_, rfl⟩
  obtain ⟨DS, hDS⟩ : ∃ D, dec s = D := ⟨_, rfl⟩
  rw [hDQ] at H1 hT
  rw [hDS] at H2 hcut hsz
  obtain ⟨RB, hRB⟩ : ∃ D : ByteArray, (⟨R.toArray⟩ : ByteArray) = D := ⟨_, rfl⟩
  rw [hRB] at hcut hT
  rw [hT]
  have i1 : (N : Int) / 100 = (q : Int) := by omega
  have i2 : (100 : Int) + (N : Int) % 100 = (s : Int) := by omega
  have i3 : IntKind.u64.wrap (s : Int) = (s : Int) := by rw [IntKind.wrap_u64]; omega
  have i4 : IntKind.u64.wrap (N : Int) = (N : Int) := by rw [IntKind.wrap_u64]; omega
  have i5 : IntKind.u64.wrap (q : Int) = (q : Int) := by rw [IntKind.wrap_u64]; omega
  have k1 : DQ.size ≤ 25 := by
    rw [← hDQ]
    have h1 : (dec q).size = Lib.nDigits q := by simp [dec, ByteArray.size, Lib.decDigits_length]
    rw [h1]
    rcases Nat.eq_zero_or_pos q with h | h
    · rw [h, Lib.nDigits_small (by omega)]; omega
    · have := Lib.numDigits_eq q h (by omega)
      split at this <;> omega
  have k2 : RB.size = 2 := by rw [← hRB]; simp [ByteArray.size, hRl]
  have k3 : ∀ S : ByteArray, (S ++ DQ).size = S.size + DQ.size := fun S => ByteArray.size_append
  have HP := Lib.hid hp
  by_cases h0 : a < 0
  · have j1 : IntKind.u64.wrap (-IntKind.u64.wrap a) = (N : Int) := by rw [IntKind.wrap_u64, IntKind.wrap_u64]; omega
    have j2 : IntKind.u64.wrap (0 - IntKind.u64.wrap a) = (N : Int) := by rw [IntKind.wrap_u64, IntKind.wrap_u64]; omega
    have hS : sgnB a = ⟨#[45]⟩ := if_pos h0
    rw [hS]
    clear hN hNl hR hdt hRl hd2 hT hq hs hDQ hDS hRB hS hp
    go_enter Tryd.func9, Tryd.ntmps9
    go_wp2_with fail
    refine (H1 _ HP.out).mono ?_
    rintro e w1 ⟨rfl, hb1⟩
    go_wp2_with fail
    refine (H2 _ (HP.out.below hb1)).mono ?_
    rintro e w2 ⟨rfl, hb2⟩
    go_wp2_with fail
    go_ret
    exact ⟨rfl, hb1.trans (hb2.mono hb1.size)⟩
  · have j1 : IntKind.u64.wrap a = (N : Int) := by rw [IntKind.wrap_u64]; omega
    have hS : sgnB a = ⟨#[]⟩ := if_neg h0
    rw [hS]
    clear hN hNl hR hdt hRl hd2 hT hq hs hDQ hDS hRB hS hp
    go_enter Tryd.func9, Tryd.ntmps9
    go_wp2_with fail
    refine (H1 _ HP.out).mono ?_
    rintro e w1 ⟨rfl, hb1⟩
    go_wp2_with fail
    refine (H2 _ (HP.out.below hb1)).mono ?_
    rintro e w2 ⟨rfl, hb2⟩
    go_wp2_with fail
    go_ret
    exact ⟨rfl, hb1.trans (hb2.mono hb1.size)⟩
end Go.Proofs.YtijkcolkedeibaaDoor
