/-
Two numbers' texts are alike just if the numbers are. Plain mathematics.
The references' Dec and Text. No condition.
-/
import Derived.Test.YtjlajnackecfgaaGreatDoorCTxtW9
namespace Go.Proofs.YtjlajnackecfgaaGreatDoor
open Go.RowKit

def valD (l : List UInt8) : Nat := l.foldl (fun a b => 10 * a + (b.toNat - 48)) 0
theorem valD_snoc (l : List UInt8) (b : UInt8) : valD (l ++ [b]) = 10 * valD l + (b.toNat - 48) := by simp [valD]
theorem ofNat_lt (n : Nat) (h : n < 256) : (UInt8.ofNat n).toNat = n := by simp [Nat.mod_eq_of_lt h]
theorem valD_dec (n : Nat) : valD (Lib.decDigits n) = n ∧ ∀ b ∈ Lib.decDigits n, 48 ≤ b.toNat := by
  induction n using Nat.strongRecOn with
  | _ n ih =>
    rw [Lib.decDigits]
    split
    · rename_i h
      refine ⟨?_, fun b hb => ?_⟩
      · show 10 * 0 + ((UInt8.ofNat (48 + n)).toNat - 48) = n
        rw [ofNat_lt _ (by omega)]; omega
      · rw [List.mem_singleton.1 hb, ofNat_lt _ (by omega)]; omega
    · rename_i h
      obtain ⟨h1, h2⟩ := ih (n / 10) (by omega)
      refine ⟨?_, fun b hb => ?_⟩
      · rw [valD_snoc, h1, ofNat_lt _ (by omega)]; omega
      · rcases List.mem_append.1 hb with hb | hb
        · exact h2 b hb
        · rw [List.mem_singleton.1 hb, ofNat_lt _ (by omega)]; omega
def sgnL (a : Int) : List UInt8 := if a < 0 then [45] else []
theorem textC_list (a : Int) : (textC a).data.toList = (sgnL a ++ Lib.decDigits (a.natAbs / 100)) ++ ([46] ++ two (a.natAbs % 100)) := by
  unfold textC dec sgnB sgnL
  split <;> simp [ByteArray.data_append]
theorem two_inj {r s : Nat} (hr : r < 100) (hs : s < 100) (h : two r = two s) : r = s := by
  unfold two at h
  injection h with h1 h2
  injection h2 with h2 _
  have e1 := congrArg UInt8.toNat h1
  have e2 := congrArg UInt8.toNat h2
  rw [ofNat_lt _ (by omega), ofNat_lt _ (by omega)] at e1
  rw [ofNat_lt _ (by omega), ofNat_lt _ (by omega)] at e2
  omega
theorem textC_inj {a b : Int} (h : textC a = textC b) : a = b := by
  have hl : (textC a).data.toList = (textC b).data.toList := by rw [h]
  rw [textC_list, textC_list] at hl
  obtain ⟨h1, h2⟩ := List.append_inj' hl rfl
  have h3 : two (a.natAbs % 100) = two (b.natAbs % 100) := by simpa using h2
  have h4 := two_inj (by omega) (by omega) h3
  obtain ⟨v1, g1⟩ := valD_dec (a.natAbs / 100)
  obtain ⟨v2, g2⟩ := valD_dec (b.natAbs / 100)
  unfold sgnL at h1
  by_cases ha : a < 0 <;> by_cases hb : b < 0
  · rw [if_pos ha, if_pos hb] at h1
    have h5 : Lib.decDigits (a.natAbs / 100) = Lib.decDigits (b.natAbs / 100) := by simpa using h1
    rw [h5, v2] at v1
    omega
  · rw [if_pos ha, if_neg hb, List.nil_append] at h1
    have h6 := g2 45 (by rw [← h1]; simp)
    exact absurd h6 (by decide)
  · rw [if_neg ha, if_pos hb, List.nil_append] at h1
    have h6 := g1 45 (by rw [h1]; simp)
    exact absurd h6 (by decide)
  · rw [if_neg ha, if_neg hb, List.nil_append, List.nil_append] at h1
    rw [h1, v2] at v1
    omega
end Go.Proofs.YtjlajnackecfgaaGreatDoor
namespace Go.Proofs.YtjlajnackecfgaaGreatDoor
open Go.RowKit

theorem one_digit : ∀ n, n < 10 → (⟨#[48, 49, 50, 51, 52, 53, 54, 55, 56, 57]⟩ : ByteArray).extract n (n + 1) = dec n := by
  intro n hn
  have h : ∀ i : Fin 10, ((⟨#[48, 49, 50, 51, 52, 53, 54, 55, 56, 57]⟩ : ByteArray).extract i.1 (i.1 + 1)).data.toList = Lib.decDigits i.1 := by decide +kernel
  have h1 := h ⟨n, hn⟩
  unfold dec
  exact ByteArray.ext (Array.toList_inj.1 (by rw [h1]))
theorem dec_more (n : Nat) (h : ¬ n < 10) : dec n = dec (n / 10) ++ dec (n % 10) := by
  apply ByteArray.ext
  apply Array.toList_inj.1
  unfold dec
  rw [ByteArray.data_append, Array.toList_append, Lib.decDigits, dif_neg h, Lib.decDigits_one (show n % 10 < 10 by omega)]

set_option maxRecDepth 20000 in
set_option maxHeartbeats 2000000 in
theorem RDec_any (n : Nat) (hn : n < 18446744073709551616) (w : World) : Calls Tryz.prog 48 #[.int .u64 (n : Int)] w fun e w' => e = .returned (.string (dec n)) ∧ w = w' := by
  induction n using Nat.strongRecOn generalizing w with
  | _ n ih =>
    by_cases h : n < 10
    · have i1 : (n : Int) < 10 := by omega
      have HD := Lib.hid (one_digit n h)
      obtain ⟨k, hk⟩ : ∃ k, n + 1 = k := ⟨_, rfl⟩
      rw [hk] at HD
      have i2 : IntKind.u64.wrap (k : Int) = (k : Int) := by rw [IntKind.wrap_u64]; omega
      have i3 : (n : Int) + 1 = (k : Int) := by omega
      have i4 : (k : Int) ≤ 10 := by omega
      have i5 : (n : Int) ≤ (k : Int) := by omega
      have i6 : k ≤ 10 := by omega
      have i7 : n ≤ k := by omega
      clear ih hk h
      go_enter Tryz.func48, Tryz.ntmps48
      go_wp2_with fail
      go_ret
      exact ⟨by rw [← HD.out]; first | rfl | simp, rfl⟩
    · have i1 : ¬ (n : Int) < 10 := by omega
      have H1 := Lib.hid (fun W => ih (n / 10) (by omega) (by omega) W)
      have H2 := Lib.hid (fun W => ih (n % 10) (by omega) (by omega) W)
      have HM := Lib.hid (dec_more n h)
      obtain ⟨q, hq⟩ : ∃ q, n / 10 = q := ⟨_, rfl⟩
      obtain ⟨r, hr⟩ : ∃ r, n % 10 = r := ⟨_, rfl⟩
      have i2 : (n : Int) / 10 = (q : Int) := by omega
      have i3 : (n : Int) % 10 = (r : Int) := by omega
      have i4 : IntKind.u64.wrap (q : Int) = (q : Int) := by rw [IntKind.wrap_u64]; omega
      have i5 : IntKind.u64.wrap (r : Int) = (r : Int) := by rw [IntKind.wrap_u64]; omega
      have k1 : (dec q).size ≤ 25 := by
        have h1 : (dec q).size = Lib.nDigits q := by simp [dec, ByteArray.size, Lib.decDigits_length]
        rw [h1]
        rcases Nat.eq_zero_or_pos q with h | h
        · rw [h, Lib.nDigits_small (by omega)]; omega
        · have := Lib.numDigits_eq q h (by omega)
          split at this <;> omega
      have k2 : (dec r).size ≤ 25 := by
        have h1 : (dec r).size = Lib.nDigits r := by simp [dec, ByteArray.size, Lib.decDigits_length]
        rw [h1, Lib.nDigits_small (by omega)]; omega
      rw [hq] at H1 HM
      rw [hr] at H2 HM
      clear ih hq hr h
      go_enter Tryz.func48, Tryz.ntmps48
      go_wp2_with fail
      refine (H1.out _).mono ?_
      rintro e w1 ⟨rfl, rfl⟩
      go_wp2_with fail
      refine (H2.out _).mono ?_
      rintro e w1 ⟨rfl, rfl⟩
      go_wp2_with fail
      go_ret
      exact ⟨by rw [HM.out]; rfl, rfl⟩

theorem dec_size (n : Nat) (h : n < 18446744073709551616) : (dec n).size ≤ 25 := by
  have h1 : (dec n).size = Lib.nDigits n := by simp [dec, ByteArray.size, Lib.decDigits_length]
  rw [h1]
  rcases Nat.eq_zero_or_pos n with h | h
  · rw [h, Lib.nDigits_small (by omega)]; omega
  · have := Lib.numDigits_eq n h (by omega)
    split at this <;> omega
theorem textC_ref (a : Int) : textC a = (((sgnB a ++ dec (a.natAbs / 100)) ++ ⟨#[46]⟩) ++ dec (a.natAbs / 10 % 10)) ++ dec (a.natAbs % 10) := by
  apply ByteArray.ext
  apply Array.toList_inj.1
  unfold textC dec two
  rw [Lib.decDigits_one (show a.natAbs / 10 % 10 < 10 by omega), Lib.decDigits_one (show a.natAbs % 10 < 10 by omega), show a.natAbs % 100 / 10 = a.natAbs / 10 % 10 by omega, show a.natAbs % 100 % 10 = a.natAbs % 10 by omega]
  simp [ByteArray.data_append]

set_option maxRecDepth 20000 in
set_option maxHeartbeats 4000000 in
theorem RText4_any (a : Int) (ha : -9223372036854775808 ≤ a ∧ a ≤ 9223372036854775807) (w : World) :
    Calls Tryz.prog 52 #[.int .i64 a] w fun e w' => e = .returned (.string (textC a)) ∧ w = w' := by
  rw [textC_ref]
  obtain ⟨N, hN⟩ : ∃ N, a.natAbs = N := ⟨_, rfl⟩
  rw [hN]
  have hNl : N ≤ 9223372036854775808 := by omega
  obtain ⟨q, hq⟩ : ∃ q, N / 100 = q := ⟨_, rfl⟩
  obtain ⟨t, ht⟩ : ∃ t, N / 10 % 10 = t := ⟨_, rfl⟩
  obtain ⟨u, hu⟩ : ∃ u, N % 10 = u := ⟨_, rfl⟩
  obtain ⟨v, hv⟩ : ∃ v, N / 10 = v := ⟨_, rfl⟩
  rw [hq, ht, hu]
  have H1 := Lib.hid (fun W => RDec_any q (by omega) W)
  have H2 := Lib.hid (fun W => RDec_any t (by omega) W)
  have H3 := Lib.hid (fun W => RDec_any u (by omega) W)
  have k1 := dec_size q (by omega)
  have k2 := dec_size t (by omega)
  have k3 := dec_size u (by omega)
  have i1 : (N : Int) / 100 = (q : Int) := by omega
  have i2 : (N : Int) / 10 = (v : Int) := by omega
  have i3 : (v : Int) % 10 = (t : Int) := by omega
  have i4 : (N : Int) % 10 = (u : Int) := by omega
  have j1 : IntKind.u64.wrap (q : Int) = (q : Int) := by rw [IntKind.wrap_u64]; omega
  have j2 : IntKind.u64.wrap (v : Int) = (v : Int) := by rw [IntKind.wrap_u64]; omega
  have j3 : IntKind.u64.wrap (t : Int) = (t : Int) := by rw [IntKind.wrap_u64]; omega
  have j4 : IntKind.u64.wrap (u : Int) = (u : Int) := by rw [IntKind.wrap_u64]; omega
  have j5 : IntKind.u64.wrap (N : Int) = (N : Int) := by rw [IntKind.wrap_u64]; omega
  obtain ⟨DQ, hDQ⟩ : ∃ D, dec q = D := ⟨_, rfl⟩
  obtain ⟨DT, hDT⟩ : ∃ D, dec t = D := ⟨_, rfl⟩
  obtain ⟨DU, hDU⟩ : ∃ D, dec u = D := ⟨_, rfl⟩
  rw [hDQ] at H1 k1 ⊢
  rw [hDT] at H2 k2 ⊢
  rw [hDU] at H3 k3 ⊢
  by_cases h0 : a < 0
  · have hS : sgnB a = ⟨#[45]⟩ := if_pos h0
    rw [hS]
    obtain ⟨c, hc⟩ : ∃ c : Nat, -(a + 1) = (c : Int) := ⟨(-(a + 1)).toNat, by omega⟩
    have m1 : IntKind.i64.wrap (a + 1) = a + 1 := by rw [IntKind.wrap_i64]; omega
    have m2 : IntKind.i64.wrap (-(a + 1)) = (c : Int) := by rw [IntKind.wrap_i64]; omega
    have m3 : IntKind.u64.wrap (c : Int) = (c : Int) := by rw [IntKind.wrap_u64]; omega
    have m4 : (c : Int) + 1 = (N : Int) := by omega
    clear hN hNl hq ht hu hv hDQ hDT hDU hS
    go_enter Tryz.func52, Tryz.ntmps52
    go_wp2_with fail
    refine (H1.out _).mono ?_
    rintro e w1 ⟨rfl, rfl⟩
    go_wp2_with fail
    refine (H2.out _).mono ?_
    rintro e w1 ⟨rfl, rfl⟩
    go_wp2_with fail
    refine (H3.out _).mono ?_
    rintro e w1 ⟨rfl, rfl⟩
    go_wp2_with fail
    go_ret
    exact ⟨rfl, rfl⟩
  · have hS : sgnB a = ⟨#[]⟩ := if_neg h0
    rw [hS]
    have m1 : IntKind.u64.wrap a = (N : Int) := by rw [IntKind.wrap_u64]; omega
    clear hN hNl hq ht hu hv hDQ hDT hDU hS
    go_enter Tryz.func52, Tryz.ntmps52
    go_wp2_with fail
    refine (H1.out _).mono ?_
    rintro e w1 ⟨rfl, rfl⟩
    go_wp2_with fail
    refine (H2.out _).mono ?_
    rintro e w1 ⟨rfl, rfl⟩
    go_wp2_with fail
    refine (H3.out _).mono ?_
    rintro e w1 ⟨rfl, rfl⟩
    go_wp2_with fail
    go_ret
    exact ⟨rfl, rfl⟩
end Go.Proofs.YtjlajnackecfgaaGreatDoor
