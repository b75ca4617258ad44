/-
Two numbers' texts are alike just if the numbers are. Plain mathematics.
The references' Dec and Text. No condition.
-/
import Derived.Test.YtpbfipeinblfgaaGreatDoorCTxtQ9
namespace Go.Proofs.YtpbfipeinblfgaaGreatDoor
open Go.RowKit

def valD (l : List UInt8) : Nat := l.foldl (fun a b => 10 * a + (b.toNat - 48)) 0
theorem valD_snoc (l : List UInt8) (b : UInt8) : valD (l ++ [b]) = 10 * valD l + (b.toNat - 48) := by simp [valD]
theorem ofNat_lt (n : Nat) (h : n < 256) : (UInt8.ofNat n).toNat = n := by simp [Nat.mod_eq_of_lt h]
theorem valD_dec (n : Nat) : valD (Lib.decDigits n) = n ∧ ∀ b ∈ Lib.decDigits n, 48 ≤ b.toNat := by
  induction n using Nat.strongRecOn with
  | _ n ih =>
    rw [Lib.decDigits]
    split
    · rename_i h
      refine ⟨?_, fun b hb => ?_⟩
      · show 10 * 0 + ((UInt8.ofNat (48 + n)).toNat - 48) = n
        rw [ofNat_lt _ (by omega)]; omega
      · rw [List.mem_singleton.1 hb, ofNat_lt _ (by omega)]; omega
    · rename_i h
      obtain ⟨h1, h2⟩ := ih (n / 10) (by omega)
      refine ⟨?_, fun b hb => ?_⟩
      · rw [valD_snoc, h1, ofNat_lt _ (by omega)]; omega
      · rcases List.mem_append.1 hb with hb | hb
        · exact h2 b hb
        · rw [List.mem_singleton.1 hb, ofNat_lt _ (by omega)]; omega
def sgnL (a : Int) : List UInt8 := if a < 0 then [45] else []
theorem textC_list (a : Int) : (textC a).data.toList = (sgnL a ++ Lib.decDigits (a.natAbs / 100)) ++ ([46] ++ two (a.natAbs % 100)) := by
  unfold textC dec sgnB sgnL
  split <;> simp [ByteArray.data_append]
theorem two_inj {r s : Nat} (hr : r < 100) (hs : s < 100) (h : two r = two s) : r = s := by
  unfold two at h
  injection h with h1 h2
  injection h2 with h2 _
  have e1 := congrArg UInt8.toNat h1
  have e2 := congrArg UInt8.toNat h2
  rw [ofNat_lt _ (by omega), ofNat_lt _ (by omega)] at e1
  rw [ofNat_lt _ (by omega), ofNat_lt _ (by omega)] at e2
  omega
theorem textC_inj {a b : Int} (h : textC a = textC b) : a = b := by
  have hl : (textC a).data.toList = (textC b).data.toList := by rw [h]
  rw [textC_list, textC_list] at hl
  obtain ⟨h1, h2⟩ := List.append_inj' hl rfl
  have h3 : two (a.natAbs % 100) = two (b.natAbs % 100) := by simpa using h2
  have h4 := two_inj (by omega) (by omega) h3
  obtain ⟨v1, g1⟩ := valD_dec (a.natAbs / 100)
  obtain ⟨v2, g2⟩ := valD_dec (b.natAbs / 100)
  unfold sgnL at h1
  by_cases ha : a < 0 <;> by_cases hb : b < 0
  · rw [if_pos ha, if_pos hb] at h1
    have h5 : Lib.decDigits (a.natAbs / 100) = Lib.decDigits (b.natAbs / 100) := by simpa using h1
    rw [h5, v2] at v1
    omega
  · rw [if_pos ha, if_neg hb, List.nil_append] at h1
    have h6 := g2 45 (by rw [← h1]; simp)
    exact absurd h6 (by decide)
  · rw [if_neg ha, if_pos hb, List.nil_append] at h1
    have h6 := g1 45 (by rw [h1]; simp)
    exact absurd h6 (by decide)
  · rw [if_neg ha, if_neg hb, List.nil_append, List.nil_append] at h1
    rw [h1, v2] at v1
    omega
end Go.Proofs.YtpbfipeinblfgaaGreatDoor
namespace Go.Proofs.YtpbfipeinblfgaaGreatDoor
open Go.RowKit

theorem one_digit : ∀ n, n < 10 → (⟨#[48, 49, 50, 51, 52, 53, 54, 55, 56, 57]⟩ : ByteArray).extract n (n + 1) = dec n := by
  intro n hn
  have h : ∀ i : Fin 10, ((⟨#[48, 49, 50, 51, 52, 53, 54, 55, 56, 57]⟩ : ByteArray).extract i.1 (i.1 + 1)).data.toList = Lib.decDigits i.1 := by decide +kernel
  have h1 := h ⟨n, hn⟩
  unfold dec
  exact ByteArray.ext (Array.toList_inj.1 (by rw [h1]))
theorem dec_more (n : Nat) (h : ¬ n < 10) : dec n = dec (n / 10) ++ dec (n % 10) := by
  apply ByteArray.ext
  apply Array.toList_inj.1
  unfold dec
  rw [ByteArray.data_append, Array.toList_append, Lib.decDigits, dif_neg h, Lib.decDigits_one (show n % 10 < 10 by omega)]

theorem dec_size (n : Nat) (h : n < 18446744073709551616) : (dec n).size ≤ 25 := by
  have h1 : (dec n).size = Lib.nDigits n := by simp [dec, ByteArray.size, Lib.decDigits_length]
  rw [h1]
  rcases Nat.eq_zero_or_pos n with h | h
  · rw [h, Lib.nDigits_small (by omega)]; omega
  · have := Lib.numDigits_eq n h (by omega)
    split at this <;> omega
theorem textC_ref (a : Int) : textC a = (((sgnB a ++ dec (a.natAbs / 100)) ++ ⟨#[46]⟩) ++ dec (a.natAbs / 10 % 10)) ++ dec (a.natAbs % 10) := by
  apply ByteArray.ext
  apply Array.toList_inj.1
  unfold textC dec two
  rw [Lib.decDigits_one (show a.natAbs / 10 % 10 < 10 by omega), Lib.decDigits_one (show a.natAbs % 10 < 10 by omega), show a.natAbs % 100 / 10 = a.natAbs / 10 % 10 by omega, show a.natAbs % 100 % 10 = a.natAbs % 10 by omega]
  simp [ByteArray.data_append]

end Go.Proofs.YtpbfipeinblfgaaGreatDoor
