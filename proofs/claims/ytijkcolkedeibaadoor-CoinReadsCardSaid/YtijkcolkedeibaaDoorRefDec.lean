/-
  The references' Dec and Text. No condition.
-/
import Derived.Test.YtijkcolkedeibaaDoorCTxtM
namespace Go.Proofs.YtijkcolkedeibaaDoor
open Go.RowKit

theorem one_digit : ∀ n, n < 10 → (⟨#[48, 49, 50, 51, 52, 53, 54, 55, 56, 57]⟩ : ByteArray).extract n (n + 1) = dec n := by
  intro n hn
  have h : ∀ i : Fin 10, ((⟨#[48, 49, 50, 51, 52, 53, 54, 55, 56, 57]⟩ : ByteArray).extract i.1 (i.1 + 1)).data.toList = Lib.decDigits i.1 := by decide +kernel
  have h1 := h ⟨n, hn⟩
  unfold dec
  exact ByteArray.ext (Array.toList_inj.1 (by rw [h1]))
theorem dec_more (n : Nat) (h : ¬ n < 10) : dec n = dec (n / 10) ++ dec (n % 10) := by
  apply ByteArray.ext
  apply Array.toList_inj.1
  unfold dec
  rw [ByteArray.data_append, Array.toList_append, Lib.decDigits, dif_neg h, Lib.decDigits_one (show n % 10 < 10 by omega)]

theorem dec_size (n : Nat) (h : n < 18446744073709551616) : (dec n).size ≤ 25 := by
  have h1 : (dec n).size = Lib.nDigits n := by simp [dec, ByteArray.size, Lib.decDigits_length]
  rw [h1]
  rcases Nat.eq_zero_or_pos n with h | h
  · rw [h, Lib.nDigits_small (by omega)]; omega
  · have := Lib.numDigits_eq n h (by omega)
    split at this <;> omega
theorem textC_ref (a : Int) : textC a = (((sgnB a ++ dec (a.natAbs / 100)) ++ ⟨#[46]⟩) ++ dec (a.natAbs / 10 % 10)) ++ dec (a.natAbs % 10) := by
  apply ByteArray.ext
  apply Array.toList_inj.1
  unfold textC dec two
  rw [Lib.decDigits_one (show a.natAbs / 10 % 10 < 10 by omega), Lib.decDigits_one (show a.natAbs % 10 < 10 by omega), show a.natAbs % 100 / 10 = a.natAbs / 10 % 10 by omega, show a.natAbs % 100 % 10 = a.natAbs % 10 by omega]
  simp [ByteArray.data_append]

end Go.Proofs.YtijkcolkedeibaaDoor
