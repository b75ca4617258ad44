/-
  seam.Check: the check of a seed and bytes. Conditions: the seed fits 32 bits, the bytes are there.
-/
import Derived.Test.YtoiiemjaecfnhaaDoorSeamA
namespace Go.Proofs.YtoiiemjaecfnhaaDoor
open Go.RowKit

theorem putK_word (cs : Array Value) (off n : Nat) (h : off + 4 ≤ cs.size) (j : Nat) (u : UInt8) (hu : (Crc.wrd n)[j]? = some u) : (putK cs off n 4)[off + j]? = some (.int .u8 (u.toNat : Int)) := by
  have hj : j < 4 := by
    rcases Nat.lt_or_ge j 4 with h4 | h4
    · exact h4
    · rw [List.getElem?_eq_none (by rw [Crc.wrd_length]; omega)] at hu; cases hu
  simp only [putK, Array.getElem?_setIfInBounds, Array.size_setIfInBounds]
  rcases (show j = 0 ∨ j = 1 ∨ j = 2 ∨ j = 3 by omega) with rfl | rfl | rfl | rfl <;>
    (simp only [Crc.wrd, List.getElem?_cons_zero, List.getElem?_cons_succ, Option.some.injEq] at hu; subst hu; simp; omega)
theorem putK_other (cs : Array Value) (off n i : Nat) (h : i < off ∨ off + 4 ≤ i) : (putK cs off n 4)[i]? = cs[i]? := by
  simp only [putK, Array.getElem?_setIfInBounds]
  rw [if_neg (by omega), if_neg (by omega), if_neg (by omega), if_neg (by omega)]
theorem chk_walk {s : Nat} {l : List UInt8} {d : Nat} (hd : d < 4294967296) (h : Crc.chk s l = 4294967295 ^^^ d) : bits .xor .u32 IntKind.u32.max (d : Int) = ((Crc.chk s l : Nat) : Int) := by
  rw [h, show IntKind.u32.max = 4294967295 from rfl, u32_xor _ _ (by omega) (by omega) (by omega) (by omega)]
  rfl

end Go.Proofs.YtoiiemjaecfnhaaDoor
