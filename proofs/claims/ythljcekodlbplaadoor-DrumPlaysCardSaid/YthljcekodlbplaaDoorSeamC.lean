/-
  seam's small functions: what divide, put, get, Size do. Conditions: the numbers fit their kinds, the slices are there.
  seam.Check: the check of a seed and bytes. Conditions: the seed fits 32 bits, the bytes are there.
  seam.Frame: the frame of bytes. Conditions: the seed fits 32 bits, the bytes are there, and fewer than a million.
-/
import Derived.Test.YthljcekodlbplaaDoorMem
import Derived.Test.YthljcekodlbplaaDoorCrc
import Derived.Laws.CopyOwn
import Derived.Deep.RegionHeld3
namespace Go.Proofs.YthljcekodlbplaaDoor
open Go.RowKit

theorem xor_word {a b : Int} (h0 : 0 ≤ a) (h1 : a < 4294967296) (h2 : 0 ≤ b) (h3 : b < 4294967296) : bits .xor .u32 a b = ((a.toNat ^^^ b.toNat : Nat) : Int) := u32_xor a b h0 h1 h2 h3

theorem stp_walk {y : Nat} (hy : y < 4294967296) :
    bits .xor .u32 ((y : Int) / 2) (bits .and .u32 3988292384 (-bits .and .u32 (y : Int) 1 % 4294967296)) = ((Crc.stp y : Nat) : Int) := by
  have e1 : bits .and .u32 (y : Int) 1 = ((y % 2 : Nat) : Int) := by
    rw [u32_and _ _ (by omega) (by omega) (by omega) (by omega)]
    have : ((y : Int).toNat &&& (1 : Int).toNat) = y % 2 := Nat.and_two_pow_sub_one_eq_mod y 1
    rw [this]
  have e2 : ((y : Int) / 2) = ((y / 2 : Nat) : Int) := by omega
  rw [e1, e2]
  unfold Crc.stp
  rcases Nat.mod_two_eq_zero_or_one y with h | h
  · rw [h, if_neg (by omega)]
    have e3 : bits .and .u32 3988292384 (-((0 : Nat) : Int) % 4294967296) = 0 := by decide
    rw [e3, u32_xor _ _ (by omega) (by omega) (by omega) (by omega)]
    rfl
  · rw [h, if_pos rfl]
    have e3 : bits .and .u32 3988292384 (-((1 : Nat) : Int) % 4294967296) = 3988292384 := by decide
    rw [e3, u32_xor _ _ (by omega) (by omega) (by omega) (by omega)]
    rfl

/-- What put leaves of a block behind k rounds. -/
def putK (cs : Array Value) (off n : Nat) : Nat → Array Value
  | 0 => cs
  | k + 1 => (putK cs off n k).setIfInBounds (off + k) (.int .u8 ((n / 2 ^ (8 * k) % 256 : Nat) : Int))
theorem putK_size (cs : Array Value) (off n k : Nat) : (putK cs off n k).size = cs.size := by
  induction k with
  | zero => rfl
  | succ k ih => simp [putK, ih]

/-- The number of the first k bytes, the lowest first. -/
def valK (l : List UInt8) : Nat → Nat
  | 0 => 0
  | k + 1 => valK l k + (l.getD k 0).toNat * 2 ^ (8 * k)
theorem valK_lt (l : List UInt8) (k : Nat) : valK l k < 2 ^ (8 * k) := by
  induction k with
  | zero => simp [valK]
  | succ k ih =>
    have hu := Crc.u8_lt (l.getD k 0)
    have e : 2 ^ (8 * (k + 1)) = 256 * 2 ^ (8 * k) := by rw [show 8 * (k + 1) = 8 + 8 * k from by omega, Nat.pow_add]
    have h2 : (l.getD k 0).toNat * 2 ^ (8 * k) ≤ 255 * 2 ^ (8 * k) := Nat.mul_le_mul_right _ (by omega)
    simp only [valK]
    omega
theorem or_walk (l : List UInt8) (k : Nat) (hk : k < 4) : bits .or .u32 ((valK l k : Nat) : Int) (((l.getD k 0).toNat : Int) * 2 ^ (8 * k) % 4294967296) = ((valK l (k + 1) : Nat) : Int) := by
  have hv := valK_lt l k
  have hu := Crc.u8_lt (l.getD k 0)
  have h3 : (2 : Nat) ^ (8 * k) ≤ 2 ^ 24 := Nat.pow_le_pow_right (by decide) (by omega)
  have h2 : (l.getD k 0).toNat * 2 ^ (8 * k) ≤ 255 * 2 ^ 24 := Nat.mul_le_mul (by omega) h3
  have e0 : ((l.getD k 0).toNat : Int) * 2 ^ (8 * k) = (((l.getD k 0).toNat * 2 ^ (8 * k) : Nat) : Int) := by
    rw [Int.natCast_mul, Int.natCast_pow]
    rfl
  have e1 : valK l k ||| (l.getD k 0).toNat * 2 ^ (8 * k) = valK l (k + 1) := by
    rw [Nat.or_comm, nat_join (8 * k) _ _ (by simp) hv, Nat.add_comm]
    rfl
  have h4 := Nat.lt_of_lt_of_le hv h3
  rw [e0, ← e1]
  generalize (l.getD k 0).toNat * 2 ^ (8 * k) = P at h2 ⊢
  rw [show ((P : Nat) : Int) % 4294967296 = (P : Int) from by omega, u32_or _ _ (by omega) (by omega) (by omega) (by omega)]
  rfl

end Go.Proofs.YthljcekodlbplaaDoor
namespace Go.Proofs.YthljcekodlbplaaDoor
open Go.RowKit

theorem putK_word (cs : Array Value) (off n : Nat) (h : off + 4 ≤ cs.size) (j : Nat) (u : UInt8) (hu : (Crc.wrd n)[j]? = some u) : (putK cs off n 4)[off + j]? = some (.int .u8 (u.toNat : Int)) := by
  have hj : j < 4 := by
    rcases Nat.lt_or_ge j 4 with h4 | h4
    · exact h4
    · rw [List.getElem?_eq_none (by rw [Crc.wrd_length]; omega)] at hu; cases hu
  simp only [putK, Array.getElem?_setIfInBounds, Array.size_setIfInBounds]
  rcases (show j = 0 ∨ j = 1 ∨ j = 2 ∨ j = 3 by omega) with rfl | rfl | rfl | rfl <;>
    (simp only [Crc.wrd, List.getElem?_cons_zero, List.getElem?_cons_succ, Option.some.injEq] at hu; subst hu; simp; omega)
theorem putK_other (cs : Array Value) (off n i : Nat) (h : i < off ∨ off + 4 ≤ i) : (putK cs off n 4)[i]? = cs[i]? := by
  simp only [putK, Array.getElem?_setIfInBounds]
  rw [if_neg (by omega), if_neg (by omega), if_neg (by omega), if_neg (by omega)]
theorem chk_walk {s : Nat} {l : List UInt8} {d : Nat} (hd : d < 4294967296) (h : Crc.chk s l = 4294967295 ^^^ d) : bits .xor .u32 IntKind.u32.max (d : Int) = ((Crc.chk s l : Nat) : Int) := by
  rw [h, show IntKind.u32.max = 4294967295 from rfl, u32_xor _ _ (by omega) (by omega) (by omega) (by omega)]
  rfl

end Go.Proofs.YthljcekodlbplaaDoor
namespace Go.Proofs.YthljcekodlbplaaDoor
open Go.RowKit

theorem makeB (n : Nat) (hn : n ≤ 140737488355328) (u : World) :
    (Instr.makeSlice 31 (.int .i64 ((n : Int) + 8)) (.int .i64 ((n : Int) + 8))).run Tryd.prog u = .ok (.slice (some ⟨u.heap.size, 0, none⟩) (n + 8) (n + 8)) (u.alloc (.cells (madeCells #[.int .u8 0] (n + 8)) 5)) := by
  obtain ⟨i0, hi, hz0, hz1, hz2⟩ := info_parts infoB
  have h := run_make (P := Tryd.prog) u 31 5 i0 (.int .u8 0) Tryd.underlying31 hi hz0 .i64 .i64 ((n : Int) + 8) ((n : Int) + 8) (by omega) (Int.le_refl _) (by rw [hz2]; omega) (by omega)
  have e : ((n : Int) + 8).toNat = n + 8 := by omega
  rw [e] at h
  simpa [hz1, Value.cells] using h

theorem sizeB : (Tryd.prog.info? 5).map (·.size) = some 1 := by kernel_rfl
theorem list_rd {w : World} {B : Nat} {A : Option Addr} {l : List UInt8} (h : Rd w B A l) (hl : 0 < (l.map enc8).length) : ∃ ad, A = some ad ∧ ∀ (j : Nat) v, (l.map enc8)[j]? = some v → w.cell? (ad.add j) = some v := by
  obtain ⟨b, o, e, _, hc⟩ := h (by simpa using hl)
  refine ⟨_, e, fun j v hv => ?_⟩
  rw [List.getElem?_map] at hv
  obtain ⟨u, hu, rfl⟩ := Option.map_eq_some_iff.1 hv
  simpa [go_sem, enc8] using hc j u hu

/-- What the copy leaves, place by place. -/
theorem splice_at (cur X : List Value) (off i : Nat) (h : off + X.length ≤ cur.length) :
    (splice cur off X)[i]? = if i < off then cur[i]? else if i < off + X.length then X[i - off]? else cur[i]? := by
  unfold splice
  have hl : (cur.take off).length = off := by rw [List.length_take]; omega
  by_cases h1 : i < off
  · rw [if_pos h1, List.getElem?_append_left (by omega), List.getElem?_take_of_lt h1]
  · rw [if_neg h1, List.getElem?_append_right (by omega), hl]
    by_cases h2 : i < off + X.length
    · rw [if_pos h2, List.getElem?_append_left (by omega)]
    · rw [if_neg h2, List.getElem?_append_right (by omega), List.getElem?_drop]
      congr 1
      omega
theorem head_cells (n : Nat) (l : List UInt8) (cur : List Value) (hn : l.length = n) (hcur : cur.toArray = putK (madeCells #[.int .u8 0] (n + 8)) 0 n 4) (j : Nat) (u : UInt8)
    (hu : (Crc.wrd n ++ l)[j]? = some u) : (splice cur 4 (l.map enc8)).toArray[j]? = some (.int .u8 (u.toNat : Int)) := by
  have hcl : cur.length = n + 8 := by
    have := congrArg Array.size hcur
    rw [putK_size, size_madeCells] at this
    simpa using this
  rw [List.getElem?_toArray, splice_at _ _ _ _ (by simp; omega)]
  by_cases h1 : j < 4
  · rw [if_pos h1]
    rw [List.getElem?_append_left (by rw [Crc.wrd_length]; exact h1)] at hu
    have h := putK_word (madeCells #[.int .u8 0] (n + 8)) 0 n (by rw [size_madeCells]; omega) j u hu
    rw [Nat.zero_add, ← hcur, List.getElem?_toArray] at h
    exact h
  · rw [if_neg h1]
    rw [List.getElem?_append_right (by rw [Crc.wrd_length]; omega), Crc.wrd_length] at hu
    have hj : j - 4 < l.length := by
      rcases Nat.lt_or_ge (j - 4) l.length with h | h
      · exact h
      · rw [List.getElem?_eq_none h] at hu; cases hu
    rw [if_pos (by simp; omega), List.getElem?_map, hu]
    rfl
theorem frame_cells (s n : Nat) (l : List UInt8) (cur : List Value) (hn : l.length = n) (hcur : cur.toArray = putK (madeCells #[.int .u8 0] (n + 8)) 0 n 4) :
    putK (splice cur 4 (l.map enc8)).toArray (4 + n) (Crc.chk s (Crc.wrd n ++ l)) 4 = ((Crc.frm s l).map enc8).toArray := by
  have hcl : cur.length = n + 8 := by
    have := congrArg Array.size hcur
    rw [putK_size, size_madeCells] at this
    simpa using this
  have hsl : (splice cur 4 (l.map enc8)).toArray.size = n + 8 := by
    rw [List.size_toArray, length_splice _ _ _ (by simp; omega), hcl]
  apply Array.ext_getElem?
  intro i
  rw [show ((Crc.frm s l).map enc8).toArray[i]? = ((Crc.frm s l).map enc8)[i]? from by simp, List.getElem?_map]
  by_cases h1 : i < 4 + n
  · rw [putK_other _ _ _ _ (.inl h1)]
    have hi : i < (Crc.wrd n ++ l).length := by rw [List.length_append, Crc.wrd_length]; omega
    rw [head_cells n l cur hn hcur i _ (List.getElem?_eq_getElem hi)]
    unfold Crc.frm
    rw [List.getElem?_append_left (by rw [hn]; exact hi), hn, List.getElem?_eq_getElem hi]
    rfl
  · by_cases h2 : i < n + 8
    · obtain ⟨j, rfl⟩ : ∃ j, i = 4 + n + j := ⟨i - (4 + n), by omega⟩
      have hj : j < (Crc.wrd (Crc.chk s (Crc.wrd n ++ l))).length := by rw [Crc.wrd_length]; omega
      rw [putK_word _ _ _ (by omega) j _ (List.getElem?_eq_getElem hj)]
      unfold Crc.frm
      rw [hn, List.getElem?_append_right (by rw [List.length_append, Crc.wrd_length]; omega)]
      rw [show 4 + n + j - (Crc.wrd n ++ l).length = j from by rw [List.length_append, Crc.wrd_length]; omega, List.getElem?_eq_getElem hj]
      rfl
    · rw [Array.getElem?_eq_none (by rw [putK_size]; omega), List.getElem?_eq_none (by rw [Crc.frm_length]; omega)]
      rfl

end Go.Proofs.YthljcekodlbplaaDoor
