/-
  seam.Frame: the frame of bytes. Conditions: the seed fits 32 bits, the bytes are there, and fewer than a million.
-/
import Derived.Test.YtoiiemjaecfnhaaDoorSeamB
import Derived.Laws.CopyOwn
import Derived.Deep.RegionHeld3
namespace Go.Proofs.YtoiiemjaecfnhaaDoor
open Go.RowKit

theorem makeB (n : Nat) (hn : n ≤ 140737488355328) (u : World) :
    (Instr.makeSlice 31 (.int .i64 ((n : Int) + 8)) (.int .i64 ((n : Int) + 8))).run Tryd.prog u = .ok (.slice (some ⟨u.heap.size, 0, none⟩) (n + 8) (n + 8)) (u.alloc (.cells (madeCells #[.int .u8 0] (n + 8)) 5)) := by
  obtain ⟨i0, hi, hz0, hz1, hz2⟩ := info_parts infoB
  have h := run_make (P := Tryd.prog) u 31 5 i0 (.int .u8 0) Tryd.underlying31 hi hz0 .i64 .i64 ((n : Int) + 8) ((n : Int) + 8) (by omega) (Int.le_refl _) (by rw [hz2]; omega) (by omega)
  have e : ((n : Int) + 8).toNat = n + 8 := by omega
  rw [e] at h
  simpa [hz1, Value.cells] using h

theorem sizeB : (Tryd.prog.info? 5).map (·.size) = some 1 := by kernel_rfl
theorem list_rd {w : World} {B : Nat} {A : Option Addr} {l : List UInt8} (h : Rd w B A l) (hl : 0 < (l.map enc8).length) : ∃ ad, A = some ad ∧ ∀ (j : Nat) v, (l.map enc8)[j]? = some v → w.cell? (ad.add j) = some v := by
  obtain ⟨b, o, e, _, hc⟩ := h (by simpa using hl)
  refine ⟨_, e, fun j v hv => ?_⟩
  rw [List.getElem?_map] at hv
  obtain ⟨u, hu, rfl⟩ := Option.map_eq_some_iff.1 hv
  simpa [go_sem, enc8] using hc j u hu

/-- What the copy leaves, place by place. -/
theorem splice_at (cur X : List Value) (off i : Nat) (h : off + X.length ≤ cur.length) :
    (splice cur off X)[i]? = if i < off then cur[i]? else if i < off + X.length then X[i - off]? else cur[i]? := by
  unfold splice
  have hl : (cur.take off).length = off := by rw [List.length_take]; omega
  by_cases h1 : i < off
  · rw [if_pos h1, List.getElem?_append_left (by omega), List.getElem?_take_of_lt h1]
  · rw [if_neg h1, List.getElem?_append_right (by omega), hl]
    by_cases h2 : i < off + X.length
    · rw [if_pos h2, List.getElem?_append_left (by omega)]
    · rw [if_neg h2, List.getElem?_append_right (by omega), List.getElem?_drop]
      congr 1
      omega
theorem head_cells (n : Nat) (l : List UInt8) (cur : List Value) (hn : l.length = n) (hcur : cur.toArray = putK (madeCells #[.int .u8 0] (n + 8)) 0 n 4) (j : Nat) (u : UInt8)
    (hu : (Crc.wrd n ++ l)[j]? = some u) : (splice cur 4 (l.map enc8)).toArray[j]? = some (.int .u8 (u.toNat : Int)) := by
  have hcl : cur.length = n + 8 := by
    have := congrArg Array.size hcur
    rw [putK_size, size_madeCells] at this
    simpa using this
  rw [List.getElem?_toArray, splice_at _ _ _ _ (by simp; omega)]
  by_cases h1 : j < 4
  · rw [if_pos h1]
    rw [List.getElem?_append_left (by rw [Crc.wrd_length]; exact h1)] at hu
    have h := putK_word (madeCells #[.int .u8 0] (n + 8)) 0 n (by rw [size_madeCells]; omega) j u hu
    rw [Nat.zero_add, ← hcur, List.getElem?_toArray] at h
    exact h
  · rw [if_neg h1]
    rw [List.getElem?_append_right (by rw [Crc.wrd_length]; omega), Crc.wrd_length] at hu
    have hj : j - 4 < l.length := by
      rcases Nat.lt_or_ge (j - 4) l.length with h | h
      · exact h
      · rw [List.getElem?_eq_none h] at hu; cases hu
    rw [if_pos (by simp; omega), List.getElem?_map, hu]
    rfl
theorem frame_cells (s n : Nat) (l : List UInt8) (cur : List Value) (hn : l.length = n) (hcur : cur.toArray = putK (madeCells #[.int .u8 0] (n + 8)) 0 n 4) :
    putK (splice cur 4 (l.map enc8)).toArray (4 + n) (Crc.chk s (Crc.wrd n ++ l)) 4 = ((Crc.frm s l).map enc8).toArray := by
  have hcl : cur.length = n + 8 := by
    have := congrArg Array.size hcur
    rw [putK_size, size_madeCells] at this
    simpa using this
  have hsl : (splice cur 4 (l.map enc8)).toArray.size = n + 8 := by
    rw [List.size_toArray, length_splice _ _ _ (by simp; omega), hcl]
  apply Array.ext_getElem?
  intro i
  rw [show ((Crc.frm s l).map enc8).toArray[i]? = ((Crc.frm s l).map enc8)[i]? from by simp, List.getElem?_map]
  by_cases h1 : i < 4 + n
  · rw [putK_other _ _ _ _ (.inl h1)]
    have hi : i < (Crc.wrd n ++ l).length := by rw [List.length_append, Crc.wrd_length]; omega
    rw [head_cells n l cur hn hcur i _ (List.getElem?_eq_getElem hi)]
    unfold Crc.frm
    rw [List.getElem?_append_left (by rw [hn]; exact hi), hn, List.getElem?_eq_getElem hi]
    rfl
  · by_cases h2 : i < n + 8
    · obtain ⟨j, rfl⟩ : ∃ j, i = 4 + n + j := ⟨i - (4 + n), by omega⟩
      have hj : j < (Crc.wrd (Crc.chk s (Crc.wrd n ++ l))).length := by rw [Crc.wrd_length]; omega
      rw [putK_word _ _ _ (by omega) j _ (List.getElem?_eq_getElem hj)]
      unfold Crc.frm
      rw [hn, List.getElem?_append_right (by rw [List.length_append, Crc.wrd_length]; omega)]
      rw [show 4 + n + j - (Crc.wrd n ++ l).length = j from by rw [List.length_append, Crc.wrd_length]; omega, List.getElem?_eq_getElem hj]
      rfl
    · rw [Array.getElem?_eq_none (by rw [putK_size]; omega), List.getElem?_eq_none (by rw [Crc.frm_length]; omega)]
      rfl

end Go.Proofs.YtoiiemjaecfnhaaDoor
