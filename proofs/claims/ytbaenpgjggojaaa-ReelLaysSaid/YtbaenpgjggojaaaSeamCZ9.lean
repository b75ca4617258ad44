/-
seam.Frame: the frame of bytes. Conditions: the seed fits 32 bits, the bytes are there, and fewer than a million.
-/
import Derived.Test.YtbaenpgjggojaaaSeamBZ9
import Derived.Laws.CopyOwn
import Derived.Deep.RegionHeld3
namespace Go.Proofs.Ytbaenpgjggojaaa
open Go.RowKit

theorem makeB (n : Nat) (hn : n ≤ 140737488355328) (u : World) :
    (Instr.makeSlice 35 (.int .i64 ((n : Int) + 8)) (.int .i64 ((n : Int) + 8))).run Try.prog u = .ok (.slice (some ⟨u.heap.size, 0, none⟩) (n + 8) (n + 8)) (u.alloc (.cells (madeCells #[.int .u8 0] (n + 8)) 5)) := by
  obtain ⟨i0, hi, hz0, hz1, hz2⟩ := info_parts infoB
  have h := run_make (P := Try.prog) u 35 5 i0 (.int .u8 0) Try.underlying35 hi hz0 .i64 .i64 ((n : Int) + 8) ((n : Int) + 8) (by omega) (Int.le_refl _) (by rw [hz2]; omega) (by omega)
  have e : ((n : Int) + 8).toNat = n + 8 := by omega
  rw [e] at h
  simpa [hz1, Value.cells] using h

theorem sizeB : (Try.prog.info? 5).map (·.size) = some 1 := by kernel_rfl
theorem list_rd {w : World} {B : Nat} {A : Option Addr} {l : List UInt8} (h : Rd w B A l) (hl : 0 < (l.map enc8).length) : ∃ ad, A = some ad ∧ ∀ (j : Nat) v, (l.map enc8)[j]? = some v → w.cell? (ad.add j) = some v := by
  obtain ⟨b, o, e, _, hc⟩ := h (by simpa using hl)
  refine ⟨_, e, fun j v hv => ?_⟩
  rw [List.getElem?_map] at hv
  obtain ⟨u, hu, rfl⟩ := Option.map_eq_some_iff.1 hv
  simpa [go_sem, enc8] using hc j u hu

/-- What the copy leaves, place by place. -/
theorem splice_at (cur X : List Value) (off i : Nat) (h : off + X.length ≤ cur.length) :
    (splice cur off X)[i]? = if i < off then cur[i]? else if i < off + X.length then X[i - off]? else cur[i]? := by
  unfold splice
  have hl : (cur.take off).length = off := by rw [List.length_take]; omega
  by_cases h1 : i < off
  · rw [if_pos h1, List.getElem?_append_left (by omega), List.getElem?_take_of_lt h1]
  · rw [if_neg h1, List.getElem?_append_right (by omega), hl]
    by_cases h2 : i < off + X.length
    · rw [if_pos h2, List.getElem?_append_left (by omega)]
    · rw [if_neg h2, List.getElem?_append_right (by omega), List.getElem?_drop]
      congr 1
      omega
theorem head_cells (n : Nat) (l : List UInt8) (cur : List Value) (hn : l.length = n) (hcur : cur.toArray = putK (madeCells #[.int .u8 0] (n + 8)) 0 n 4) (j : Nat) (u : UInt8)
    (hu : (Crc.wrd n ++ l)[j]? = some u) : (splice cur 4 (l.map enc8)).toArray[j]? = some (.int .u8 (u.toNat : Int)) := by
  have hcl : cur.length = n + 8 := by
    have := congrArg Array.size hcur
    rw [putK_size, size_madeCells] at this
    simpa using this
  rw [List.getElem?_toArray, splice_at _ _ _ _ (by simp; omega)]
  by_cases h1 : j < 4
  · rw [if_pos h1]
    rw [List.getElem?_append_left (by rw [Crc.wrd_length]; exact h1)] at hu
    have h := putK_word (madeCells #[.int .u8 0] (n + 8)) 0 n (by rw [size_madeCells]; omega) j u hu
    rw [Nat.zero_add, ← hcur, List.getElem?_toArray] at h
    exact h
  · rw [if_neg h1]
    rw [List.getElem?_append_right (by rw [Crc.wrd_length]; omega), Crc.wrd_length] at hu
    have hj : j - 4 < l.length := by
      rcases Nat.lt_or_ge (j - 4) l.length with h | h
      · exact h
      · rw [List.getElem?_eq_none h] at hu; cases hu
    rw [if_pos (by simp; omega), List.getElem?_map, hu]
    rfl
theorem frame_cells (s n : Nat) (l : List UInt8) (cur : List Value) (hn : l.length = n) (hcur : cur.toArray = putK (madeCells #[.int .u8 0] (n + 8)) 0 n 4) :
    putK (splice cur 4 (l.map enc8)).toArray (4 + n) (Crc.chk s (Crc.wrd n ++ l)) 4 = ((Crc.frm s l).map enc8).toArray := by
  have hcl : cur.length = n + 8 := by
    have := congrArg Array.size hcur
    rw [putK_size, size_madeCells] at this
    simpa using this
  have hsl : (splice cur 4 (l.map enc8)).toArray.size = n + 8 := by
    rw [List.size_toArray, length_splice _ _ _ (by simp; omega), hcl]
  apply Array.ext_getElem?
  intro i
  rw [show ((Crc.frm s l).map enc8).toArray[i]? = ((Crc.frm s l).map enc8)[i]? from by simp, List.getElem?_map]
  by_cases h1 : i < 4 + n
  · rw [putK_other _ _ _ _ (.inl h1)]
    have hi : i < (Crc.wrd n ++ l).length := by rw [List.length_append, Crc.wrd_length]; omega
    rw [head_cells n l cur hn hcur i _ (List.getElem?_eq_getElem hi)]
    unfold Crc.frm
    rw [List.getElem?_append_left (by rw [hn]; exact hi), hn, List.getElem?_eq_getElem hi]
    rfl
  · by_cases h2 : i < n + 8
    · obtain ⟨j, rfl⟩ : ∃ j, i = 4 + n + j := ⟨i - (4 + n), by omega⟩
      have hj : j < (Crc.wrd (Crc.chk s (Crc.wrd n ++ l))).length := by rw [Crc.wrd_length]; omega
      rw [putK_word _ _ _ (by omega) j _ (List.getElem?_eq_getElem hj)]
      unfold Crc.frm
      rw [hn, List.getElem?_append_right (by rw [List.length_append, Crc.wrd_length]; omega)]
      rw [show 4 + n + j - (Crc.wrd n ++ l).length = j from by rw [List.length_append, Crc.wrd_length]; omega, List.getElem?_eq_getElem hj]
      rfl
    · rw [Array.getElem?_eq_none (by rw [putK_size]; omega), List.getElem?_eq_none (by rw [Crc.frm_length]; omega)]
      rfl

set_option maxHeartbeats 400000 in
theorem Frame_any (s : Nat) (A : Option Addr) (n c B : Nat) (l : List UInt8) (w : World) (hs : s < 4294967296) (hR : Rd w B A l) (hB : B ≤ w.heap.size) (hn : l.length = n) (hm : n ≤ 1000000) (_hc : n ≤ c) :
    Calls Try.prog 40 #[.int .u32 s, .slice A n c] w fun e w' =>
      e = .returned (.slice (some ⟨w.heap.size, 0, none⟩) (n + 8) (n + 8)) ∧ Blk w' w.heap.size 5 ((Crc.frm s l).map enc8).toArray ∧ Below w.heap.size w w' := by
  have hmk := makeB n (by omega)
  have HN := Lib.hid hn
  clear hn
  go_enter Try.func40, Try.ntmps40
  go_wp2_with fail
  refine (Size_any _ _ (by omega)).mono ?_
  rintro e w1 ⟨rfl, rfl⟩
  go_wp2_with fail
  have hb0 : Blk (w.alloc (.cells (madeCells #[.int .u8 0] (n + 8)) 5)) w.heap.size 5 (madeCells #[.int .u8 0] (n + 8)) := Blk.new w _ _
  refine (put_any _ 0 _ _ n _ _ (by omega) (by omega) (by unfold maxLen; omega) hb0 (by rw [size_madeCells]; omega)).mono ?_
  rintro e w1 ⟨rfl, hb1, hg1⟩
  have hbw : Below w.heap.size w w1 := ((Below.refl _ w).alloc (Nat.le_refl _) _).grown hg1 (by simp) (fun k hk => by injection hk with hk; omega)
  clear hmk hb0 hg1
  obtain ⟨cur, hcur⟩ : ∃ cur : List Value, cur.toArray = putK (madeCells #[.int .u8 0] (n + 8)) 0 n 4 := ⟨_, Array.toArray_toList⟩
  have hcl : cur.length = n + 8 := by
    have := congrArg Array.size hcur
    rw [putK_size, size_madeCells] at this
    simpa using this
  rw [← hcur] at hb1
  have HC := Lib.hid hcur
  have HL := Lib.hid hcl
  obtain ⟨X, hX⟩ : ∃ X, X = l.map enc8 := ⟨_, rfl⟩
  have hR1 := (hR.more hB).below hbw
  have hlr : 0 < X.length → ∃ ad, A = some ad ∧ ∀ (j : Nat) v, X[j]? = some v → w1.cell? (ad.add j) = some v := by rw [hX]; exact list_rd hR1
  have HLR := Lib.hid hlr
  have HX := Lib.hid hX
  have HXL : Hid (X.length = n) := Lib.hid (by rw [hX, List.length_map]; exact HN.out)
  have HX1 : Hid (∀ u ∈ X, u.oneCell' = true) := Lib.hid (by rw [hX]; exact enc8_one l)
  have HB1 := Lib.hid (show w1.heap[w.heap.size]? = some (.cells cur.toArray 5 (0, 0)) from hb1)
  clear hcur hcl hlr hX hR hb1
  go_wp2_with (with_reducible refine wpList_copy_splice (o := ⟨some 22, _, _, _, _, _⟩) rfl (.tmp 20) (.tmp 21) 35 35 rfl 5 Try.underlying35 sizeB (some ⟨w.heap.size, 4, none⟩) A (n + 4) (n + 4) n c ?ha ?hb w.heap.size 4 cur 5 HB1.out X ?hc ?hd ?he HX1.out w.heap.size w hbw (Nat.le_refl _) ?_)
  case ha => rfl
  case hb => rfl
  case hc => rw [HXL.out]; exact (Nat.min_eq_left (by omega)).symm
  case hd => exact HLR.out
  case he => rw [HXL.out, HL.out]; omega
  intro w2 hb2 hbw2
  have hw2 : w.heap.size < w2.heap.size := Blk.lt (w := w2) hb2.out
  have hpre : Rd w2 w2.heap.size (some ⟨w.heap.size, 0, none⟩) (Crc.wrd n ++ l) := by
    refine Blk.rd (w := w2) hb2.out hw2 fun j u hu => ?_
    rw [Nat.zero_add, HX.out]
    exact head_cells n l cur HN.out HC.out j u hu
  have HPL : Hid ((Crc.wrd n ++ l).length = 4 + n) := Lib.hid (by rw [List.length_append, Crc.wrd_length, HN.out])
  have hck := Crc.chk_lt s (Crc.wrd n ++ l)
  generalize hC : Crc.chk s (Crc.wrd n ++ l) = C at hck
  have HCK := Lib.hid hC
  clear hC
  have cK : ∀ W : World, W.heap = w2.heap → Calls Try.prog 64 #[.int .u32 s, .slice (some ⟨w.heap.size, 0, none⟩) (4 + n) (n + 8)] W fun e w' => e = .returned (.int .u32 (C : Nat)) ∧ Below w2.heap.size W w' := by
    intro W hW
    rw [← HCK.out, ← hW]
    refine Check_any s _ _ _ W.heap.size _ W hs ?_ (Nat.le_refl _) HPL.out (by unfold maxLen; omega)
    have h := hpre
    unfold Rd at h ⊢
    intro h0
    obtain ⟨b, o, e, hb, hc⟩ := h h0
    exact ⟨b, o, e, by rw [hW]; exact hb, fun j u hu => by rw [← hc j u hu]; simp [World.cell?, hW]⟩
  have HCk := Lib.hid cK
  have HSZ : Hid (4 + n + 4 ≤ (splice cur 4 X).toArray.size) := Lib.hid (by
    rw [List.size_toArray, length_splice _ _ _ (by rw [HXL.out, HL.out]; omega), HL.out]
    omega)
  clear cK
  have b1 : (0 : Int) ≤ 4 + (n : Int) := by omega
  have b2 : 4 + (n : Int) ≤ (n : Int) + 8 := by omega
  have b3 : (4 + (n : Int)).toNat = 4 + n := by omega
  have b4 : ¬ (n + 8 = 4 + n) := by omega
  have b5 : n + 8 - (4 + n) = 4 := by omega
  go_wp2_with fail
  go_region_held3 (fun w' => True) (trivial)
    (first
      | (go_at_call 64; refine (HCk.out w2.drew rfl).mono ?_; rintro e w3 ⟨rfl, hb3⟩)
      | (go_at_call 63; refine (put_any w.heap.size (4 + n) 4 4 C (splice cur 4 X).toArray _ hck (by decide) (by decide) (Blk.below (w := w2.drew) hb2.out hb3 hw2) HSZ.out).mono ?_; rintro e w4 ⟨rfl, hb4, hg4⟩))
  have hbw3 : Below w.heap.size w w3 := hbw2.drew.trans (hb3.mono (by omega))
  have hbw4 : Below w.heap.size w w4 := hbw3.grown hg4 hbw3.size (fun k hk => by injection hk with hk; omega)
  clear hbw2 hb3 hbw3 hg4
  have hfin : putK (splice cur 4 X).toArray (4 + n) C 4 = ((Crc.frm s l).map enc8).toArray := by
    rw [← HCK.out, HX.out]
    exact frame_cells s n l cur HN.out HC.out
  rw [hfin] at hb4
  have HB4 := Lib.hid hb4
  clear hb4 hfin
  go_wp2
  go_ret
  exact ⟨rfl, HB4.out, hbw4⟩
end Go.Proofs.Ytbaenpgjggojaaa
