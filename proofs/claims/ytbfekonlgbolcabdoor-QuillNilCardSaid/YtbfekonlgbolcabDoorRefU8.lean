/-
  The reference's Take of layer 8, a law for each way through it. Conditions: the bytes are there.
-/
import Derived.Test.YtbfekonlgbolcabDoorRefT8
namespace Go.Proofs.YtbfekonlgbolcabDoor
open Go.RowKit

set_option maxRecDepth 20000 in
set_option maxHeartbeats 1000000 in
theorem RTake_k2y (k u m : Nat) (i : Int) (s : ByteArray) (_hk : k < 256) (_hm : m < 18446744073709551616) (A : Option Addr) (n c B : Nat) (l : List UInt8) (w : World) (hR : Rd w B A l) (hB : B ≤ w.heap.size) (hn : l.length = n) (hc : n ≤ c) (hcm : c ≤ maxLen) (hk0 : (k : Int) % 4 = 2) (N : Nat) (r : List UInt8) (hN : numT l = some (false, N, r)) (h1 : (N : Int) ≤ 1) :
    Calls Tryd.prog 11 #[.slice A n c, .agg #[.int .u8 (k : Int), .int .u64 (u : Int), .int .i64 i, .string s, .int .u64 (m : Int)]] w fun e w' => ∃ A2 c2, e = .returned (.tuple #[.agg #[.int .u8 (k : Int), .int .u64 (N : Int), .int .i64 0, .string noS, .int .u64 0], .slice A2 r.length c2, .bool true]) ∧ r.length ≤ c2 ∧ c2 ≤ maxLen ∧ Rd w' B A2 r ∧ Below w.heap.size w w' := by
  obtain ⟨W1, hW1⟩ : ∃ W, ((w.alloc (.cells #[.int .u8 (k : Int), .int .u64 (u : Int), .int .i64 i, .string s, .int .u64 (m : Int)] 31)).alloc (.cells #[.int .u8 0, .int .u64 0, .int .i64 0, .string noS, .int .u64 0] 31)).alloc (.cells #[.int .u8 0, .int .u64 0, .int .i64 0, .string noS, .int .u64 0] 31) = W := ⟨_, rfl⟩
  obtain ⟨hb1, hA, hB1, hC⟩ := three_vals hW1
  have hb2 : Below w.heap.size w (((((W1.setCell ⟨w.heap.size + 2, 0, none⟩ (.int .u8 (k : Int))).setCell ⟨w.heap.size + 2, 1, none⟩ (.int .u64 0)).setCell ⟨w.heap.size + 2, 2, none⟩ (.int .i64 0)).setCell ⟨w.heap.size + 2, 3, none⟩ (.string noS)).setCell ⟨w.heap.size + 2, 4, none⟩ (.int .u64 0)) := own5 hb1 (by omega) _ _ _ _ _
  have hA2 : Blk (((((W1.setCell ⟨w.heap.size + 2, 0, none⟩ (.int .u8 (k : Int))).setCell ⟨w.heap.size + 2, 1, none⟩ (.int .u64 0)).setCell ⟨w.heap.size + 2, 2, none⟩ (.int .i64 0)).setCell ⟨w.heap.size + 2, 3, none⟩ (.string noS)).setCell ⟨w.heap.size + 2, 4, none⟩ (.int .u64 0)) w.heap.size 31 #[.int .u8 (k : Int), .int .u64 (u : Int), .int .i64 i, .string s, .int .u64 (m : Int)] := blk5 hA (by omega) _ _ _ _ _
  have hB2 : Blk (((((W1.setCell ⟨w.heap.size + 2, 0, none⟩ (.int .u8 (k : Int))).setCell ⟨w.heap.size + 2, 1, none⟩ (.int .u64 0)).setCell ⟨w.heap.size + 2, 2, none⟩ (.int .i64 0)).setCell ⟨w.heap.size + 2, 3, none⟩ (.string noS)).setCell ⟨w.heap.size + 2, 4, none⟩ (.int .u64 0)) (w.heap.size + 1) 31 #[.int .u8 0, .int .u64 0, .int .i64 0, .string noS, .int .u64 0] := blk5 hB1 (by omega) _ _ _ _ _
  have hC2 : Blk (((((W1.setCell ⟨w.heap.size + 2, 0, none⟩ (.int .u8 (k : Int))).setCell ⟨w.heap.size + 2, 1, none⟩ (.int .u64 0)).setCell ⟨w.heap.size + 2, 2, none⟩ (.int .i64 0)).setCell ⟨w.heap.size + 2, 3, none⟩ (.string noS)).setCell ⟨w.heap.size + 2, 4, none⟩ (.int .u64 0)) (w.heap.size + 2) 31 #[.int .u8 (k : Int), .int .u64 0, .int .i64 0, .string noS, .int .u64 0] := by
    have := ((((hC.set_ 0 (.int .u8 (k : Int))).set_ 1 (.int .u64 0)).set_ 2 (.int .i64 0)).set_ 3 (.string noS)).set_ 4 (.int .u64 0)
    simpa using this
  have a0 := hA.cell 0
  have g0 := hC.cell 0
  have g1 := hC.cell 1
  have g2 := hC.cell 2
  have g3 := hC.cell 3
  have g4 := hC.cell 4
  have f0 := hC.frozen 0
  have f1 := hC.frozen 1
  have f2 := hC.frozen 2
  have f3 := hC.frozen 3
  have f4 := hC.frozen 4
  simp at a0 g0 g1 g2 g3 g4
  obtain ⟨W2, hW2⟩ : ∃ W, (((((W1.setCell ⟨w.heap.size + 2, 0, none⟩ (.int .u8 (k : Int))).setCell ⟨w.heap.size + 2, 1, none⟩ (.int .u64 0)).setCell ⟨w.heap.size + 2, 2, none⟩ (.int .i64 0)).setCell ⟨w.heap.size + 2, 3, none⟩ (.string noS)).setCell ⟨w.heap.size + 2, 4, none⟩ (.int .u64 0)) = W := ⟨_, rfl⟩
  rw [hW2] at hb2 hA2 hB2 hC2
  have hNm := RNumber_any A n c B l W2 ((hR.below (hb2.mono hB))) hn hc hcm
  have HN := Lib.hid hNm
  have HA := Lib.hid hA2
  have HB := Lib.hid hB2
  have HC := Lib.hid hC2
  have HW := Lib.hid hb2
  clear hA hB1 hC hA2 hB2 hC2 hNm hb2 hb1
  go_enter Tryd.func11, Tryd.ntmps11
  go_wp2_with fail
  refine HN.out.mono ?_
  intro e w3 hp
  unfold RNPost at hp
  rw [hN] at hp
  obtain ⟨⟨q, hq⟩, hlt, A2, c2, rfl, hc2, hcm2, hrd⟩ := hp
  have hA3 : Blk w3 w.heap.size 31 #[.int .u8 (k : Int), .int .u64 (u : Int), .int .i64 i, .string s, .int .u64 (m : Int)] := by rw [hq]; exact HA.out
  have hB3 : Blk w3 (w.heap.size + 1) 31 #[.int .u8 0, .int .u64 0, .int .i64 0, .string noS, .int .u64 0] := by rw [hq]; exact HB.out
  have hC3 : Blk w3 (w.heap.size + 2) 31 #[.int .u8 (k : Int), .int .u64 0, .int .i64 0, .string noS, .int .u64 0] := by rw [hq]; exact HC.out
  have hb3 : Below w.heap.size w w3 := by rw [hq]; exact below_drewN HW.out q
  have hrd3 : Rd w3 B A2 r := by rw [hq]; exact hrd
  clear hq hW1 hW2 a0 g0 g1 g2 g3 g4 f0 f1 f2 f3 f4 HN HA HB HC HW hrd
  have a0 := hA3.cell 0
  have a4 := hA3.cell 4
  simp at a0 a4
  have ex := hC3.cell 1
  have ex' := hC3.frozen 1
  simp at ex
  obtain ⟨w4, hW4⟩ : ∃ W, w3.setCell ⟨w.heap.size + 2, 1, none⟩ (.int .u64 (N : Int)) = W := ⟨_, rfl⟩
  replace hC3 : Blk w4 (w.heap.size + 2) 31 #[.int .u8 (k : Int), .int .u64 (N : Int), .int .i64 0, .string noS, .int .u64 0] := by rw [← hW4]; simpa using hC3.set_ 1 (.int .u64 (N : Int))
  replace hB3 : Blk w4 (w.heap.size + 1) 31 #[.int .u8 0, .int .u64 0, .int .i64 0, .string noS, .int .u64 0] := by rw [← hW4]; exact hB3.far (by simp) _
  replace hA3 : Blk w4 w.heap.size 31 #[.int .u8 (k : Int), .int .u64 (u : Int), .int .i64 i, .string s, .int .u64 (m : Int)] := by rw [← hW4]; exact hA3.far (by simp) _
  replace hb3 : Below w.heap.size w w4 := by rw [← hW4]; exact hb3.setCell (by simp) _
  replace hrd3 : Rd w4 B A2 r := by rw [← hW4]; exact hrd3.setCell (by simp; omega) _
  have d0 := hC3.cell 0
  have d1 := hC3.cell 1
  have d2 := hC3.cell 2
  have d3 := hC3.cell 3
  have d4 := hC3.cell 4
  have j0 := hA3.cell 0
  have j4 := hA3.cell 4
  have y0 := hB3.cell 0
  have y1 := hB3.cell 1
  have y2 := hB3.cell 2
  have y3 := hB3.cell 3
  have y4 := hB3.cell 4
  have z0 := hB3.frozen 0
  have z1 := hB3.frozen 1
  have z2 := hB3.frozen 2
  have z3 := hB3.frozen 3
  have z4 := hB3.frozen 4
  simp at d0 d1 d2 d3 d4 y0 y1 y2 y3 y4 j0 j4
  obtain ⟨s0, s1, s2, s3, s4⟩ := set5 hB3 (.int .u8 (k : Int)) (.int .u64 (N : Int)) (.int .i64 0) (.string noS) (.int .u64 0)
  have HFN : Hid (Below w.heap.size w (((((w4.setCell ⟨w.heap.size + 1, 0, none⟩ (.int .u8 (k : Int))).setCell ⟨w.heap.size + 1, 1, none⟩ (.int .u64 (N : Int))).setCell ⟨w.heap.size + 1, 2, none⟩ (.int .i64 0)).setCell ⟨w.heap.size + 1, 3, none⟩ (.string noS)).setCell ⟨w.heap.size + 1, 4, none⟩ (.int .u64 0))) := Lib.hid (own5 hb3 (by omega) _ _ _ _ _)
  have HRD : Hid (Rd (((((w4.setCell ⟨w.heap.size + 1, 0, none⟩ (.int .u8 (k : Int))).setCell ⟨w.heap.size + 1, 1, none⟩ (.int .u64 (N : Int))).setCell ⟨w.heap.size + 1, 2, none⟩ (.int .i64 0)).setCell ⟨w.heap.size + 1, 3, none⟩ (.string noS)).setCell ⟨w.heap.size + 1, 4, none⟩ (.int .u64 0)) B A2 r) := Lib.hid (rd5 hrd3 (by omega) _ _ _ _ _)
  clear hA3 hB3 hC3 hb3 hrd3
  have hq0 : decide (N ≤ 1) = true := by simp; omega
  go_wp2_with fail
  refine bodyPost_ret (v := .tuple #[.agg #[.int .u8 (k : Int), .int .u64 (N : Int), .int .i64 0, .string noS, .int .u64 0], .slice A2 r.length c2, .bool true]) ?_ rfl ?_
  · simp [results, Tryd.results11, go_sem, s0, s1, s2, s3, s4, Result.andThen]
  · exact ⟨A2, c2, rfl, hc2, hcm2, HRD.out, HFN.out⟩
set_option maxRecDepth 20000 in
set_option maxHeartbeats 1000000 in
theorem RTake_k2m (k u m : Nat) (i : Int) (s : ByteArray) (_hk : k < 256) (_hm : m < 18446744073709551616) (A : Option Addr) (n c B : Nat) (l : List UInt8) (w : World) (hR : Rd w B A l) (hB : B ≤ w.heap.size) (hn : l.length = n) (hc : n ≤ c) (hcm : c ≤ maxLen) (hk0 : (k : Int) % 4 = 2) (N : Nat) (r : List UInt8) (hN : numT l = some (true, N, r)) :
    Calls Tryd.prog 11 #[.slice A n c, .agg #[.int .u8 (k : Int), .int .u64 (u : Int), .int .i64 i, .string s, .int .u64 (m : Int)]] w fun e w' => e = .returned (.tuple #[.agg #[.int .u8 (k : Int), .int .u64 0, .int .i64 0, .string noS, .int .u64 0], .slice none 0 0, .bool false]) ∧ Below w.heap.size w w' := by
  obtain ⟨W1, hW1⟩ : ∃ W, ((w.alloc (.cells #[.int .u8 (k : Int), .int .u64 (u : Int), .int .i64 i, .string s, .int .u64 (m : Int)] 31)).alloc (.cells #[.int .u8 0, .int .u64 0, .int .i64 0, .string noS, .int .u64 0] 31)).alloc (.cells #[.int .u8 0, .int .u64 0, .int .i64 0, .string noS, .int .u64 0] 31) = W := ⟨_, rfl⟩
  obtain ⟨hb1, hA, hB1, hC⟩ := three_vals hW1
  have hb2 : Below w.heap.size w (((((W1.setCell ⟨w.heap.size + 2, 0, none⟩ (.int .u8 (k : Int))).setCell ⟨w.heap.size + 2, 1, none⟩ (.int .u64 0)).setCell ⟨w.heap.size + 2, 2, none⟩ (.int .i64 0)).setCell ⟨w.heap.size + 2, 3, none⟩ (.string noS)).setCell ⟨w.heap.size + 2, 4, none⟩ (.int .u64 0)) := own5 hb1 (by omega) _ _ _ _ _
  have hA2 : Blk (((((W1.setCell ⟨w.heap.size + 2, 0, none⟩ (.int .u8 (k : Int))).setCell ⟨w.heap.size + 2, 1, none⟩ (.int .u64 0)).setCell ⟨w.heap.size + 2, 2, none⟩ (.int .i64 0)).setCell ⟨w.heap.size + 2, 3, none⟩ (.string noS)).setCell ⟨w.heap.size + 2, 4, none⟩ (.int .u64 0)) w.heap.size 31 #[.int .u8 (k : Int), .int .u64 (u : Int), .int .i64 i, .string s, .int .u64 (m : Int)] := blk5 hA (by omega) _ _ _ _ _
  have hB2 : Blk (((((W1.setCell ⟨w.heap.size + 2, 0, none⟩ (.int .u8 (k : Int))).setCell ⟨w.heap.size + 2, 1, none⟩ (.int .u64 0)).setCell ⟨w.heap.size + 2, 2, none⟩ (.int .i64 0)).setCell ⟨w.heap.size + 2, 3, none⟩ (.string noS)).setCell ⟨w.heap.size + 2, 4, none⟩ (.int .u64 0)) (w.heap.size + 1) 31 #[.int .u8 0, .int .u64 0, .int .i64 0, .string noS, .int .u64 0] := blk5 hB1 (by omega) _ _ _ _ _
  have hC2 : Blk (((((W1.setCell ⟨w.heap.size + 2, 0, none⟩ (.int .u8 (k : Int))).setCell ⟨w.heap.size + 2, 1, none⟩ (.int .u64 0)).setCell ⟨w.heap.size + 2, 2, none⟩ (.int .i64 0)).setCell ⟨w.heap.size + 2, 3, none⟩ (.string noS)).setCell ⟨w.heap.size + 2, 4, none⟩ (.int .u64 0)) (w.heap.size + 2) 31 #[.int .u8 (k : Int), .int .u64 0, .int .i64 0, .string noS, .int .u64 0] := by
    have := ((((hC.set_ 0 (.int .u8 (k : Int))).set_ 1 (.int .u64 0)).set_ 2 (.int .i64 0)).set_ 3 (.string noS)).set_ 4 (.int .u64 0)
    simpa using this
  have a0 := hA.cell 0
  have g0 := hC.cell 0
  have g1 := hC.cell 1
  have g2 := hC.cell 2
  have g3 := hC.cell 3
  have g4 := hC.cell 4
  have f0 := hC.frozen 0
  have f1 := hC.frozen 1
  have f2 := hC.frozen 2
  have f3 := hC.frozen 3
  have f4 := hC.frozen 4
  simp at a0 g0 g1 g2 g3 g4
  obtain ⟨W2, hW2⟩ : ∃ W, (((((W1.setCell ⟨w.heap.size + 2, 0, none⟩ (.int .u8 (k : Int))).setCell ⟨w.heap.size + 2, 1, none⟩ (.int .u64 0)).setCell ⟨w.heap.size + 2, 2, none⟩ (.int .i64 0)).setCell ⟨w.heap.size + 2, 3, none⟩ (.string noS)).setCell ⟨w.heap.size + 2, 4, none⟩ (.int .u64 0)) = W := ⟨_, rfl⟩
  rw [hW2] at hb2 hA2 hB2 hC2
  have hNm := RNumber_any A n c B l W2 ((hR.below (hb2.mono hB))) hn hc hcm
  have HN := Lib.hid hNm
  have HA := Lib.hid hA2
  have HB := Lib.hid hB2
  have HC := Lib.hid hC2
  have HW := Lib.hid hb2
  clear hA hB1 hC hA2 hB2 hC2 hNm hb2 hb1
  go_enter Tryd.func11, Tryd.ntmps11
  go_wp2_with fail
  refine HN.out.mono ?_
  intro e w3 hp
  unfold RNPost at hp
  rw [hN] at hp
  obtain ⟨⟨q, hq⟩, hlt, A2, c2, rfl, hc2, hcm2, hrd⟩ := hp
  have hA3 : Blk w3 w.heap.size 31 #[.int .u8 (k : Int), .int .u64 (u : Int), .int .i64 i, .string s, .int .u64 (m : Int)] := by rw [hq]; exact HA.out
  have hB3 : Blk w3 (w.heap.size + 1) 31 #[.int .u8 0, .int .u64 0, .int .i64 0, .string noS, .int .u64 0] := by rw [hq]; exact HB.out
  have hC3 : Blk w3 (w.heap.size + 2) 31 #[.int .u8 (k : Int), .int .u64 0, .int .i64 0, .string noS, .int .u64 0] := by rw [hq]; exact HC.out
  have hb3 : Below w.heap.size w w3 := by rw [hq]; exact below_drewN HW.out q
  have hrd3 : Rd w3 B A2 r := by rw [hq]; exact hrd
  clear hq hW1 hW2 a0 g0 g1 g2 g3 g4 f0 f1 f2 f3 f4 HN HA HB HC HW hrd
  have a0 := hA3.cell 0
  have a4 := hA3.cell 4
  simp at a0 a4
  have ex := hC3.cell 1
  have ex' := hC3.frozen 1
  simp at ex
  obtain ⟨w4, hW4⟩ : ∃ W, w3.setCell ⟨w.heap.size + 2, 1, none⟩ (.int .u64 (N : Int)) = W := ⟨_, rfl⟩
  replace hC3 : Blk w4 (w.heap.size + 2) 31 #[.int .u8 (k : Int), .int .u64 (N : Int), .int .i64 0, .string noS, .int .u64 0] := by rw [← hW4]; simpa using hC3.set_ 1 (.int .u64 (N : Int))
  replace hB3 : Blk w4 (w.heap.size + 1) 31 #[.int .u8 0, .int .u64 0, .int .i64 0, .string noS, .int .u64 0] := by rw [← hW4]; exact hB3.far (by simp) _
  replace hA3 : Blk w4 w.heap.size 31 #[.int .u8 (k : Int), .int .u64 (u : Int), .int .i64 i, .string s, .int .u64 (m : Int)] := by rw [← hW4]; exact hA3.far (by simp) _
  replace hb3 : Below w.heap.size w w4 := by rw [← hW4]; exact hb3.setCell (by simp) _
  replace hrd3 : Rd w4 B A2 r := by rw [← hW4]; exact hrd3.setCell (by simp; omega) _
  have d0 := hC3.cell 0
  have d1 := hC3.cell 1
  have d2 := hC3.cell 2
  have d3 := hC3.cell 3
  have d4 := hC3.cell 4
  have j0 := hA3.cell 0
  have j4 := hA3.cell 4
  have y0 := hB3.cell 0
  have y1 := hB3.cell 1
  have y2 := hB3.cell 2
  have y3 := hB3.cell 3
  have y4 := hB3.cell 4
  have z0 := hB3.frozen 0
  have z1 := hB3.frozen 1
  have z2 := hB3.frozen 2
  have z3 := hB3.frozen 3
  have z4 := hB3.frozen 4
  simp at d0 d1 d2 d3 d4 y0 y1 y2 y3 y4 j0 j4
  obtain ⟨s0, s1, s2, s3, s4⟩ := set5 hB3 (.int .u8 (k : Int)) (.int .u64 0) (.int .i64 0) (.string noS) (.int .u64 0)
  have HFN : Hid (Below w.heap.size w (((((w4.setCell ⟨w.heap.size + 1, 0, none⟩ (.int .u8 (k : Int))).setCell ⟨w.heap.size + 1, 1, none⟩ (.int .u64 0)).setCell ⟨w.heap.size + 1, 2, none⟩ (.int .i64 0)).setCell ⟨w.heap.size + 1, 3, none⟩ (.string noS)).setCell ⟨w.heap.size + 1, 4, none⟩ (.int .u64 0))) := Lib.hid (own5 hb3 (by omega) _ _ _ _ _)
  clear hA3 hB3 hC3 hb3 hrd3
  go_wp2_with fail
  refine bodyPost_ret (v := .tuple #[.agg #[.int .u8 (k : Int), .int .u64 0, .int .i64 0, .string noS, .int .u64 0], .slice none 0 0, .bool false]) ?_ rfl ?_
  · simp [results, Tryd.results11, go_sem, s0, s1, s2, s3, s4, Result.andThen]
  · exact ⟨rfl, HFN.out⟩
set_option maxRecDepth 20000 in
set_option maxHeartbeats 1000000 in
theorem RTake_k2n (k u m : Nat) (i : Int) (s : ByteArray) (_hk : k < 256) (_hm : m < 18446744073709551616) (A : Option Addr) (n c B : Nat) (l : List UInt8) (w : World) (hR : Rd w B A l) (hB : B ≤ w.heap.size) (hn : l.length = n) (hc : n ≤ c) (hcm : c ≤ maxLen) (hk0 : (k : Int) % 4 = 2) (N : Nat) (r : List UInt8) (hN : numT l = some (false, N, r)) (h1 : 1 < (N : Int)) :
    Calls Tryd.prog 11 #[.slice A n c, .agg #[.int .u8 (k : Int), .int .u64 (u : Int), .int .i64 i, .string s, .int .u64 (m : Int)]] w fun e w' => e = .returned (.tuple #[.agg #[.int .u8 (k : Int), .int .u64 0, .int .i64 0, .string noS, .int .u64 0], .slice none 0 0, .bool false]) ∧ Below w.heap.size w w' := by
  obtain ⟨W1, hW1⟩ : ∃ W, ((w.alloc (.cells #[.int .u8 (k : Int), .int .u64 (u : Int), .int .i64 i, .string s, .int .u64 (m : Int)] 31)).alloc (.cells #[.int .u8 0, .int .u64 0, .int .i64 0, .string noS, .int .u64 0] 31)).alloc (.cells #[.int .u8 0, .int .u64 0, .int .i64 0, .string noS, .int .u64 0] 31) = W := ⟨_, rfl⟩
  obtain ⟨hb1, hA, hB1, hC⟩ := three_vals hW1
  have hb2 : Below w.heap.size w (((((W1.setCell ⟨w.heap.size + 2, 0, none⟩ (.int .u8 (k : Int))).setCell ⟨w.heap.size + 2, 1, none⟩ (.int .u64 0)).setCell ⟨w.heap.size + 2, 2, none⟩ (.int .i64 0)).setCell ⟨w.heap.size + 2, 3, none⟩ (.string noS)).setCell ⟨w.heap.size + 2, 4, none⟩ (.int .u64 0)) := own5 hb1 (by omega) _ _ _ _ _
  have hA2 : Blk (((((W1.setCell ⟨w.heap.size + 2, 0, none⟩ (.int .u8 (k : Int))).setCell ⟨w.heap.size + 2, 1, none⟩ (.int .u64 0)).setCell ⟨w.heap.size + 2, 2, none⟩ (.int .i64 0)).setCell ⟨w.heap.size + 2, 3, none⟩ (.string noS)).setCell ⟨w.heap.size + 2, 4, none⟩ (.int .u64 0)) w.heap.size 31 #[.int .u8 (k : Int), .int .u64 (u : Int), .int .i64 i, .string s, .int .u64 (m : Int)] := blk5 hA (by omega) _ _ _ _ _
  have hB2 : Blk (((((W1.setCell ⟨w.heap.size + 2, 0, none⟩ (.int .u8 (k : Int))).setCell ⟨w.heap.size + 2, 1, none⟩ (.int .u64 0)).setCell ⟨w.heap.size + 2, 2, none⟩ (.int .i64 0)).setCell ⟨w.heap.size + 2, 3, none⟩ (.string noS)).setCell ⟨w.heap.size + 2, 4, none⟩ (.int .u64 0)) (w.heap.size + 1) 31 #[.int .u8 0, .int .u64 0, .int .i64 0, .string noS, .int .u64 0] := blk5 hB1 (by omega) _ _ _ _ _
  have hC2 : Blk (((((W1.setCell ⟨w.heap.size + 2, 0, none⟩ (.int .u8 (k : Int))).setCell ⟨w.heap.size + 2, 1, none⟩ (.int .u64 0)).setCell ⟨w.heap.size + 2, 2, none⟩ (.int .i64 0)).setCell ⟨w.heap.size + 2, 3, none⟩ (.string noS)).setCell ⟨w.heap.size + 2, 4, none⟩ (.int .u64 0)) (w.heap.size + 2) 31 #[.int .u8 (k : Int), .int .u64 0, .int .i64 0, .string noS, .int .u64 0] := by
    have := ((((hC.set_ 0 (.int .u8 (k : Int))).set_ 1 (.int .u64 0)).set_ 2 (.int .i64 0)).set_ 3 (.string noS)).set_ 4 (.int .u64 0)
    simpa using this
  have a0 := hA.cell 0
  have g0 := hC.cell 0
  have g1 := hC.cell 1
  have g2 := hC.cell 2
  have g3 := hC.cell 3
  have g4 := hC.cell 4
  have f0 := hC.frozen 0
  have f1 := hC.frozen 1
  have f2 := hC.frozen 2
  have f3 := hC.frozen 3
  have f4 := hC.frozen 4
  simp at a0 g0 g1 g2 g3 g4
  obtain ⟨W2, hW2⟩ : ∃ W, (((((W1.setCell ⟨w.heap.size + 2, 0, none⟩ (.int .u8 (k : Int))).setCell ⟨w.heap.size + 2, 1, none⟩ (.int .u64 0)).setCell ⟨w.heap.size + 2, 2, none⟩ (.int .i64 0)).setCell ⟨w.heap.size + 2, 3, none⟩ (.string noS)).setCell ⟨w.heap.size + 2, 4, none⟩ (.int .u64 0)) = W := ⟨_, rfl⟩
  rw [hW2] at hb2 hA2 hB2 hC2
  have hNm := RNumber_any A n c B l W2 ((hR.below (hb2.mono hB))) hn hc hcm
  have HN := Lib.hid hNm
  have HA := Lib.hid hA2
  have HB := Lib.hid hB2
  have HC := Lib.hid hC2
  have HW := Lib.hid hb2
  clear hA hB1 hC hA2 hB2 hC2 hNm hb2 hb1
  go_enter Tryd.func11, Tryd.ntmps11
  go_wp2_with fail
  refine HN.out.mono ?_
  intro e w3 hp
  unfold RNPost at hp
  rw [hN] at hp
  obtain ⟨⟨q, hq⟩, hlt, A2, c2, rfl, hc2, hcm2, hrd⟩ := hp
  have hA3 : Blk w3 w.heap.size 31 #[.int .u8 (k : Int), .int .u64 (u : Int), .int .i64 i, .string s, .int .u64 (m : Int)] := by rw [hq]; exact HA.out
  have hB3 : Blk w3 (w.heap.size + 1) 31 #[.int .u8 0, .int .u64 0, .int .i64 0, .string noS, .int .u64 0] := by rw [hq]; exact HB.out
  have hC3 : Blk w3 (w.heap.size + 2) 31 #[.int .u8 (k : Int), .int .u64 0, .int .i64 0, .string noS, .int .u64 0] := by rw [hq]; exact HC.out
  have hb3 : Below w.heap.size w w3 := by rw [hq]; exact below_drewN HW.out q
  have hrd3 : Rd w3 B A2 r := by rw [hq]; exact hrd
  clear hq hW1 hW2 a0 g0 g1 g2 g3 g4 f0 f1 f2 f3 f4 HN HA HB HC HW hrd
  have a0 := hA3.cell 0
  have a4 := hA3.cell 4
  simp at a0 a4
  have ex := hC3.cell 1
  have ex' := hC3.frozen 1
  simp at ex
  obtain ⟨w4, hW4⟩ : ∃ W, w3.setCell ⟨w.heap.size + 2, 1, none⟩ (.int .u64 (N : Int)) = W := ⟨_, rfl⟩
  replace hC3 : Blk w4 (w.heap.size + 2) 31 #[.int .u8 (k : Int), .int .u64 (N : Int), .int .i64 0, .string noS, .int .u64 0] := by rw [← hW4]; simpa using hC3.set_ 1 (.int .u64 (N : Int))
  replace hB3 : Blk w4 (w.heap.size + 1) 31 #[.int .u8 0, .int .u64 0, .int .i64 0, .string noS, .int .u64 0] := by rw [← hW4]; exact hB3.far (by simp) _
  replace hA3 : Blk w4 w.heap.size 31 #[.int .u8 (k : Int), .int .u64 (u : Int), .int .i64 i, .string s, .int .u64 (m : Int)] := by rw [← hW4]; exact hA3.far (by simp) _
  replace hb3 : Below w.heap.size w w4 := by rw [← hW4]; exact hb3.setCell (by simp) _
  replace hrd3 : Rd w4 B A2 r := by rw [← hW4]; exact hrd3.setCell (by simp; omega) _
  have d0 := hC3.cell 0
  have d1 := hC3.cell 1
  have d2 := hC3.cell 2
  have d3 := hC3.cell 3
  have d4 := hC3.cell 4
  have j0 := hA3.cell 0
  have j4 := hA3.cell 4
  have y0 := hB3.cell 0
  have y1 := hB3.cell 1
  have y2 := hB3.cell 2
  have y3 := hB3.cell 3
  have y4 := hB3.cell 4
  have z0 := hB3.frozen 0
  have z1 := hB3.frozen 1
  have z2 := hB3.frozen 2
  have z3 := hB3.frozen 3
  have z4 := hB3.frozen 4
  simp at d0 d1 d2 d3 d4 y0 y1 y2 y3 y4 j0 j4
  obtain ⟨s0, s1, s2, s3, s4⟩ := set5 hB3 (.int .u8 (k : Int)) (.int .u64 0) (.int .i64 0) (.string noS) (.int .u64 0)
  have HFN : Hid (Below w.heap.size w (((((w4.setCell ⟨w.heap.size + 1, 0, none⟩ (.int .u8 (k : Int))).setCell ⟨w.heap.size + 1, 1, none⟩ (.int .u64 0)).setCell ⟨w.heap.size + 1, 2, none⟩ (.int .i64 0)).setCell ⟨w.heap.size + 1, 3, none⟩ (.string noS)).setCell ⟨w.heap.size + 1, 4, none⟩ (.int .u64 0))) := Lib.hid (own5 hb3 (by omega) _ _ _ _ _)
  clear hA3 hB3 hC3 hb3 hrd3
  have hq0 : decide (N ≤ 1) = false := by simp; omega
  have hq1 : decide ((N : Int) ≤ 1) = false := by simp; omega
  go_wp2_with fail
  refine bodyPost_ret (v := .tuple #[.agg #[.int .u8 (k : Int), .int .u64 0, .int .i64 0, .string noS, .int .u64 0], .slice none 0 0, .bool false]) ?_ rfl ?_
  · simp [results, Tryd.results11, go_sem, s0, s1, s2, s3, s4, Result.andThen]
  · exact ⟨rfl, HFN.out⟩
set_option maxRecDepth 20000 in
set_option maxHeartbeats 1000000 in
theorem RTake_k3m (k u m : Nat) (i : Int) (s : ByteArray) (_hk : k < 256) (_hm : m < 18446744073709551616) (A : Option Addr) (n c B : Nat) (l : List UInt8) (w : World) (hR : Rd w B A l) (hB : B ≤ w.heap.size) (hn : l.length = n) (hc : n ≤ c) (hcm : c ≤ maxLen) (hk0 : (k : Int) % 4 = 3) (N : Nat) (r : List UInt8) (hN : numT l = some (true, N, r)) :
    Calls Tryd.prog 11 #[.slice A n c, .agg #[.int .u8 (k : Int), .int .u64 (u : Int), .int .i64 i, .string s, .int .u64 (m : Int)]] w fun e w' => e = .returned (.tuple #[.agg #[.int .u8 (k : Int), .int .u64 0, .int .i64 0, .string noS, .int .u64 0], .slice none 0 0, .bool false]) ∧ Below w.heap.size w w' := by
  obtain ⟨W1, hW1⟩ : ∃ W, ((w.alloc (.cells #[.int .u8 (k : Int), .int .u64 (u : Int), .int .i64 i, .string s, .int .u64 (m : Int)] 31)).alloc (.cells #[.int .u8 0, .int .u64 0, .int .i64 0, .string noS, .int .u64 0] 31)).alloc (.cells #[.int .u8 0, .int .u64 0, .int .i64 0, .string noS, .int .u64 0] 31) = W := ⟨_, rfl⟩
  obtain ⟨hb1, hA, hB1, hC⟩ := three_vals hW1
  have hb2 : Below w.heap.size w (((((W1.setCell ⟨w.heap.size + 2, 0, none⟩ (.int .u8 (k : Int))).setCell ⟨w.heap.size + 2, 1, none⟩ (.int .u64 0)).setCell ⟨w.heap.size + 2, 2, none⟩ (.int .i64 0)).setCell ⟨w.heap.size + 2, 3, none⟩ (.string noS)).setCell ⟨w.heap.size + 2, 4, none⟩ (.int .u64 0)) := own5 hb1 (by omega) _ _ _ _ _
  have hA2 : Blk (((((W1.setCell ⟨w.heap.size + 2, 0, none⟩ (.int .u8 (k : Int))).setCell ⟨w.heap.size + 2, 1, none⟩ (.int .u64 0)).setCell ⟨w.heap.size + 2, 2, none⟩ (.int .i64 0)).setCell ⟨w.heap.size + 2, 3, none⟩ (.string noS)).setCell ⟨w.heap.size + 2, 4, none⟩ (.int .u64 0)) w.heap.size 31 #[.int .u8 (k : Int), .int .u64 (u : Int), .int .i64 i, .string s, .int .u64 (m : Int)] := blk5 hA (by omega) _ _ _ _ _
  have hB2 : Blk (((((W1.setCell ⟨w.heap.size + 2, 0, none⟩ (.int .u8 (k : Int))).setCell ⟨w.heap.size + 2, 1, none⟩ (.int .u64 0)).setCell ⟨w.heap.size + 2, 2, none⟩ (.int .i64 0)).setCell ⟨w.heap.size + 2, 3, none⟩ (.string noS)).setCell ⟨w.heap.size + 2, 4, none⟩ (.int .u64 0)) (w.heap.size + 1) 31 #[.int .u8 0, .int .u64 0, .int .i64 0, .string noS, .int .u64 0] := blk5 hB1 (by omega) _ _ _ _ _
  have hC2 : Blk (((((W1.setCell ⟨w.heap.size + 2, 0, none⟩ (.int .u8 (k : Int))).setCell ⟨w.heap.size + 2, 1, none⟩ (.int .u64 0)).setCell ⟨w.heap.size + 2, 2, none⟩ (.int .i64 0)).setCell ⟨w.heap.size + 2, 3, none⟩ (.string noS)).setCell ⟨w.heap.size + 2, 4, none⟩ (.int .u64 0)) (w.heap.size + 2) 31 #[.int .u8 (k : Int), .int .u64 0, .int .i64 0, .string noS, .int .u64 0] := by
    have := ((((hC.set_ 0 (.int .u8 (k : Int))).set_ 1 (.int .u64 0)).set_ 2 (.int .i64 0)).set_ 3 (.string noS)).set_ 4 (.int .u64 0)
    simpa using this
  have a0 := hA.cell 0
  have g0 := hC.cell 0
  have g1 := hC.cell 1
  have g2 := hC.cell 2
  have g3 := hC.cell 3
  have g4 := hC.cell 4
  have f0 := hC.frozen 0
  have f1 := hC.frozen 1
  have f2 := hC.frozen 2
  have f3 := hC.frozen 3
  have f4 := hC.frozen 4
  simp at a0 g0 g1 g2 g3 g4
  obtain ⟨W2, hW2⟩ : ∃ W, (((((W1.setCell ⟨w.heap.size + 2, 0, none⟩ (.int .u8 (k : Int))).setCell ⟨w.heap.size + 2, 1, none⟩ (.int .u64 0)).setCell ⟨w.heap.size + 2, 2, none⟩ (.int .i64 0)).setCell ⟨w.heap.size + 2, 3, none⟩ (.string noS)).setCell ⟨w.heap.size + 2, 4, none⟩ (.int .u64 0)) = W := ⟨_, rfl⟩
  rw [hW2] at hb2 hA2 hB2 hC2
  have hNm := RNumber_any A n c B l W2 ((hR.below (hb2.mono hB))) hn hc hcm
  have HN := Lib.hid hNm
  have HA := Lib.hid hA2
  have HB := Lib.hid hB2
  have HC := Lib.hid hC2
  have HW := Lib.hid hb2
  clear hA hB1 hC hA2 hB2 hC2 hNm hb2 hb1
  go_enter Tryd.func11, Tryd.ntmps11
  go_wp2_with fail
  refine HN.out.mono ?_
  intro e w3 hp
  unfold RNPost at hp
  rw [hN] at hp
  obtain ⟨⟨q, hq⟩, hlt, A2, c2, rfl, hc2, hcm2, hrd⟩ := hp
  have hA3 : Blk w3 w.heap.size 31 #[.int .u8 (k : Int), .int .u64 (u : Int), .int .i64 i, .string s, .int .u64 (m : Int)] := by rw [hq]; exact HA.out
  have hB3 : Blk w3 (w.heap.size + 1) 31 #[.int .u8 0, .int .u64 0, .int .i64 0, .string noS, .int .u64 0] := by rw [hq]; exact HB.out
  have hC3 : Blk w3 (w.heap.size + 2) 31 #[.int .u8 (k : Int), .int .u64 0, .int .i64 0, .string noS, .int .u64 0] := by rw [hq]; exact HC.out
  have hb3 : Below w.heap.size w w3 := by rw [hq]; exact below_drewN HW.out q
  have hrd3 : Rd w3 B A2 r := by rw [hq]; exact hrd
  clear hq hW1 hW2 a0 g0 g1 g2 g3 g4 f0 f1 f2 f3 f4 HN HA HB HC HW hrd
  have a0 := hA3.cell 0
  have a4 := hA3.cell 4
  simp at a0 a4
  have d0 := hC3.cell 0
  have d1 := hC3.cell 1
  have d2 := hC3.cell 2
  have d3 := hC3.cell 3
  have d4 := hC3.cell 4
  have j0 := hA3.cell 0
  have j4 := hA3.cell 4
  have y0 := hB3.cell 0
  have y1 := hB3.cell 1
  have y2 := hB3.cell 2
  have y3 := hB3.cell 3
  have y4 := hB3.cell 4
  have z0 := hB3.frozen 0
  have z1 := hB3.frozen 1
  have z2 := hB3.frozen 2
  have z3 := hB3.frozen 3
  have z4 := hB3.frozen 4
  simp at d0 d1 d2 d3 d4 y0 y1 y2 y3 y4 j0 j4
  obtain ⟨s0, s1, s2, s3, s4⟩ := set5 hB3 (.int .u8 (k : Int)) (.int .u64 0) (.int .i64 0) (.string noS) (.int .u64 0)
  have HFN : Hid (Below w.heap.size w (((((w3.setCell ⟨w.heap.size + 1, 0, none⟩ (.int .u8 (k : Int))).setCell ⟨w.heap.size + 1, 1, none⟩ (.int .u64 0)).setCell ⟨w.heap.size + 1, 2, none⟩ (.int .i64 0)).setCell ⟨w.heap.size + 1, 3, none⟩ (.string noS)).setCell ⟨w.heap.size + 1, 4, none⟩ (.int .u64 0))) := Lib.hid (own5 hb3 (by omega) _ _ _ _ _)
  clear hA3 hB3 hC3 hb3 hrd3
  go_wp2_with fail
  refine bodyPost_ret (v := .tuple #[.agg #[.int .u8 (k : Int), .int .u64 0, .int .i64 0, .string noS, .int .u64 0], .slice none 0 0, .bool false]) ?_ rfl ?_
  · simp [results, Tryd.results11, go_sem, s0, s1, s2, s3, s4, Result.andThen]
  · exact ⟨rfl, HFN.out⟩
set_option maxRecDepth 20000 in
set_option maxHeartbeats 1000000 in
theorem RTake_k3n (k u m : Nat) (i : Int) (s : ByteArray) (_hk : k < 256) (_hm : m < 18446744073709551616) (A : Option Addr) (n c B : Nat) (l : List UInt8) (w : World) (hR : Rd w B A l) (hB : B ≤ w.heap.size) (hn : l.length = n) (hc : n ≤ c) (hcm : c ≤ maxLen) (hk0 : (k : Int) % 4 = 3) (N : Nat) (r : List UInt8) (hN : numT l = some (false, N, r)) (h1 : (m : Int) < (N : Int)) :
    Calls Tryd.prog 11 #[.slice A n c, .agg #[.int .u8 (k : Int), .int .u64 (u : Int), .int .i64 i, .string s, .int .u64 (m : Int)]] w fun e w' => e = .returned (.tuple #[.agg #[.int .u8 (k : Int), .int .u64 0, .int .i64 0, .string noS, .int .u64 0], .slice none 0 0, .bool false]) ∧ Below w.heap.size w w' := by
  obtain ⟨W1, hW1⟩ : ∃ W, ((w.alloc (.cells #[.int .u8 (k : Int), .int .u64 (u : Int), .int .i64 i, .string s, .int .u64 (m : Int)] 31)).alloc (.cells #[.int .u8 0, .int .u64 0, .int .i64 0, .string noS, .int .u64 0] 31)).alloc (.cells #[.int .u8 0, .int .u64 0, .int .i64 0, .string noS, .int .u64 0] 31) = W := ⟨_, rfl⟩
  obtain ⟨hb1, hA, hB1, hC⟩ := three_vals hW1
  have hb2 : Below w.heap.size w (((((W1.setCell ⟨w.heap.size + 2, 0, none⟩ (.int .u8 (k : Int))).setCell ⟨w.heap.size + 2, 1, none⟩ (.int .u64 0)).setCell ⟨w.heap.size + 2, 2, none⟩ (.int .i64 0)).setCell ⟨w.heap.size + 2, 3, none⟩ (.string noS)).setCell ⟨w.heap.size + 2, 4, none⟩ (.int .u64 0)) := own5 hb1 (by omega) _ _ _ _ _
  have hA2 : Blk (((((W1.setCell ⟨w.heap.size + 2, 0, none⟩ (.int .u8 (k : Int))).setCell ⟨w.heap.size + 2, 1, none⟩ (.int .u64 0)).setCell ⟨w.heap.size + 2, 2, none⟩ (.int .i64 0)).setCell ⟨w.heap.size + 2, 3, none⟩ (.string noS)).setCell ⟨w.heap.size + 2, 4, none⟩ (.int .u64 0)) w.heap.size 31 #[.int .u8 (k : Int), .int .u64 (u : Int), .int .i64 i, .string s, .int .u64 (m : Int)] := blk5 hA (by omega) _ _ _ _ _
  have hB2 : Blk (((((W1.setCell ⟨w.heap.size + 2, 0, none⟩ (.int .u8 (k : Int))).setCell ⟨w.heap.size + 2, 1, none⟩ (.int .u64 0)).setCell ⟨w.heap.size + 2, 2, none⟩ (.int .i64 0)).setCell ⟨w.heap.size + 2, 3, none⟩ (.string noS)).setCell ⟨w.heap.size + 2, 4, none⟩ (.int .u64 0)) (w.heap.size + 1) 31 #[.int .u8 0, .int .u64 0, .int .i64 0, .string noS, .int .u64 0] := blk5 hB1 (by omega) _ _ _ _ _
  have hC2 : Blk (((((W1.setCell ⟨w.heap.size + 2, 0, none⟩ (.int .u8 (k : Int))).setCell ⟨w.heap.size + 2, 1, none⟩ (.int .u64 0)).setCell ⟨w.heap.size + 2, 2, none⟩ (.int .i64 0)).setCell ⟨w.heap.size + 2, 3, none⟩ (.string noS)).setCell ⟨w.heap.size + 2, 4, none⟩ (.int .u64 0)) (w.heap.size + 2) 31 #[.int .u8 (k : Int), .int .u64 0, .int .i64 0, .string noS, .int .u64 0] := by
    have := ((((hC.set_ 0 (.int .u8 (k : Int))).set_ 1 (.int .u64 0)).set_ 2 (.int .i64 0)).set_ 3 (.string noS)).set_ 4 (.int .u64 0)
    simpa using this
  have a0 := hA.cell 0
  have g0 := hC.cell 0
  have g1 := hC.cell 1
  have g2 := hC.cell 2
  have g3 := hC.cell 3
  have g4 := hC.cell 4
  have f0 := hC.frozen 0
  have f1 := hC.frozen 1
  have f2 := hC.frozen 2
  have f3 := hC.frozen 3
  have f4 := hC.frozen 4
  simp at a0 g0 g1 g2 g3 g4
  obtain ⟨W2, hW2⟩ : ∃ W, (((((W1.setCell ⟨w.heap.size + 2, 0, none⟩ (.int .u8 (k : Int))).setCell ⟨w.heap.size + 2, 1, none⟩ (.int .u64 0)).setCell ⟨w.heap.size + 2, 2, none⟩ (.int .i64 0)).setCell ⟨w.heap.size + 2, 3, none⟩ (.string noS)).setCell ⟨w.heap.size + 2, 4, none⟩ (.int .u64 0)) = W := ⟨_, rfl⟩
  rw [hW2] at hb2 hA2 hB2 hC2
  have hNm := RNumber_any A n c B l W2 ((hR.below (hb2.mono hB))) hn hc hcm
  have HN := Lib.hid hNm
  have HA := Lib.hid hA2
  have HB := Lib.hid hB2
  have HC := Lib.hid hC2
  have HW := Lib.hid hb2
  clear hA hB1 hC hA2 hB2 hC2 hNm hb2 hb1
  go_enter Tryd.func11, Tryd.ntmps11
  go_wp2_with fail
  refine HN.out.mono ?_
  intro e w3 hp
  unfold RNPost at hp
  rw [hN] at hp
  obtain ⟨⟨q, hq⟩, hlt, A2, c2, rfl, hc2, hcm2, hrd⟩ := hp
  have hA3 : Blk w3 w.heap.size 31 #[.int .u8 (k : Int), .int .u64 (u : Int), .int .i64 i, .string s, .int .u64 (m : Int)] := by rw [hq]; exact HA.out
  have hB3 : Blk w3 (w.heap.size + 1) 31 #[.int .u8 0, .int .u64 0, .int .i64 0, .string noS, .int .u64 0] := by rw [hq]; exact HB.out
  have hC3 : Blk w3 (w.heap.size + 2) 31 #[.int .u8 (k : Int), .int .u64 0, .int .i64 0, .string noS, .int .u64 0] := by rw [hq]; exact HC.out
  have hb3 : Below w.heap.size w w3 := by rw [hq]; exact below_drewN HW.out q
  have hrd3 : Rd w3 B A2 r := by rw [hq]; exact hrd
  clear hq hW1 hW2 a0 g0 g1 g2 g3 g4 f0 f1 f2 f3 f4 HN HA HB HC HW hrd
  have a0 := hA3.cell 0
  have a4 := hA3.cell 4
  simp at a0 a4
  have d0 := hC3.cell 0
  have d1 := hC3.cell 1
  have d2 := hC3.cell 2
  have d3 := hC3.cell 3
  have d4 := hC3.cell 4
  have j0 := hA3.cell 0
  have j4 := hA3.cell 4
  have y0 := hB3.cell 0
  have y1 := hB3.cell 1
  have y2 := hB3.cell 2
  have y3 := hB3.cell 3
  have y4 := hB3.cell 4
  have z0 := hB3.frozen 0
  have z1 := hB3.frozen 1
  have z2 := hB3.frozen 2
  have z3 := hB3.frozen 3
  have z4 := hB3.frozen 4
  simp at d0 d1 d2 d3 d4 y0 y1 y2 y3 y4 j0 j4
  obtain ⟨s0, s1, s2, s3, s4⟩ := set5 hB3 (.int .u8 (k : Int)) (.int .u64 0) (.int .i64 0) (.string noS) (.int .u64 0)
  have HFN : Hid (Below w.heap.size w (((((w3.setCell ⟨w.heap.size + 1, 0, none⟩ (.int .u8 (k : Int))).setCell ⟨w.heap.size + 1, 1, none⟩ (.int .u64 0)).setCell ⟨w.heap.size + 1, 2, none⟩ (.int .i64 0)).setCell ⟨w.heap.size + 1, 3, none⟩ (.string noS)).setCell ⟨w.heap.size + 1, 4, none⟩ (.int .u64 0))) := Lib.hid (own5 hb3 (by omega) _ _ _ _ _)
  clear hA3 hB3 hC3 hb3 hrd3
  have hq0 : decide (N ≤ m) = false := by simp; omega
  go_wp2_with fail
  refine bodyPost_ret (v := .tuple #[.agg #[.int .u8 (k : Int), .int .u64 0, .int .i64 0, .string noS, .int .u64 0], .slice none 0 0, .bool false]) ?_ rfl ?_
  · simp [results, Tryd.results11, go_sem, s0, s1, s2, s3, s4, Result.andThen]
  · exact ⟨rfl, HFN.out⟩
set_option maxRecDepth 20000 in
set_option maxHeartbeats 1000000 in
theorem RTake_k3s (k u m : Nat) (i : Int) (s : ByteArray) (_hk : k < 256) (_hm : m < 18446744073709551616) (A : Option Addr) (n c B : Nat) (l : List UInt8) (w : World) (hR : Rd w B A l) (hB : B ≤ w.heap.size) (hn : l.length = n) (hc : n ≤ c) (hcm : c ≤ maxLen) (hk0 : (k : Int) % 4 = 3) (N : Nat) (r : List UInt8) (hN : numT l = some (false, N, r)) (h1 : (N : Int) ≤ (m : Int)) (h2 : (r.length : Int) < (N : Int)) :
    Calls Tryd.prog 11 #[.slice A n c, .agg #[.int .u8 (k : Int), .int .u64 (u : Int), .int .i64 i, .string s, .int .u64 (m : Int)]] w fun e w' => e = .returned (.tuple #[.agg #[.int .u8 (k : Int), .int .u64 0, .int .i64 0, .string noS, .int .u64 0], .slice none 0 0, .bool false]) ∧ Below w.heap.size w w' := by
  obtain ⟨W1, hW1⟩ : ∃ W, ((w.alloc (.cells #[.int .u8 (k : Int), .int .u64 (u : Int), .int .i64 i, .string s, .int .u64 (m : Int)] 31)).alloc (.cells #[.int .u8 0, .int .u64 0, .int .i64 0, .string noS, .int .u64 0] 31)).alloc (.cells #[.int .u8 0, .int .u64 0, .int .i64 0, .string noS, .int .u64 0] 31) = W := ⟨_, rfl⟩
  obtain ⟨hb1, hA, hB1, hC⟩ := three_vals hW1
  have hb2 : Below w.heap.size w (((((W1.setCell ⟨w.heap.size + 2, 0, none⟩ (.int .u8 (k : Int))).setCell ⟨w.heap.size + 2, 1, none⟩ (.int .u64 0)).setCell ⟨w.heap.size + 2, 2, none⟩ (.int .i64 0)).setCell ⟨w.heap.size + 2, 3, none⟩ (.string noS)).setCell ⟨w.heap.size + 2, 4, none⟩ (.int .u64 0)) := own5 hb1 (by omega) _ _ _ _ _
  have hA2 : Blk (((((W1.setCell ⟨w.heap.size + 2, 0, none⟩ (.int .u8 (k : Int))).setCell ⟨w.heap.size + 2, 1, none⟩ (.int .u64 0)).setCell ⟨w.heap.size + 2, 2, none⟩ (.int .i64 0)).setCell ⟨w.heap.size + 2, 3, none⟩ (.string noS)).setCell ⟨w.heap.size + 2, 4, none⟩ (.int .u64 0)) w.heap.size 31 #[.int .u8 (k : Int), .int .u64 (u : Int), .int .i64 i, .string s, .int .u64 (m : Int)] := blk5 hA (by omega) _ _ _ _ _
  have hB2 : Blk (((((W1.setCell ⟨w.heap.size + 2, 0, none⟩ (.int .u8 (k : Int))).setCell ⟨w.heap.size + 2, 1, none⟩ (.int .u64 0)).setCell ⟨w.heap.size + 2, 2, none⟩ (.int .i64 0)).setCell ⟨w.heap.size + 2, 3, none⟩ (.string noS)).setCell ⟨w.heap.size + 2, 4, none⟩ (.int .u64 0)) (w.heap.size + 1) 31 #[.int .u8 0, .int .u64 0, .int .i64 0, .string noS, .int .u64 0] := blk5 hB1 (by omega) _ _ _ _ _
  have hC2 : Blk (((((W1.setCell ⟨w.heap.size + 2, 0, none⟩ (.int .u8 (k : Int))).setCell ⟨w.heap.size + 2, 1, none⟩ (.int .u64 0)).setCell ⟨w.heap.size + 2, 2, none⟩ (.int .i64 0)).setCell ⟨w.heap.size + 2, 3, none⟩ (.string noS)).setCell ⟨w.heap.size + 2, 4, none⟩ (.int .u64 0)) (w.heap.size + 2) 31 #[.int .u8 (k : Int), .int .u64 0, .int .i64 0, .string noS, .int .u64 0] := by
    have := ((((hC.set_ 0 (.int .u8 (k : Int))).set_ 1 (.int .u64 0)).set_ 2 (.int .i64 0)).set_ 3 (.string noS)).set_ 4 (.int .u64 0)
    simpa using this
  have a0 := hA.cell 0
  have g0 := hC.cell 0
  have g1 := hC.cell 1
  have g2 := hC.cell 2
  have g3 := hC.cell 3
  have g4 := hC.cell 4
  have f0 := hC.frozen 0
  have f1 := hC.frozen 1
  have f2 := hC.frozen 2
  have f3 := hC.frozen 3
  have f4 := hC.frozen 4
  simp at a0 g0 g1 g2 g3 g4
  obtain ⟨W2, hW2⟩ : ∃ W, (((((W1.setCell ⟨w.heap.size + 2, 0, none⟩ (.int .u8 (k : Int))).setCell ⟨w.heap.size + 2, 1, none⟩ (.int .u64 0)).setCell ⟨w.heap.size + 2, 2, none⟩ (.int .i64 0)).setCell ⟨w.heap.size + 2, 3, none⟩ (.string noS)).setCell ⟨w.heap.size + 2, 4, none⟩ (.int .u64 0)) = W := ⟨_, rfl⟩
  rw [hW2] at hb2 hA2 hB2 hC2
  have hNm := RNumber_any A n c B l W2 ((hR.below (hb2.mono hB))) hn hc hcm
  have HN := Lib.hid hNm
  have HA := Lib.hid hA2
  have HB := Lib.hid hB2
  have HC := Lib.hid hC2
  have HW := Lib.hid hb2
  clear hA hB1 hC hA2 hB2 hC2 hNm hb2 hb1
  go_enter Tryd.func11, Tryd.ntmps11
  go_wp2_with fail
  refine HN.out.mono ?_
  intro e w3 hp
  unfold RNPost at hp
  rw [hN] at hp
  obtain ⟨⟨q, hq⟩, hlt, A2, c2, rfl, hc2, hcm2, hrd⟩ := hp
  have hA3 : Blk w3 w.heap.size 31 #[.int .u8 (k : Int), .int .u64 (u : Int), .int .i64 i, .string s, .int .u64 (m : Int)] := by rw [hq]; exact HA.out
  have hB3 : Blk w3 (w.heap.size + 1) 31 #[.int .u8 0, .int .u64 0, .int .i64 0, .string noS, .int .u64 0] := by rw [hq]; exact HB.out
  have hC3 : Blk w3 (w.heap.size + 2) 31 #[.int .u8 (k : Int), .int .u64 0, .int .i64 0, .string noS, .int .u64 0] := by rw [hq]; exact HC.out
  have hb3 : Below w.heap.size w w3 := by rw [hq]; exact below_drewN HW.out q
  have hrd3 : Rd w3 B A2 r := by rw [hq]; exact hrd
  clear hq hW1 hW2 a0 g0 g1 g2 g3 g4 f0 f1 f2 f3 f4 HN HA HB HC HW hrd
  have a0 := hA3.cell 0
  have a4 := hA3.cell 4
  simp at a0 a4
  have d0 := hC3.cell 0
  have d1 := hC3.cell 1
  have d2 := hC3.cell 2
  have d3 := hC3.cell 3
  have d4 := hC3.cell 4
  have j0 := hA3.cell 0
  have j4 := hA3.cell 4
  have y0 := hB3.cell 0
  have y1 := hB3.cell 1
  have y2 := hB3.cell 2
  have y3 := hB3.cell 3
  have y4 := hB3.cell 4
  have z0 := hB3.frozen 0
  have z1 := hB3.frozen 1
  have z2 := hB3.frozen 2
  have z3 := hB3.frozen 3
  have z4 := hB3.frozen 4
  simp at d0 d1 d2 d3 d4 y0 y1 y2 y3 y4 j0 j4
  obtain ⟨s0, s1, s2, s3, s4⟩ := set5 hB3 (.int .u8 (k : Int)) (.int .u64 0) (.int .i64 0) (.string noS) (.int .u64 0)
  have HFN : Hid (Below w.heap.size w (((((w3.setCell ⟨w.heap.size + 1, 0, none⟩ (.int .u8 (k : Int))).setCell ⟨w.heap.size + 1, 1, none⟩ (.int .u64 0)).setCell ⟨w.heap.size + 1, 2, none⟩ (.int .i64 0)).setCell ⟨w.heap.size + 1, 3, none⟩ (.string noS)).setCell ⟨w.heap.size + 1, 4, none⟩ (.int .u64 0))) := Lib.hid (own5 hb3 (by omega) _ _ _ _ _)
  clear hA3 hB3 hC3 hb3 hrd3
  have hq0 : decide (N ≤ m) = true := by simp; omega
  have hq1 : decide (N ≤ r.length) = false := by simp; omega
  go_wp2_with fail
  refine bodyPost_ret (v := .tuple #[.agg #[.int .u8 (k : Int), .int .u64 0, .int .i64 0, .string noS, .int .u64 0], .slice none 0 0, .bool false]) ?_ rfl ?_
  · simp [results, Tryd.results11, go_sem, s0, s1, s2, s3, s4, Result.andThen]
  · exact ⟨rfl, HFN.out⟩
end Go.Proofs.YtbfekonlgbolcabDoor
