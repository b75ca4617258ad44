/-
  The reference's Take of layer 8: a text that is there. Conditions: the bytes are there.
-/
import Derived.Test.YtbfekonlgbolcabDoorRefU8
namespace Go.Proofs.YtbfekonlgbolcabDoor
open Go.RowKit

theorem conv_rd {W : World} {B : Nat} {A : Option Addr} {l : List UInt8} {n c : Nat} (h : Rd W B A l) (hB : B ≤ W.heap.size) (hn : l.length = n) : (convert 22 9 (.slice A n c)).run Tryd.prog W = .ok (.string ⟨l.toArray⟩) W := by
  rcases Nat.eq_zero_or_pos l.length with h0 | h0
  · obtain rfl : l = [] := List.eq_nil_of_length_eq_zero h0
    exact conv_rg (g := 0) Rg.nil_ hn
  · obtain ⟨b, o, e, hb, hc⟩ := h h0
    exact conv_rg (g := b) (fun _ => ⟨o, e, by omega, hc⟩) hn
set_option maxRecDepth 20000 in
set_option maxHeartbeats 1000000 in
theorem RTake_k3y (k u m : Nat) (i : Int) (s : ByteArray) (_hk : k < 256) (_hm : m < 18446744073709551616) (A : Option Addr) (n c B : Nat) (l : List UInt8) (w : World) (hR : Rd w B A l) (hB : B ≤ w.heap.size) (hn : l.length = n) (hc : n ≤ c) (hcm : c ≤ maxLen) (hk0 : (k : Int) % 4 = 3) (N : Nat) (r : List UInt8) (hN : numT l = some (false, N, r)) (h1 : (N : Int) ≤ (m : Int)) (h2 : (N : Int) ≤ (r.length : Int)) :
    Calls Tryd.prog 11 #[.slice A n c, .agg #[.int .u8 (k : Int), .int .u64 (u : Int), .int .i64 i, .string s, .int .u64 (m : Int)]] w fun e w' => ∃ A2 c2, e = .returned (.tuple #[.agg #[.int .u8 (k : Int), .int .u64 0, .int .i64 0, .string ⟨(r.take N).toArray⟩, .int .u64 0], .slice A2 (r.drop N).length c2, .bool true]) ∧ (r.drop N).length ≤ c2 ∧ c2 ≤ maxLen ∧ Rd w' B A2 (r.drop N) ∧ Below w.heap.size w w' := by
  obtain ⟨W1, hW1⟩ : ∃ W, ((w.alloc (.cells #[.int .u8 (k : Int), .int .u64 (u : Int), .int .i64 i, .string s, .int .u64 (m : Int)] 31)).alloc (.cells #[.int .u8 0, .int .u64 0, .int .i64 0, .string noS, .int .u64 0] 31)).alloc (.cells #[.int .u8 0, .int .u64 0, .int .i64 0, .string noS, .int .u64 0] 31) = W := ⟨_, rfl⟩
  obtain ⟨hb1, hA, hB1, hC⟩ := three_vals hW1
  have hb2 : Below w.heap.size w (((((W1.setCell ⟨w.heap.size + 2, 0, none⟩ (.int .u8 (k : Int))).setCell ⟨w.heap.size + 2, 1, none⟩ (.int .u64 0)).setCell ⟨w.heap.size + 2, 2, none⟩ (.int .i64 0)).setCell ⟨w.heap.size + 2, 3, none⟩ (.string noS)).setCell ⟨w.heap.size + 2, 4, none⟩ (.int .u64 0)) := own5 hb1 (by omega) _ _ _ _ _
  have hA2 : Blk (((((W1.setCell ⟨w.heap.size + 2, 0, none⟩ (.int .u8 (k : Int))).setCell ⟨w.heap.size + 2, 1, none⟩ (.int .u64 0)).setCell ⟨w.heap.size + 2, 2, none⟩ (.int .i64 0)).setCell ⟨w.heap.size + 2, 3, none⟩ (.string noS)).setCell ⟨w.heap.size + 2, 4, none⟩ (.int .u64 0)) w.heap.size 31 #[.int .u8 (k : Int), .int .u64 (u : Int), .int .i64 i, .string s, .int .u64 (m : Int)] := blk5 hA (by omega) _ _ _ _ _
  have hB2 : Blk (((((W1.setCell ⟨w.heap.size + 2, 0, none⟩ (.int .u8 (k : Int))).setCell ⟨w.heap.size + 2, 1, none⟩ (.int .u64 0)).setCell ⟨w.heap.size + 2, 2, none⟩ (.int .i64 0)).setCell ⟨w.heap.size + 2, 3, none⟩ (.string noS)).setCell ⟨w.heap.size + 2, 4, none⟩ (.int .u64 0)) (w.heap.size + 1) 31 #[.int .u8 0, .int .u64 0, .int .i64 0, .string noS, .int .u64 0] := blk5 hB1 (by omega) _ _ _ _ _
  have hC2 : Blk (((((W1.setCell ⟨w.heap.size + 2, 0, none⟩ (.int .u8 (k : Int))).setCell ⟨w.heap.size + 2, 1, none⟩ (.int .u64 0)).setCell ⟨w.heap.size + 2, 2, none⟩ (.int .i64 0)).setCell ⟨w.heap.size + 2, 3, none⟩ (.string noS)).setCell ⟨w.heap.size + 2, 4, none⟩ (.int .u64 0)) (w.heap.size + 2) 31 #[.int .u8 (k : Int), .int .u64 0, .int .i64 0, .string noS, .int .u64 0] := by
    have := ((((hC.set_ 0 (.int .u8 (k : Int))).set_ 1 (.int .u64 0)).set_ 2 (.int .i64 0)).set_ 3 (.string noS)).set_ 4 (.int .u64 0)
    simpa using this
  have a0 := hA.cell 0
  have g0 := hC.cell 0
  have g1 := hC.cell 1
  have g2 := hC.cell 2
  have g3 := hC.cell 3
  have g4 := hC.cell 4
  have f0 := hC.frozen 0
  have f1 := hC.frozen 1
  have f2 := hC.frozen 2
  have f3 := hC.frozen 3
  have f4 := hC.frozen 4
  simp at a0 g0 g1 g2 g3 g4
  obtain ⟨W2, hW2⟩ : ∃ W, (((((W1.setCell ⟨w.heap.size + 2, 0, none⟩ (.int .u8 (k : Int))).setCell ⟨w.heap.size + 2, 1, none⟩ (.int .u64 0)).setCell ⟨w.heap.size + 2, 2, none⟩ (.int .i64 0)).setCell ⟨w.heap.size + 2, 3, none⟩ (.string noS)).setCell ⟨w.heap.size + 2, 4, none⟩ (.int .u64 0)) = W := ⟨_, rfl⟩
  rw [hW2] at hb2 hA2 hB2 hC2
  have hNm := RNumber_any A n c B l W2 ((hR.below (hb2.mono hB))) hn hc hcm
  have HN := Lib.hid hNm
  have HA := Lib.hid hA2
  have HB := Lib.hid hB2
  have HC := Lib.hid hC2
  have HW := Lib.hid hb2
  clear hA hB1 hC hA2 hB2 hC2 hNm hb2 hb1
  go_enter Tryd.func11, Tryd.ntmps11
  go_wp2_with fail
  refine HN.out.mono ?_
  intro e w3 hp
  unfold RNPost at hp
  rw [hN] at hp
  obtain ⟨⟨q, hq⟩, hlt, A2, c2, rfl, hc2, hcm2, hrd⟩ := hp
  have hA3 : Blk w3 w.heap.size 31 #[.int .u8 (k : Int), .int .u64 (u : Int), .int .i64 i, .string s, .int .u64 (m : Int)] := by rw [hq]; exact HA.out
  have hB3 : Blk w3 (w.heap.size + 1) 31 #[.int .u8 0, .int .u64 0, .int .i64 0, .string noS, .int .u64 0] := by rw [hq]; exact HB.out
  have hC3 : Blk w3 (w.heap.size + 2) 31 #[.int .u8 (k : Int), .int .u64 0, .int .i64 0, .string noS, .int .u64 0] := by rw [hq]; exact HC.out
  have hb3 : Below w.heap.size w w3 := by rw [hq]; exact below_drewN HW.out q
  have hrd3 : Rd w3 B A2 r := by rw [hq]; exact hrd
  clear hq hW1 hW2 a0 g0 g1 g2 g3 g4 f0 f1 f2 f3 f4 HN HA HB HC HW hrd
  have a0 := hA3.cell 0
  have a4 := hA3.cell 4
  simp at a0 a4
  have g3 := hC3.cell 3
  have f3 := hC3.frozen 3
  simp at g3
  have hcv : ∀ q, (convert 22 9 (.slice A2 N c2)).run Tryd.prog (w3.drewN q) = .ok (.string ⟨(r.take N).toArray⟩) (w3.drewN q) := fun q => conv_rd (W := w3.drewN q) (hrd3.take N) (by have := hb3.size; exact Nat.le_trans hB this) (by rw [List.length_take]; omega)
  have hcv0 : (convert 22 9 (.slice A2 N c2)).run Tryd.prog w3 = .ok (.string ⟨(r.take N).toArray⟩) w3 := conv_rd (hrd3.take N) (Nat.le_trans hB hb3.size) (by rw [List.length_take]; omega)
  have hcv1 : (convert 22 9 (.slice A2 N c2)).run Tryd.prog w3.drew = .ok (.string ⟨(r.take N).toArray⟩) w3.drew := hcv 1
  have hNi : (0 : Int) ≤ (N : Int) := by omega
  have hNi2 : (N : Int) ≤ (c2 : Int) := by omega
  have hNi3 : (N : Int) ≤ (r.length : Int) := by omega
  clear hcv
  have hc2m : c2 < 9223372036854775808 := by unfold maxLen at hcm2; omega
  have hrl : r.length < 9223372036854775808 := by omega
  have hNr : N ≤ r.length := by omega
  have hNc : N ≤ c2 := by omega
  have hq0 : decide (N ≤ m) = true := by simp; omega
  have hq1 : decide (N ≤ r.length) = true := by simp; omega
  have HC3 := Lib.hid hC3
  have HB3 := Lib.hid hB3
  have HA3 := Lib.hid hA3
  have HW3 := Lib.hid hb3
  have HR3 := Lib.hid hrd3
  clear hC3 hB3 hA3 hb3 hrd3
  go_wp2_with fail
  go_region
  obtain ⟨w4, hW4⟩ : ∃ W, (w3.setCell ⟨w.heap.size + 1 + 1, 3, none⟩ (.string ⟨(r.take N).toArray⟩)).drew = W := ⟨_, rfl⟩
  have hC3 : Blk w4 (w.heap.size + 2) 31 #[.int .u8 (k : Int), .int .u64 0, .int .i64 0, .string ⟨(r.take N).toArray⟩, .int .u64 0] := by
    rw [← hW4]
    have := (HC3.out.set_ 3 (.string ⟨(r.take N).toArray⟩)).drew
    simpa using this
  have hB3 : Blk w4 (w.heap.size + 1) 31 #[.int .u8 0, .int .u64 0, .int .i64 0, .string noS, .int .u64 0] := by rw [← hW4]; exact (HB3.out.far (by simp) _).drew
  have hA3 : Blk w4 w.heap.size 31 #[.int .u8 (k : Int), .int .u64 (u : Int), .int .i64 i, .string s, .int .u64 (m : Int)] := by rw [← hW4]; exact (HA3.out.far (by simp; omega) _).drew
  have hb3 : Below w.heap.size w w4 := by rw [← hW4]; exact (HW3.out.setCell (by simp; omega) _).drew
  have hrd3 : Rd w4 B (if c2 = N then A2 else Option.map (fun x => x.add N) A2) (r.drop N) := by
    rw [← hW4]
    exact (HR3.out.setCell (by simp; omega) _).cut hc2
  rw [hW4]
  obtain ⟨A5, hA5⟩ : ∃ A, (if c2 = N then A2 else Option.map (fun x => x.add N) A2) = A := ⟨_, rfl⟩
  rw [hA5] at hrd3 ⊢
  have d0 := hC3.cell 0
  have d1 := hC3.cell 1
  have d2 := hC3.cell 2
  have d3 := hC3.cell 3
  have d4 := hC3.cell 4
  have y0 := hB3.cell 0
  have y1 := hB3.cell 1
  have y2 := hB3.cell 2
  have y3 := hB3.cell 3
  have y4 := hB3.cell 4
  have z0 := hB3.frozen 0
  have z1 := hB3.frozen 1
  have z2 := hB3.frozen 2
  have z3 := hB3.frozen 3
  have z4 := hB3.frozen 4
  simp at d0 d1 d2 d3 d4 y0 y1 y2 y3 y4
  obtain ⟨s0, s1, s2, s3, s4⟩ := set5 hB3 (.int .u8 (k : Int)) (.int .u64 0) (.int .i64 0) (.string ⟨(r.take N).toArray⟩) (.int .u64 0)
  have HFN : Hid (Below w.heap.size w (((((w4.setCell ⟨w.heap.size + 1, 0, none⟩ (.int .u8 (k : Int))).setCell ⟨w.heap.size + 1, 1, none⟩ (.int .u64 0)).setCell ⟨w.heap.size + 1, 2, none⟩ (.int .i64 0)).setCell ⟨w.heap.size + 1, 3, none⟩ (.string ⟨(r.take N).toArray⟩)).setCell ⟨w.heap.size + 1, 4, none⟩ (.int .u64 0))) := Lib.hid (own5 hb3 (by omega) _ _ _ _ _)
  have HRD : Hid (Rd (((((w4.setCell ⟨w.heap.size + 1, 0, none⟩ (.int .u8 (k : Int))).setCell ⟨w.heap.size + 1, 1, none⟩ (.int .u64 0)).setCell ⟨w.heap.size + 1, 2, none⟩ (.int .i64 0)).setCell ⟨w.heap.size + 1, 3, none⟩ (.string ⟨(r.take N).toArray⟩)).setCell ⟨w.heap.size + 1, 4, none⟩ (.int .u64 0)) B A5 (r.drop N)) := Lib.hid (rd5 hrd3 (by omega) _ _ _ _ _)
  have hld : (r.drop N).length = r.length - N := List.length_drop
  have HLD := Lib.hid hld
  clear hA3 hB3 hC3 hb3 hrd3 HC3 HB3 HA3 HW3 HR3 hW4 hA5 hcv0 hcv1 a0 a4 g3 f3 hld
  go_wp2_with fail
  refine bodyPost_ret (v := .tuple #[.agg #[.int .u8 (k : Int), .int .u64 0, .int .i64 0, .string ⟨(r.take N).toArray⟩, .int .u64 0], .slice A5 (r.length - N) (c2 - N), .bool true]) ?_ rfl ?_
  · simp [results, Tryd.results11, go_sem, s0, s1, s2, s3, s4, Result.andThen]
  · exact ⟨A5, c2 - N, by rw [HLD.out], by rw [HLD.out]; omega, by unfold maxLen; omega, HRD.out, HFN.out⟩
end Go.Proofs.YtbfekonlgbolcabDoor
