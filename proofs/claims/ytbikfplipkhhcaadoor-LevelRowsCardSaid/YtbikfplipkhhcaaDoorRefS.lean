/-
  The references' Scale. No condition but the numbers' kinds.
-/
import Derived.Test.YtbikfplipkhhcaaDoorRefP
import Derived.Test.YtbikfplipkhhcaaDoorRefDiv
import Derived.Test.YtbikfplipkhhcaaDoorWideA
namespace Go.Proofs.YtbikfplipkhhcaaDoor
open Go.RowKit

set_option maxHeartbeats 1000000 in
theorem RefScale_zero (a b : Nat) (w : World) :
    Calls Tryd.prog 32 #[.int .u64 a, .int .u64 b, .int .u64 0] w (Ret (.tuple #[.int .u64 0, .int .u64 0, .int .i64 1]) w) := by
  go_enter Tryd.func32, Tryd.ntmps32
  go_wp2_with fail
  go_ret3
  exact ⟨rfl, Below.refl _ _⟩

set_option maxHeartbeats 2000000 in
set_option maxRecDepth 20000 in
theorem RefScale_some (a b c : Nat) (ha : a < 18446744073709551616) (hb : b < 18446744073709551616) (hc0 : 0 < c) (hc : c < 18446744073709551616) (w : World) :
    Calls Tryd.prog 32 #[.int .u64 a, .int .u64 b, .int .u64 c] w
      (Ret (if a * b / c < 18446744073709551616 then .tuple #[.int .u64 ((a * b / c : Nat) : Int), .int .u64 ((a * b % c : Nat) : Int), .int .i64 0] else .tuple #[.int .u64 0, .int .u64 0, .int .i64 12]) w) := by
  have hM := fun W => RefMul_any a b ha hb W
  have hN0 := of_mul a b ha hb
  obtain ⟨N, hNe⟩ : ∃ N, a * b = N := ⟨_, rfl⟩
  rw [hNe] at hM hN0 ⊢
  have hN : N < 340282366920938463463374607431768211456 := by omega
  have hD := fun W => RefDiv_any N c hN hc0 hc W
  have hql : N / c ≤ N := Nat.div_le_self N c
  obtain ⟨q, hq⟩ : ∃ q, N / c = q := ⟨_, rfl⟩
  obtain ⟨s, hs⟩ : ∃ s, N % c = s := ⟨_, rfl⟩
  rw [hq, hs] at hD
  rw [hq] at hql
  rw [hq, hs]
  have hqN : q < 340282366920938463463374607431768211456 := Nat.lt_of_le_of_lt hql hN
  have hT := fun W => Word_any q hqN true W
  have hF := fun W => Word_any q hqN false W
  obtain ⟨x0, x1, x2, x3, x4, x5, x6, x7, ex⟩ := eight (digs 8 N) (digs_length 8 N)
  obtain ⟨y0, y1, y2, y3, y4, y5, y6, y7, ey⟩ := eight (digs 8 q) (digs_length 8 q)
  rw [ex] at hM hD
  rw [ey] at hD hT hF
  simp only [bgv, List.map_cons, List.map_nil, if_true, Bool.false_eq_true, if_false] at hM hD hT hF
  by_cases hlt : q < 18446744073709551616
  · rw [show q / 18446744073709551616 = 0 by omega] at hT
    rw [show q % 18446744073709551616 = q by omega] at hF
    rw [if_pos hlt]
    clear ex ey hNe hN0 hN hql hq hs hqN hlt
    go_enter Tryd.func32, Tryd.ntmps32
    go_wp2_with fail
    refine (hM _).mono ?_
    rintro e w1 ⟨rfl, hb1⟩
    go_wp2_with fail
    refine (hD _).mono ?_
    rintro e w2 ⟨rfl, hb2⟩
    go_wp2_with fail
    refine (hT _).mono ?_
    rintro e w3 ⟨rfl, hb3⟩
    have h2 := (hb1.trans (hb2.mono hb1.size)).alloc (Nat.le_trans hb1.size hb2.size) (.cells #[.int .u32 y0, .int .u32 y1, .int .u32 y2, .int .u32 y3, .int .u32 y4, .int .u32 y5, .int .u32 y6, .int .u32 y7] 103)
    have hb' := h2.trans (hb3.mono h2.size)
    have HK := (Blk.new w2 103 #[.int .u32 y0, .int .u32 y1, .int .u32 y2, .int .u32 y3, .int .u32 y4, .int .u32 y5, .int .u32 y6, .int .u32 y7]).below hb3 (by simp)
    have c0 : w3.cell? ⟨w2.heap.size, 0, none⟩ = some (.int .u32 (y0 : Int)) := HK.cell 0
    have c1 : w3.cell? ⟨w2.heap.size, 1, none⟩ = some (.int .u32 (y1 : Int)) := HK.cell 1
    have c2 : w3.cell? ⟨w2.heap.size, 2, none⟩ = some (.int .u32 (y2 : Int)) := HK.cell 2
    have c3 : w3.cell? ⟨w2.heap.size, 3, none⟩ = some (.int .u32 (y3 : Int)) := HK.cell 3
    have c4 : w3.cell? ⟨w2.heap.size, 4, none⟩ = some (.int .u32 (y4 : Int)) := HK.cell 4
    have c5 : w3.cell? ⟨w2.heap.size, 5, none⟩ = some (.int .u32 (y5 : Int)) := HK.cell 5
    have c6 : w3.cell? ⟨w2.heap.size, 6, none⟩ = some (.int .u32 (y6 : Int)) := HK.cell 6
    have c7 : w3.cell? ⟨w2.heap.size, 7, none⟩ = some (.int .u32 (y7 : Int)) := HK.cell 7
    clear HK h2 hb1 hb2 hb3
    go_wp2_with fail
    refine (hF _).mono ?_
    rintro e w4 ⟨rfl, hb4⟩
    go_wp2_with fail
    go_ret3
    exact ⟨rfl, hb'.trans (hb4.mono hb'.size)⟩
  · rw [if_neg hlt]
    obtain ⟨qh, hqh⟩ : ∃ qh, q / 18446744073709551616 = qh := ⟨_, rfl⟩
    rw [hqh] at hT
    have hq0 : (0 : Int) < (qh : Int) := by omega
    clear ex ey hNe hN0 hN hql hq hs hqN hlt hqh
    go_enter Tryd.func32, Tryd.ntmps32
    go_wp2_with fail
    refine (hM _).mono ?_
    rintro e w1 ⟨rfl, hb1⟩
    go_wp2_with fail
    refine (hD _).mono ?_
    rintro e w2 ⟨rfl, hb2⟩
    go_wp2_with fail
    refine (hT _).mono ?_
    rintro e w3 ⟨rfl, hb3⟩
    go_wp2_with fail
    go_ret3
    have h2 := (hb1.trans (hb2.mono hb1.size)).alloc (Nat.le_trans hb1.size hb2.size) (.cells #[.int .u32 y0, .int .u32 y1, .int .u32 y2, .int .u32 y3, .int .u32 y4, .int .u32 y5, .int .u32 y6, .int .u32 y7] 103)
    exact ⟨rfl, h2.trans (hb3.mono h2.size)⟩
end Go.Proofs.YtbikfplipkhhcaaDoor
