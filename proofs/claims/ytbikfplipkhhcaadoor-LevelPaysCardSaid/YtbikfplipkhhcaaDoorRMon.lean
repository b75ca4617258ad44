/-
  The references' Month. Conditions: the numbers' kinds.
-/
import Derived.Test.YtbikfplipkhhcaaDoorYldA
import Derived.Test.YtbikfplipkhhcaaDoorRefS
import Derived.Test.YtbikfplipkhhcaaDoorLvlM
namespace Go.Proofs.YtbikfplipkhhcaaDoor
open Go.RowKit

/-- A rate of the document's. -/
def rr (p : Nat) (th : Bool) : Value := .agg #[.int .u32 (p : Int), .bool th]
set_option maxRecDepth 20000 in
set_option maxHeartbeats 4000000 in
theorem RMonth_any {P p : Nat} (th : Bool) (hP : P ≤ 1000000000000) (hp : p ≤ 1000000) (w : World) :
    Calls Tryd.prog 20 #[rr p th, .int .i64 (P : Int)] w (Ret (.int .i64 ((monthN (P * p) : Nat) : Int)) w) := by
  have hX := pp_le hP hp
  have hS := fun W => RefScale_some P p 12000000 (by omega) (by omega) (by omega) (by omega) W
  obtain ⟨X, hXe⟩ : ∃ X, P * p = X := ⟨_, rfl⟩
  rw [hXe] at hX hS ⊢
  rw [if_pos (show X / 12000000 < 18446744073709551616 by omega)] at hS
  obtain ⟨m1, m2⟩ := month_rest X
  have hb := month_bd X hX
  have i1 : IntKind.u64.wrap (P : Int) = (P : Int) := by rw [IntKind.wrap_u64]; omega
  have i2 : IntKind.u64.wrap (p : Int) = (p : Int) := by rw [IntKind.wrap_u64]; omega
  obtain ⟨q, hq⟩ : ∃ q, X / 12000000 = q := ⟨_, rfl⟩
  obtain ⟨s, hs⟩ : ∃ s, X % 12000000 = s := ⟨_, rfl⟩
  rw [hq, hs] at hS m1 m2
  obtain ⟨m, hm⟩ : ∃ m, monthN X = m := ⟨_, rfl⟩
  rw [hm] at hb m1 m2 ⊢
  have i3 : IntKind.i64.wrap (m : Int) = (m : Int) := by rw [IntKind.wrap_i64]; omega
  unfold rr
  by_cases hl : s < 6000000
  · have j1 : decide ((6000000 : Int) ≤ (s : Int)) = false := decide_eq_false (by omega)
    obtain rfl := m1 hl
    clear hP hp hX hXe m1 m2 hb hq hs hm hl
    go_enter Tryd.func20, Tryd.ntmps20
    have HQ0 := Lib.hid (Blk.new w 36 #[.int .u32 (p : Int), .bool th])
    have HB0 := Lib.hid (b_alloc w (.cells #[.int .u32 (p : Int), .bool th] 36))
    go_wp2_with fail
    refine (hS _).mono ?_
    rintro e w1 ⟨rfl, hb1⟩
    have HQ1_0 := Lib.hid (HQ0.out.below hb1 HQ0.out.lt)
    have HB1 := Lib.hid (HB0.out.trans (hb1.mono HB0.out.size))
    clear hb1
    have c1_0_0 := HQ1_0.out.cell 0
    have c1_0_1 := HQ1_0.out.cell 1
    have z1_0 := HQ1_0.out.lt
    simp at c1_0_0 c1_0_1
    go_wp2_with fail
    go_ret
    exact ⟨by first | rfl | simp, HB1.out⟩
  · have j1 : (6000000 : Int) ≤ (s : Int) := by omega
    have hm2 := m2 hl
    have i4 : (q : Int) + 1 = (m : Int) := by omega
    have i5 : IntKind.u64.wrap (m : Int) = (m : Int) := by rw [IntKind.wrap_u64]; omega
    clear hP hp hX hXe m1 m2 hb hq hs hm hl hm2
    go_enter Tryd.func20, Tryd.ntmps20
    have HQ0 := Lib.hid (Blk.new w 36 #[.int .u32 (p : Int), .bool th])
    have HB0 := Lib.hid (b_alloc w (.cells #[.int .u32 (p : Int), .bool th] 36))
    go_wp2_with fail
    refine (hS _).mono ?_
    rintro e w1 ⟨rfl, hb1⟩
    have HQ1_0 := Lib.hid (HQ0.out.below hb1 HQ0.out.lt)
    have HB1 := Lib.hid (HB0.out.trans (hb1.mono HB0.out.size))
    clear hb1
    have c1_0_0 := HQ1_0.out.cell 0
    have c1_0_1 := HQ1_0.out.cell 1
    have z1_0 := HQ1_0.out.lt
    simp at c1_0_0 c1_0_1
    go_wp2_with fail
    go_ret
    exact ⟨by first | rfl | simp, HB1.out⟩
end Go.Proofs.YtbikfplipkhhcaaDoor
