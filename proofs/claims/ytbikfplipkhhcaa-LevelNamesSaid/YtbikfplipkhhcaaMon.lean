/-
  yield's Month. Conditions: the numbers' kinds.
-/
import Derived.Test.YtbikfplipkhhcaaYldA
import Derived.Test.YtbikfplipkhhcaaLvlM
namespace Go.Proofs.Ytbikfplipkhhcaa
open Go.RowKit

set_option maxRecDepth 20000 in
set_option maxHeartbeats 4000000 in
theorem Month_yes {P p b : Nat} (hP : P ≤ 1000000000000) (hr : rateB p b) (w : World) :
    Calls Try.prog 15 #[rv p b, .int .i64 (P : Int)] w (Ret (.tuple #[.int .i64 ((monthN (P * p) : Nat) : Int), .nilIface]) w) := by
  have hT := fun W => takes_yes hr (P := (P : Int)) (by omega) (by omega) W
  have hX := pp_le hP hr.1
  obtain ⟨X, hXe⟩ : ∃ X, P * p = X := ⟨_, rfl⟩
  have hDl := fun W => daily_any b hP hr.1 hXe W
  rw [hXe] at hX ⊢
  have hU := fun W => unitOf_any (b := 2) (Or.inr rfl) W
  rw [show unitN 2 = 360000000 from rfl] at hU
  have hb := month_bd X hX
  obtain ⟨m1, m2, m3⟩ := month_half X
  have hRo : ∀ W, Calls Try.prog 22 #[.int .u64 (X : Int), .int .u64 30, .int .u64 360000000] W (Ret (.tuple #[.int .u64 ((monthN X : Nat) : Int), .nilIface]) W) := by
    intro W
    by_cases hl : X % 12000000 < 6000000
    · have := Round_down X 30 360000000 (by omega) (by omega) (by omega) (by omega) (by omega) (m1.2 hl) W
      rw [m2 hl] at this
      exact this
    · have := Round_up X 30 360000000 (by omega) (by omega) (by omega) (by omega) (by omega) (fun h => hl (m1.1 h)) W
      rw [m3 hl] at this
      exact this
  obtain ⟨m, hm⟩ : ∃ m, monthN X = m := ⟨_, rfl⟩
  rw [hm] at hRo hb ⊢
  have i1 : IntKind.i64.wrap (m : Int) = (m : Int) := by rw [IntKind.wrap_i64]; omega
  unfold rv at hT hDl ⊢
  clear hP hr hX hXe hb m1 m2 m3 hm
  go_enter Try.func15, Try.ntmps15
  have HQ0 := Lib.hid (Blk.new w 25 #[.int .u32 (p : Int), .int .u8 (b : Int)])
  have HB0 := Lib.hid (b_alloc w (.cells #[.int .u32 (p : Int), .int .u8 (b : Int)] 25))
  go_wp2_with fail
  refine (hT _).mono ?_
  rintro e w1 ⟨rfl, hb1⟩
  have HQ1_0 := Lib.hid (HQ0.out.below hb1 HQ0.out.lt)
  have HB1 := Lib.hid (HB0.out.trans (hb1.mono HB0.out.size))
  clear hb1
  have c1_0_0 := HQ1_0.out.cell 0
  have c1_0_1 := HQ1_0.out.cell 1
  have z1_0 := HQ1_0.out.lt
  simp at c1_0_0 c1_0_1
  go_wp2_with fail
  refine (hDl _).mono ?_
  rintro e w2 ⟨rfl, hb2⟩
  have HQ2_0 := Lib.hid (HQ1_0.out.below hb2 HQ1_0.out.lt)
  have HB2 := Lib.hid (HB1.out.trans (hb2.mono HB1.out.size))
  clear hb2 c1_0_0 c1_0_1 z1_0
  have c2_0_0 := HQ2_0.out.cell 0
  have c2_0_1 := HQ2_0.out.cell 1
  have z2_0 := HQ2_0.out.lt
  simp at c2_0_0 c2_0_1
  go_wp2_with fail
  refine (hU _).mono ?_
  rintro e w3 ⟨rfl, hb3⟩
  have HQ3_0 := Lib.hid (HQ2_0.out.below hb3 HQ2_0.out.lt)
  have HB3 := Lib.hid (HB2.out.trans (hb3.mono HB2.out.size))
  clear hb3 c2_0_0 c2_0_1 z2_0
  have c3_0_0 := HQ3_0.out.cell 0
  have c3_0_1 := HQ3_0.out.cell 1
  have z3_0 := HQ3_0.out.lt
  simp at c3_0_0 c3_0_1
  go_wp2_with fail
  refine (hRo _).mono ?_
  rintro e w4 ⟨rfl, hb4⟩
  have HQ4_0 := Lib.hid (HQ3_0.out.below hb4 HQ3_0.out.lt)
  have HB4 := Lib.hid (HB3.out.trans (hb4.mono HB3.out.size))
  clear hb4 c3_0_0 c3_0_1 z3_0
  have c4_0_0 := HQ4_0.out.cell 0
  have c4_0_1 := HQ4_0.out.cell 1
  have z4_0 := HQ4_0.out.lt
  simp at c4_0_0 c4_0_1
  go_wp2_with fail
  go_ret2
  exact ⟨rfl, HB4.out⟩
set_option maxRecDepth 20000 in
set_option maxHeartbeats 4000000 in
theorem Month_no {p b : Nat} {P : Int} (h : ¬ (rateB p b ∧ 0 ≤ P ∧ P ≤ 1000000000000)) (w : World) :
    Calls Try.prog 15 #[rv p b, .int .i64 P] w (Ret (.tuple #[.int .i64 0, eno 1]) w) := by
  have hT := fun W => takes_no h W
  unfold eno
  unfold rv at hT ⊢
  clear h
  go_enter Try.func15, Try.ntmps15
  have HQ0 := Lib.hid (Blk.new w 25 #[.int .u32 (p : Int), .int .u8 (b : Int)])
  have HB0 := Lib.hid (b_alloc w (.cells #[.int .u32 (p : Int), .int .u8 (b : Int)] 25))
  go_wp2_with fail
  refine (hT _).mono ?_
  rintro e w1 ⟨rfl, hb1⟩
  have HQ1_0 := Lib.hid (HQ0.out.below hb1 HQ0.out.lt)
  have HB1 := Lib.hid (HB0.out.trans (hb1.mono HB0.out.size))
  clear hb1
  have c1_0_0 := HQ1_0.out.cell 0
  have c1_0_1 := HQ1_0.out.cell 1
  have z1_0 := HQ1_0.out.lt
  simp at c1_0_0 c1_0_1
  go_wp2_with fail
  go_ret2
  exact ⟨rfl, HB1.out⟩
end Go.Proofs.Ytbikfplipkhhcaa
