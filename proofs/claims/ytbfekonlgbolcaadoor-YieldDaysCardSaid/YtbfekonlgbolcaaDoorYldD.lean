/-
  yield: Day, Month; the references'. Conditions: the numbers' kinds; the months' lengths are laid.
-/
import Derived.Test.YtbfekonlgbolcaaDoorRefY
import Derived.Test.YtbfekonlgbolcaaDoorRefS
import Derived.Test.YtbfekonlgbolcaaDoorSpanC
namespace Go.Proofs.YtbfekonlgbolcaaDoor
open Go.RowKit

set_option maxRecDepth 20000 in
set_option maxHeartbeats 4000000 in
theorem Day_yes {P p c b D : Nat} {n : Int} (hP : P ≤ 1000000000000) (hr : rateB p b) (h0 : 0 ≤ n) (h1 : n < 3652058) (hc : c < unitN b) (hD : accB b (n + 1) - accB b n = (D : Int)) (hD3 : D ≤ 3) (w : World) (hw : Lens w) :
    Calls Tryd.prog 14 #[rv p b, .int .i64 (P : Int), .int .i32 n, .int .u64 (c : Int)] w (Ret (.tuple #[.int .i64 (((P * p * D + c) / unitN b : Nat) : Int), .int .u64 (((P * p * D + c) % unitN b : Nat) : Int), .nilIface]) w) := by
  have HW := Lib.hid hw
  have hO := fun W (hW : Lens W) => One_ok (b : Int) n (by have := hr.2; omega) h0 h1 W hW
  rw [hD] at hO
  have hDs := fun W => Days_yes (P := P) (d := D) (c := c) hP hr (by omega) hc W
  obtain ⟨q, hq⟩ : ∃ q, (P * p * D + c) / unitN b = q := ⟨_, rfl⟩
  obtain ⟨s, hs⟩ : ∃ s, (P * p * D + c) % unitN b = s := ⟨_, rfl⟩
  rw [hq, hs] at hDs ⊢
  unfold rv at hDs ⊢
  clear hP hr hc hD hD3 hq hs hw h0 h1
  go_enter Tryd.func14, Tryd.ntmps14
  have HQ0 := Lib.hid (Blk.new w 24 #[.int .u32 (p : Int), .int .u8 (b : Int)])
  have HB0 := Lib.hid (b_alloc w (.cells #[.int .u32 (p : Int), .int .u8 (b : Int)] 24))
  go_wp2_with fail
  refine (hO _ (HW.out.below HB0.out)).mono ?_
  rintro e w1 ⟨rfl, hb1⟩
  have HQ1_0 := Lib.hid (HQ0.out.below hb1 HQ0.out.lt)
  have HB1 := Lib.hid (HB0.out.trans (hb1.mono HB0.out.size))
  clear hb1
  have c1_0_0 := HQ1_0.out.cell 0
  have c1_0_1 := HQ1_0.out.cell 1
  have z1_0 := HQ1_0.out.lt
  simp at c1_0_0 c1_0_1
  go_wp2_with fail
  refine (hDs _).mono ?_
  rintro e w2 ⟨rfl, hb2⟩
  have HQ2_0 := Lib.hid (HQ1_0.out.below hb2 HQ1_0.out.lt)
  have HB2 := Lib.hid (HB1.out.trans (hb2.mono HB1.out.size))
  clear hb2 c1_0_0 c1_0_1 z1_0
  have c2_0_0 := HQ2_0.out.cell 0
  have c2_0_1 := HQ2_0.out.cell 1
  have z2_0 := HQ2_0.out.lt
  simp at c2_0_0 c2_0_1
  go_wp2_with fail
  go_ret3
  exact ⟨rfl, HB2.out⟩
set_option maxRecDepth 20000 in
set_option maxHeartbeats 4000000 in
theorem Day_bad {p c b : Nat} {P n : Int} (hb : ¬ (b = 1 ∨ b = 2) ∨ n < 0 ∨ 3652058 ≤ n) (hn : -2147483648 ≤ n ∧ n ≤ 2147483647) (w : World) (hw : Lens w) :
    Calls Tryd.prog 14 #[rv p b, .int .i64 P, .int .i32 n, .int .u64 (c : Int)] w (Ret (.tuple #[.int .i64 0, .int .u64 0, eno 1]) w) := by
  have HW := Lib.hid hw
  have hO := fun W (hW : Lens W) => One_no (b : Int) n (by omega) hn W hW
  unfold rv eno
  clear hb hw hn
  go_enter Tryd.func14, Tryd.ntmps14
  have HQ0 := Lib.hid (Blk.new w 24 #[.int .u32 (p : Int), .int .u8 (b : Int)])
  have HB0 := Lib.hid (b_alloc w (.cells #[.int .u32 (p : Int), .int .u8 (b : Int)] 24))
  go_wp2_with fail
  refine (hO _ (HW.out.below HB0.out)).mono ?_
  rintro e w1 ⟨rfl, hb1⟩
  have HQ1_0 := Lib.hid (HQ0.out.below hb1 HQ0.out.lt)
  have HB1 := Lib.hid (HB0.out.trans (hb1.mono HB0.out.size))
  clear hb1
  have c1_0_0 := HQ1_0.out.cell 0
  have c1_0_1 := HQ1_0.out.cell 1
  have z1_0 := HQ1_0.out.lt
  simp at c1_0_0 c1_0_1
  go_wp2_with fail
  go_ret3
  exact ⟨rfl, HB1.out⟩
set_option maxRecDepth 20000 in
set_option maxHeartbeats 4000000 in
theorem Day_off {p c b D : Nat} {P n : Int} (hb : b = 1 ∨ b = 2) (h0 : 0 ≤ n) (h1 : n < 3652058) (hD : accB b (n + 1) - accB b n = (D : Int)) (h : ¬ okB p b P D c) (w : World) (hw : Lens w) :
    Calls Tryd.prog 14 #[rv p b, .int .i64 P, .int .i32 n, .int .u64 (c : Int)] w (Ret (.tuple #[.int .i64 0, .int .u64 0, eno 1]) w) := by
  have HW := Lib.hid hw
  have hO := fun W (hW : Lens W) => One_ok (b : Int) n (by omega) h0 h1 W hW
  rw [hD] at hO
  have hDs := fun W => Days_no (P := P) (d := D) (c := c) (p := p) (b := b) h W
  unfold eno at hDs ⊢
  unfold rv at hDs ⊢
  clear hb hD h hw h0 h1
  go_enter Tryd.func14, Tryd.ntmps14
  have HQ0 := Lib.hid (Blk.new w 24 #[.int .u32 (p : Int), .int .u8 (b : Int)])
  have HB0 := Lib.hid (b_alloc w (.cells #[.int .u32 (p : Int), .int .u8 (b : Int)] 24))
  go_wp2_with fail
  refine (hO _ (HW.out.below HB0.out)).mono ?_
  rintro e w1 ⟨rfl, hb1⟩
  have HQ1_0 := Lib.hid (HQ0.out.below hb1 HQ0.out.lt)
  have HB1 := Lib.hid (HB0.out.trans (hb1.mono HB0.out.size))
  clear hb1
  have c1_0_0 := HQ1_0.out.cell 0
  have c1_0_1 := HQ1_0.out.cell 1
  have z1_0 := HQ1_0.out.lt
  simp at c1_0_0 c1_0_1
  go_wp2_with fail
  refine (hDs _).mono ?_
  rintro e w2 ⟨rfl, hb2⟩
  have HQ2_0 := Lib.hid (HQ1_0.out.below hb2 HQ1_0.out.lt)
  have HB2 := Lib.hid (HB1.out.trans (hb2.mono HB1.out.size))
  clear hb2 c1_0_0 c1_0_1 z1_0
  have c2_0_0 := HQ2_0.out.cell 0
  have c2_0_1 := HQ2_0.out.cell 1
  have z2_0 := HQ2_0.out.lt
  simp at c2_0_0 c2_0_1
  go_wp2_with fail
  go_ret3
  exact ⟨rfl, HB2.out⟩
theorem one_nat {b : Nat} {n : Int} (h0 : 0 ≤ n) (h1 : n < 3652058) : ∃ D : Nat, accB b (n + 1) - accB b n = (D : Int) ∧ D ≤ 3 := by
  obtain ⟨g0, g1⟩ := accB_step b n h0 h1
  exact ⟨(accB b (n + 1) - accB b n).toNat, by omega, by omega⟩
theorem Day_no {p c b : Nat} {P n : Int} (h : ¬ (okB p b P 0 c ∧ 0 ≤ n ∧ n < 3652058)) (hn : -2147483648 ≤ n ∧ n ≤ 2147483647) (w : World) (hw : Lens w) :
    Calls Tryd.prog 14 #[rv p b, .int .i64 P, .int .i32 n, .int .u64 (c : Int)] w (Ret (.tuple #[.int .i64 0, .int .u64 0, eno 1]) w) := by
  by_cases hb : b = 1 ∨ b = 2
  · by_cases h0 : 0 ≤ n
    · by_cases h1 : n < 3652058
      · obtain ⟨D, hD, hD3⟩ := one_nat (b := b) h0 h1
        refine Day_off hb h0 h1 hD (fun hk => h ⟨?_, h0, h1⟩) w hw
        obtain ⟨a1, a2, a3, -, -, a6⟩ := hk
        exact ⟨a1, a2, a3, by omega, by omega, a6⟩
      · exact Day_bad (Or.inr (Or.inr (by omega))) hn w hw
    · exact Day_bad (Or.inr (Or.inl (by omega))) hn w hw
  · exact Day_bad (Or.inl hb) hn w hw

/-- A month's interest. -/
def monthN (X : Nat) : Nat := (X + 6000000) / 12000000
theorem month_half (X : Nat) : (X * 30 % 360000000 < 360000000 - X * 30 % 360000000 ↔ X % 12000000 < 6000000) ∧ (X % 12000000 < 6000000 → X * 30 / 360000000 = monthN X) ∧ (¬ X % 12000000 < 6000000 → X * 30 / 360000000 + 1 = monthN X) := by
  unfold monthN
  omega
theorem month_rest (X : Nat) : (X % 12000000 < 6000000 → X / 12000000 = monthN X) ∧ (¬ X % 12000000 < 6000000 → X / 12000000 + 1 = monthN X) := by
  unfold monthN
  omega
theorem month_bd (X : Nat) (h : X ≤ 1000000000000000000) : monthN X ≤ 100000000000 := by
  unfold monthN
  omega
set_option maxRecDepth 20000 in
set_option maxHeartbeats 4000000 in
theorem Month_yes {P p b : Nat} (hP : P ≤ 1000000000000) (hr : rateB p b) (w : World) :
    Calls Tryd.prog 15 #[rv p b, .int .i64 (P : Int)] w (Ret (.tuple #[.int .i64 ((monthN (P * p) : Nat) : Int), .nilIface]) w) := by
  have hT := fun W => takes_yes hr (P := (P : Int)) (by omega) (by omega) W
  have hX := pp_le hP hr.1
  obtain ⟨X, hXe⟩ : ∃ X, P * p = X := ⟨_, rfl⟩
  have hDl := fun W => daily_any b hP hr.1 hXe W
  rw [hXe] at hX ⊢
  have hU := fun W => unitOf_any (b := 2) (Or.inr rfl) W
  rw [show unitN 2 = 360000000 from rfl] at hU
  have hb := month_bd X hX
  obtain ⟨m1, m2, m3⟩ := month_half X
  have hRo : ∀ W, Calls Tryd.prog 33 #[.int .u64 (X : Int), .int .u64 30, .int .u64 360000000] W (Ret (.tuple #[.int .u64 ((monthN X : Nat) : Int), .nilIface]) W) := by
    intro W
    by_cases hl : X % 12000000 < 6000000
    · have := Round_down X 30 360000000 (by omega) (by omega) (by omega) (by omega) (by omega) (m1.2 hl) W
      rw [m2 hl] at this
      exact this
    · have := Round_up X 30 360000000 (by omega) (by omega) (by omega) (by omega) (by omega) (fun h => hl (m1.1 h)) W
      rw [m3 hl] at this
      exact this
  obtain ⟨m, hm⟩ : ∃ m, monthN X = m := ⟨_, rfl⟩
  rw [hm] at hRo hb ⊢
  have i1 : IntKind.i64.wrap (m : Int) = (m : Int) := by rw [IntKind.wrap_i64]; omega
  unfold rv at hT hDl ⊢
  clear hP hr hX hXe hb m1 m2 m3 hm
  go_enter Tryd.func15, Tryd.ntmps15
  have HQ0 := Lib.hid (Blk.new w 24 #[.int .u32 (p : Int), .int .u8 (b : Int)])
  have HB0 := Lib.hid (b_alloc w (.cells #[.int .u32 (p : Int), .int .u8 (b : Int)] 24))
  go_wp2_with fail
  refine (hT _).mono ?_
  rintro e w1 ⟨rfl, hb1⟩
  have HQ1_0 := Lib.hid (HQ0.out.below hb1 HQ0.out.lt)
  have HB1 := Lib.hid (HB0.out.trans (hb1.mono HB0.out.size))
  clear hb1
  have c1_0_0 := HQ1_0.out.cell 0
  have c1_0_1 := HQ1_0.out.cell 1
  have z1_0 := HQ1_0.out.lt
  simp at c1_0_0 c1_0_1
  go_wp2_with fail
  refine (hDl _).mono ?_
  rintro e w2 ⟨rfl, hb2⟩
  have HQ2_0 := Lib.hid (HQ1_0.out.below hb2 HQ1_0.out.lt)
  have HB2 := Lib.hid (HB1.out.trans (hb2.mono HB1.out.size))
  clear hb2 c1_0_0 c1_0_1 z1_0
  have c2_0_0 := HQ2_0.out.cell 0
  have c2_0_1 := HQ2_0.out.cell 1
  have z2_0 := HQ2_0.out.lt
  simp at c2_0_0 c2_0_1
  go_wp2_with fail
  refine (hU _).mono ?_
  rintro e w3 ⟨rfl, hb3⟩
  have HQ3_0 := Lib.hid (HQ2_0.out.below hb3 HQ2_0.out.lt)
  have HB3 := Lib.hid (HB2.out.trans (hb3.mono HB2.out.size))
  clear hb3 c2_0_0 c2_0_1 z2_0
  have c3_0_0 := HQ3_0.out.cell 0
  have c3_0_1 := HQ3_0.out.cell 1
  have z3_0 := HQ3_0.out.lt
  simp at c3_0_0 c3_0_1
  go_wp2_with fail
  refine (hRo _).mono ?_
  rintro e w4 ⟨rfl, hb4⟩
  have HQ4_0 := Lib.hid (HQ3_0.out.below hb4 HQ3_0.out.lt)
  have HB4 := Lib.hid (HB3.out.trans (hb4.mono HB3.out.size))
  clear hb4 c3_0_0 c3_0_1 z3_0
  have c4_0_0 := HQ4_0.out.cell 0
  have c4_0_1 := HQ4_0.out.cell 1
  have z4_0 := HQ4_0.out.lt
  simp at c4_0_0 c4_0_1
  go_wp2_with fail
  go_ret2
  exact ⟨rfl, HB4.out⟩
set_option maxRecDepth 20000 in
set_option maxHeartbeats 4000000 in
theorem Month_no {p b : Nat} {P : Int} (h : ¬ (rateB p b ∧ 0 ≤ P ∧ P ≤ 1000000000000)) (w : World) :
    Calls Tryd.prog 15 #[rv p b, .int .i64 P] w (Ret (.tuple #[.int .i64 0, eno 1]) w) := by
  have hT := fun W => takes_no h W
  unfold eno
  unfold rv at hT ⊢
  clear h
  go_enter Tryd.func15, Tryd.ntmps15
  have HQ0 := Lib.hid (Blk.new w 24 #[.int .u32 (p : Int), .int .u8 (b : Int)])
  have HB0 := Lib.hid (b_alloc w (.cells #[.int .u32 (p : Int), .int .u8 (b : Int)] 24))
  go_wp2_with fail
  refine (hT _).mono ?_
  rintro e w1 ⟨rfl, hb1⟩
  have HQ1_0 := Lib.hid (HQ0.out.below hb1 HQ0.out.lt)
  have HB1 := Lib.hid (HB0.out.trans (hb1.mono HB0.out.size))
  clear hb1
  have c1_0_0 := HQ1_0.out.cell 0
  have c1_0_1 := HQ1_0.out.cell 1
  have z1_0 := HQ1_0.out.lt
  simp at c1_0_0 c1_0_1
  go_wp2_with fail
  go_ret2
  exact ⟨rfl, HB1.out⟩
set_option maxRecDepth 20000 in
set_option maxHeartbeats 4000000 in
theorem RMonth_any {P p : Nat} (th : Bool) (hP : P ≤ 1000000000000) (hp : p ≤ 1000000) (w : World) :
    Calls Tryd.prog 16 #[rr p th, .int .i64 (P : Int)] w (Ret (.int .i64 ((monthN (P * p) : Nat) : Int)) w) := by
  have hX := pp_le hP hp
  have hS := fun W => RefScale_some P p 12000000 (by omega) (by omega) (by omega) (by omega) W
  obtain ⟨X, hXe⟩ : ∃ X, P * p = X := ⟨_, rfl⟩
  rw [hXe] at hX hS ⊢
  rw [if_pos (show X / 12000000 < 18446744073709551616 by omega)] at hS
  obtain ⟨m1, m2⟩ := month_rest X
  have hb := month_bd X hX
  have i1 : IntKind.u64.wrap (P : Int) = (P : Int) := by rw [IntKind.wrap_u64]; omega
  have i2 : IntKind.u64.wrap (p : Int) = (p : Int) := by rw [IntKind.wrap_u64]; omega
  obtain ⟨q, hq⟩ : ∃ q, X / 12000000 = q := ⟨_, rfl⟩
  obtain ⟨s, hs⟩ : ∃ s, X % 12000000 = s := ⟨_, rfl⟩
  rw [hq, hs] at hS m1 m2
  obtain ⟨m, hm⟩ : ∃ m, monthN X = m := ⟨_, rfl⟩
  rw [hm] at hb m1 m2 ⊢
  have i3 : IntKind.i64.wrap (m : Int) = (m : Int) := by rw [IntKind.wrap_i64]; omega
  unfold rr
  by_cases hl : s < 6000000
  · have j1 : decide ((6000000 : Int) ≤ (s : Int)) = false := decide_eq_false (by omega)
    obtain rfl := m1 hl
    clear hP hp hX hXe m1 m2 hb hq hs hm hl
    go_enter Tryd.func16, Tryd.ntmps16
    have HQ0 := Lib.hid (Blk.new w 34 #[.int .u32 (p : Int), .bool th])
    have HB0 := Lib.hid (b_alloc w (.cells #[.int .u32 (p : Int), .bool th] 34))
    go_wp2_with fail
    refine (hS _).mono ?_
    rintro e w1 ⟨rfl, hb1⟩
    have HQ1_0 := Lib.hid (HQ0.out.below hb1 HQ0.out.lt)
    have HB1 := Lib.hid (HB0.out.trans (hb1.mono HB0.out.size))
    clear hb1
    have c1_0_0 := HQ1_0.out.cell 0
    have c1_0_1 := HQ1_0.out.cell 1
    have z1_0 := HQ1_0.out.lt
    simp at c1_0_0 c1_0_1
    go_wp2_with fail
    go_ret
    exact ⟨by first | rfl | simp, HB1.out⟩
  · have j1 : (6000000 : Int) ≤ (s : Int) := by omega
    have hm2 := m2 hl
    have i4 : (q : Int) + 1 = (m : Int) := by omega
    have i5 : IntKind.u64.wrap (m : Int) = (m : Int) := by rw [IntKind.wrap_u64]; omega
    clear hP hp hX hXe m1 m2 hb hq hs hm hl hm2
    go_enter Tryd.func16, Tryd.ntmps16
    have HQ0 := Lib.hid (Blk.new w 34 #[.int .u32 (p : Int), .bool th])
    have HB0 := Lib.hid (b_alloc w (.cells #[.int .u32 (p : Int), .bool th] 34))
    go_wp2_with fail
    refine (hS _).mono ?_
    rintro e w1 ⟨rfl, hb1⟩
    have HQ1_0 := Lib.hid (HQ0.out.below hb1 HQ0.out.lt)
    have HB1 := Lib.hid (HB0.out.trans (hb1.mono HB0.out.size))
    clear hb1
    have c1_0_0 := HQ1_0.out.cell 0
    have c1_0_1 := HQ1_0.out.cell 1
    have z1_0 := HQ1_0.out.lt
    simp at c1_0_0 c1_0_1
    go_wp2_with fail
    go_ret
    exact ⟨by first | rfl | simp, HB1.out⟩
set_option maxRecDepth 20000 in
set_option maxHeartbeats 4000000 in
theorem RDay_1 {P p c D : Nat} {n : Int} (hP : P ≤ 1000000000000) (hp : p ≤ 1000000) (h0 : 0 ≤ n) (h1 : n < 3652058) (hc : c < 365000000) (hD : accB 1 (n + 1) - accB 1 n = (D : Int)) (hD3 : D ≤ 3) (w : World) :
    Calls Tryd.prog 17 #[rr p false, .int .i64 (P : Int), .int .i64 n, .int .u64 (c : Int)] w (Ret (.tuple #[.int .i64 (((P * p * D + c) / 365000000 : Nat) : Int), .int .u64 (((P * p * D + c) % 365000000 : Nat) : Int)]) w) := by
  have hO := fun W => ROne_act n W
  rw [hD] at hO
  have hRD := fun W => RDays_any (P := P) (p := p) (d := D) (c := c) (U := 365000000) (th := false) hP hp (by omega) (by omega) (by omega) hc (fun W => RUnit_1 p W) W
  obtain ⟨q, hq⟩ : ∃ q, (P * p * D + c) / 365000000 = q := ⟨_, rfl⟩
  obtain ⟨s, hs⟩ : ∃ s, (P * p * D + c) % 365000000 = s := ⟨_, rfl⟩
  rw [hq, hs] at hRD ⊢
  unfold rr at hRD ⊢
  clear hP hp h0 h1 hc hD hD3 hq hs
  go_enter Tryd.func17, Tryd.ntmps17
  have HQ0 := Lib.hid (Blk.new w 34 #[.int .u32 (p : Int), .bool false])
  have HB0 := Lib.hid (b_alloc w (.cells #[.int .u32 (p : Int), .bool false] 34))
  go_wp2_with fail
  have q1_0_0 := cell_regrown (HQ0.out.cell 0)
  have q1_0_1 := cell_regrown (HQ0.out.cell 1)
  simp at q1_0_0 q1_0_1
  have A1_0 := fun (dd : Nat) (os : Array Obj) => Calls.regrown_of (hO (Go.Sort.grow (redrawn (w.alloc (.cells #[.int .u32 (p : Int), .bool false] 34)) dd) os))
  have A1_1 := fun (dd : Nat) (os : Array Obj) => Calls.regrown_of (hRD (Go.Sort.grow (redrawn (w.alloc (.cells #[.int .u32 (p : Int), .bool false] 34)) dd) os))
  refine wp_region_quiet_below (by kernel_rfl) (by kernel_rfl) ?_
  repeat (go_big_quiet_step (first | (go_at_call 35; exact A1_0 _ _) | (go_at_call 13; exact A1_1 _ _)))
  refine wpQuiet_nil ?_
  intro w1 hw1
  have hb1 : Below (w.alloc (.cells #[.int .u32 (p : Int), .bool false] 34)).heap.size (w.alloc (.cells #[.int .u32 (p : Int), .bool false] 34)) w1 := by
    obtain ⟨p, rfl⟩ := hw1
    exact below_regrown _ _ _
  clear hw1 q1_0_0 q1_0_1 A1_0 A1_1
  have HQ1_0 := Lib.hid (HQ0.out.below hb1 HQ0.out.lt)
  have HB1 := Lib.hid (HB0.out.trans (hb1.mono HB0.out.size))
  clear hb1
  have c1_0_0 := HQ1_0.out.cell 0
  have c1_0_1 := HQ1_0.out.cell 1
  have z1_0 := HQ1_0.out.lt
  simp at c1_0_0 c1_0_1
  go_wp2_with fail
  go_ret2
  exact ⟨rfl, HB1.out⟩
set_option maxRecDepth 20000 in
set_option maxHeartbeats 4000000 in
theorem RDay_2 {P p c D : Nat} {n : Int} (hP : P ≤ 1000000000000) (hp : p ≤ 1000000) (h0 : 0 ≤ n) (h1 : n < 3652058) (hc : c < 360000000) (hD : accB 2 (n + 1) - accB 2 n = (D : Int)) (hD3 : D ≤ 3) (w : World) :
    Calls Tryd.prog 17 #[rr p true, .int .i64 (P : Int), .int .i64 n, .int .u64 (c : Int)] w (Ret (.tuple #[.int .i64 (((P * p * D + c) / 360000000 : Nat) : Int), .int .u64 (((P * p * D + c) % 360000000 : Nat) : Int)]) w) := by
  have hO := fun W => ROne_thi n h0 h1 W
  rw [hD] at hO
  have hRD := fun W => RDays_any (P := P) (p := p) (d := D) (c := c) (U := 360000000) (th := true) hP hp (by omega) (by omega) (by omega) hc (fun W => RUnit_2 p W) W
  obtain ⟨q, hq⟩ : ∃ q, (P * p * D + c) / 360000000 = q := ⟨_, rfl⟩
  obtain ⟨s, hs⟩ : ∃ s, (P * p * D + c) % 360000000 = s := ⟨_, rfl⟩
  rw [hq, hs] at hRD ⊢
  unfold rr at hRD ⊢
  clear hP hp h0 h1 hc hD hD3 hq hs
  go_enter Tryd.func17, Tryd.ntmps17
  have HQ0 := Lib.hid (Blk.new w 34 #[.int .u32 (p : Int), .bool true])
  have HB0 := Lib.hid (b_alloc w (.cells #[.int .u32 (p : Int), .bool true] 34))
  go_wp2_with fail
  have q1_0_0 := cell_regrown (HQ0.out.cell 0)
  have q1_0_1 := cell_regrown (HQ0.out.cell 1)
  simp at q1_0_0 q1_0_1
  have A1_0 := fun (dd : Nat) (os : Array Obj) => Calls.regrown_of (hO (Go.Sort.grow (redrawn (w.alloc (.cells #[.int .u32 (p : Int), .bool true] 34)) dd) os))
  have A1_1 := fun (dd : Nat) (os : Array Obj) => Calls.regrown_of (hRD (Go.Sort.grow (redrawn (w.alloc (.cells #[.int .u32 (p : Int), .bool true] 34)) dd) os))
  refine wp_region_quiet_below (by kernel_rfl) (by kernel_rfl) ?_
  repeat (go_big_quiet_step (first | (go_at_call 35; exact A1_0 _ _) | (go_at_call 13; exact A1_1 _ _)))
  refine wpQuiet_nil ?_
  intro w1 hw1
  have hb1 : Below (w.alloc (.cells #[.int .u32 (p : Int), .bool true] 34)).heap.size (w.alloc (.cells #[.int .u32 (p : Int), .bool true] 34)) w1 := by
    obtain ⟨p, rfl⟩ := hw1
    exact below_regrown _ _ _
  clear hw1 q1_0_0 q1_0_1 A1_0 A1_1
  have HQ1_0 := Lib.hid (HQ0.out.below hb1 HQ0.out.lt)
  have HB1 := Lib.hid (HB0.out.trans (hb1.mono HB0.out.size))
  clear hb1
  have c1_0_0 := HQ1_0.out.cell 0
  have c1_0_1 := HQ1_0.out.cell 1
  have z1_0 := HQ1_0.out.lt
  simp at c1_0_0 c1_0_1
  go_wp2_with fail
  go_ret2
  exact ⟨rfl, HB1.out⟩
end Go.Proofs.YtbfekonlgbolcaaDoor
