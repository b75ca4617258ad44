/-
  LevelRows: the walk. Conditions: the numbers' kinds; errors.errorType is laid.
-/
import Derived.Test.YtbikfplipkhhcaaDoorLvlQ
import Derived.Lib.QuietBelow
import Derived.BigQuiet
namespace Go.Proofs.YtbikfplipkhhcaaDoor
open Go.RowKit

theorem effN_true (m y : Nat) : effN true m y = m := rfl
theorem rowF_bd {p y P n k : Nat} (hp : p ≤ 1000000) (hP : P ≤ 1000000000000) (hy : mi p P ≤ y) : 0 ≤ (rowF p y P n k).1 + (rowF p y P n k).2.1 ∧ (rowF p y P n k).1 + (rowF p y P n k).2.1 ≤ 2000000000000 := by
  have hL := mit_le hy k P (Nat.le_refl _)
  have hm := mi_bd (p := p) (Q := mit p y k P) (by omega) hp
  have hs := mst_le hy hL
  unfold rowF
  simp only []
  rw [mit_succ]
  split <;> omega
theorem Rws3.below {w w' : World} {A : Option Addr} {n : Nat} {F : Nat → Int × Int × Int} (h : Rws3 w A n F) (hb : Below w.heap.size w w') : Rws3 w' A n F := by
  obtain ⟨b, e, hlt, hc⟩ := h
  refine ⟨b, e, Nat.lt_of_lt_of_le hlt hb.size, fun k hk => ?_⟩
  obtain ⟨c0, c1, c2⟩ := hc k hk
  exact ⟨(hb.cell (p := ⟨b, _, none⟩) hlt).trans c0, (hb.cell (p := ⟨b, _, none⟩) hlt).trans c1, (hb.cell (p := ⟨b, _, none⟩) hlt).trans c2⟩
set_option maxRecDepth 20000 in
set_option maxHeartbeats 4000000 in
theorem LRows_no {kd p b : Nat} {P n : Int} (h : ¬ lvB p b P n) (w : World) (hg : Laid w) : Calls Tryd.prog 4 #[.int .u8 (kd : Int), .int .i64 P, rv p b, .int .i64 n] w (Ret (.bool true) w) := by
  have HG := Lib.hid hg
  have hL1 := fun W => lr10 p b P n W
  rw [decide_eq_false h] at hL1
  have hR := fun W => Rows_no (kd := kd) (fun e => h e.2) W
  unfold rv eno at *
  clear h hg
  go_enter Tryd.func4, Tryd.ntmps4
  have HQ0 := Lib.hid (Blk.new w 25 #[.int .u32 (p : Int), .int .u8 (b : Int)])
  have HB0 := Lib.hid (b_alloc w (.cells #[.int .u32 (p : Int), .int .u8 (b : Int)] 25))
  go_wp2_with fail
  refine (awake10 _).mono ?_
  rintro e w1 ⟨rfl, hb1⟩
  have HQ1_0 := Lib.hid (HQ0.out.below hb1 HQ0.out.lt)
  have HB1 := Lib.hid (HB0.out.trans (hb1.mono HB0.out.size))
  clear hb1
  have c1_0_0 := HQ1_0.out.cell 0
  have c1_0_1 := HQ1_0.out.cell 1
  have z1_0 := HQ1_0.out.lt
  try simp at c1_0_0 c1_0_1
  go_wp2_with fail
  refine (hR _).mono ?_
  rintro e w2 ⟨rfl, hb2⟩
  have HQ2_0 := Lib.hid (HQ1_0.out.below hb2 HQ1_0.out.lt)
  have HB2 := Lib.hid (HB1.out.trans (hb2.mono HB1.out.size))
  clear hb2 c1_0_0 c1_0_1 z1_0
  have c2_0_0 := HQ2_0.out.cell 0
  have c2_0_1 := HQ2_0.out.cell 1
  have z2_0 := HQ2_0.out.lt
  try simp at c2_0_0 c2_0_1
  go_wp2_with fail
  refine (hL1 _).mono ?_
  rintro e w3 ⟨rfl, hb3⟩
  have HQ3_0 := Lib.hid (HQ2_0.out.below hb3 HQ2_0.out.lt)
  have HB3 := Lib.hid (HB2.out.trans (hb3.mono HB2.out.size))
  clear hb3 c2_0_0 c2_0_1 z2_0
  have c3_0_0 := HQ3_0.out.cell 0
  have c3_0_1 := HQ3_0.out.cell 1
  have z3_0 := HQ3_0.out.lt
  try simp at c3_0_0 c3_0_1
  go_wp2_with fail
  refine (Code_errno 1 _ (HG.out.below HB3.out)).mono ?_
  rintro e w4 ⟨rfl, hb4⟩
  have HQ4_0 := Lib.hid (HQ3_0.out.below hb4 HQ3_0.out.lt)
  have HB4 := Lib.hid (HB3.out.trans (hb4.mono HB3.out.size))
  clear hb4 c3_0_0 c3_0_1 z3_0
  have c4_0_0 := HQ4_0.out.cell 0
  have c4_0_1 := HQ4_0.out.cell 1
  have z4_0 := HQ4_0.out.lt
  try simp at c4_0_0 c4_0_1
  go_wp2_with fail
  go_ret
  exact ⟨by first | rfl | simp, HB4.out⟩
set_option maxRecDepth 20000 in
set_option maxHeartbeats 4000000 in
theorem LRows_kd {kd p b : Nat} {P n : Int} (h : lvB p b P n) (h1 : ¬ (kd = 1 ∨ kd = 2)) (w : World) (hg : Laid w) : Calls Tryd.prog 4 #[.int .u8 (kd : Int), .int .i64 P, rv p b, .int .i64 n] w (Ret (.bool true) w) := by
  have HG := Lib.hid hg
  have hL1 := fun W => lr10 p b P n W
  rw [decide_eq_true h] at hL1
  have hR := fun W => Rows_no (kd := kd) (p := p) (b := b) (P := P) (n := n) (fun e => h1 e.1) W
  have n1 : ((kd : Int) != 1) = true := by simp; omega
  have n2 : ((kd : Int) != 2) = true := by simp; omega
  have j1 : ((kd : Int) == 1) = false := by rw [beq_eq_false_iff_ne]; omega
  have j2 : ((kd : Int) == 2) = false := by rw [beq_eq_false_iff_ne]; omega
  unfold rv eno at *
  clear h h1 hg
  go_enter Tryd.func4, Tryd.ntmps4
  have HQ0 := Lib.hid (Blk.new w 25 #[.int .u32 (p : Int), .int .u8 (b : Int)])
  have HB0 := Lib.hid (b_alloc w (.cells #[.int .u32 (p : Int), .int .u8 (b : Int)] 25))
  go_wp2_with fail
  refine (awake10 _).mono ?_
  rintro e w1 ⟨rfl, hb1⟩
  have HQ1_0 := Lib.hid (HQ0.out.below hb1 HQ0.out.lt)
  have HB1 := Lib.hid (HB0.out.trans (hb1.mono HB0.out.size))
  clear hb1
  have c1_0_0 := HQ1_0.out.cell 0
  have c1_0_1 := HQ1_0.out.cell 1
  have z1_0 := HQ1_0.out.lt
  try simp at c1_0_0 c1_0_1
  go_wp2_with fail
  refine (hR _).mono ?_
  rintro e w2 ⟨rfl, hb2⟩
  have HQ2_0 := Lib.hid (HQ1_0.out.below hb2 HQ1_0.out.lt)
  have HB2 := Lib.hid (HB1.out.trans (hb2.mono HB1.out.size))
  clear hb2 c1_0_0 c1_0_1 z1_0
  have c2_0_0 := HQ2_0.out.cell 0
  have c2_0_1 := HQ2_0.out.cell 1
  have z2_0 := HQ2_0.out.lt
  try simp at c2_0_0 c2_0_1
  go_wp2_with fail
  refine (hL1 _).mono ?_
  rintro e w3 ⟨rfl, hb3⟩
  have HQ3_0 := Lib.hid (HQ2_0.out.below hb3 HQ2_0.out.lt)
  have HB3 := Lib.hid (HB2.out.trans (hb3.mono HB2.out.size))
  clear hb3 c2_0_0 c2_0_1 z2_0
  have c3_0_0 := HQ3_0.out.cell 0
  have c3_0_1 := HQ3_0.out.cell 1
  have z3_0 := HQ3_0.out.lt
  try simp at c3_0_0 c3_0_1
  go_wp2_with fail
  refine (Code_errno 1 _ (HG.out.below HB3.out)).mono ?_
  rintro e w4 ⟨rfl, hb4⟩
  have HQ4_0 := Lib.hid (HQ3_0.out.below hb4 HQ3_0.out.lt)
  have HB4 := Lib.hid (HB3.out.trans (hb4.mono HB3.out.size))
  clear hb4 c3_0_0 c3_0_1 z3_0
  have c4_0_0 := HQ4_0.out.cell 0
  have c4_0_1 := HQ4_0.out.cell 1
  have z4_0 := HQ4_0.out.lt
  try simp at c4_0_0 c4_0_1
  go_wp2_with fail
  go_ret
  exact ⟨by first | rfl | simp, HB4.out⟩
set_option maxRecDepth 20000 in
set_option maxHeartbeats 4000000 in
theorem LRows_yes1 {p b P n : Nat} (hr : rateB p b) (hP0 : 1 ≤ P) (hP : P ≤ 1000000000000) (hn0 : 1 ≤ n) (hn : n ≤ 480) (w : World) : Calls Tryd.prog 4 #[.int .u8 1, .int .i64 (P : Int), rv p b, .int .i64 (n : Int)] w (Ret (.bool true) w) := by
  have hL1 := fun W => lr10 p b P n W
  rw [decide_eq_true (show lvB p b P n from ⟨hr, by omega, by omega, by omega, by omega⟩)] at hL1
  obtain ⟨y, hy⟩ := lst_any (p := p) (n := n) (P := P) hn0
  have hmy : mi p P ≤ y := Nat.le_of_lt (hy.gt hP0)
  have hyb : y ≤ 2000000000000 := by
    have h1 := hy.high hn0
    have h2 := prt_bd hn0 hP0
    have h3 := mi_bd hP hr.1
    omega
  have hmb := mi_bd hP hr.1
  skip
  have hR := fun W => Rows_yes (kd := 1) (y := y) hr hP hn0 hn (by omega) (by omega) (fun W => Usual_level hr hP0 hP hn0 hn hy W) W
  replace hR : ∀ W, Calls Tryd.prog 11 #[.int .u8 1, .int .i64 (P : Int), rv p b, .int .i64 (n : Int)] W (RowsPost p y P n W) := hR
  have hPy := fun W => Payment_yes hr hP0 hP hn0 hn hy W
  have hO := fun W => own10_any (p := p) hr.2 W
  obtain ⟨th, hth⟩ : ∃ th, decide (b = 2) = th := ⟨_, rfl⟩
  rw [hth] at hO
  have hQ := fun W => RRows_any (n := n) (y := y) th false hP hr.1 hn hn0 hmy hyb W
  rw [show effN false (mi p P) y = y from rfl] at hQ
  have HBD : Hid (∀ k, 0 ≤ (rowF p y P n k).1 + (rowF p y P n k).2.1 ∧ (rowF p y P n k).1 + (rowF p y P n k).2.1 ≤ 2000000000000) := Lib.hid (fun k => rowF_bd hr.1 hP (by omega))
  unfold RowsPost at hR
  obtain ⟨F, hF⟩ : ∃ F, rowF p y P n = F := ⟨_, rfl⟩
  rw [hF] at hR hQ HBD
  unfold rv rr at *
  clear hr hP0 hP hy hmy hyb hth hF hmb
  go_enter Tryd.func4, Tryd.ntmps4
  have HQ0 := Lib.hid (Blk.new w 25 #[.int .u32 (p : Int), .int .u8 (b : Int)])
  have HB0 := Lib.hid (b_alloc w (.cells #[.int .u32 (p : Int), .int .u8 (b : Int)] 25))
  go_wp2_with fail
  refine (awake10 _).mono ?_
  rintro e w1 ⟨rfl, hb1⟩
  have HQ1_0 := Lib.hid (HQ0.out.below hb1 HQ0.out.lt)
  have HB1 := Lib.hid (HB0.out.trans (hb1.mono HB0.out.size))
  clear hb1
  have c1_0_0 := HQ1_0.out.cell 0
  have c1_0_1 := HQ1_0.out.cell 1
  have z1_0 := HQ1_0.out.lt
  try simp at c1_0_0 c1_0_1
  go_wp2_with fail
  refine (hR _).mono ?_
  rintro e w2 ⟨g, rfl, hg, hb2, hk2⟩
  have HQ2_0 := Lib.hid (HQ1_0.out.below hb2 HQ1_0.out.lt)
  have HB2 := Lib.hid (HB1.out.trans (hb2.mono HB1.out.size))
  have HK2 := Lib.hid hk2
  clear hb2 c1_0_0 c1_0_1 z1_0 hk2 hR hg
  have c2_0_0 := HQ2_0.out.cell 0
  have c2_0_1 := HQ2_0.out.cell 1
  have z2_0 := HQ2_0.out.lt
  simp at c2_0_0 c2_0_1
  go_wp2_with fail
  refine (hL1 _).mono ?_
  rintro e w3 ⟨rfl, hb3⟩
  have HQ3_0 := Lib.hid (HQ2_0.out.below hb3 HQ2_0.out.lt)
  have HQ3_1 := Lib.hid (HK2.out.below hb3 HK2.out.lt)
  have HB3 := Lib.hid (HB2.out.trans (hb3.mono HB2.out.size))
  clear hb3 c2_0_0 c2_0_1 z2_0
  have c3_0_0 := HQ3_0.out.cell 0
  have c3_0_1 := HQ3_0.out.cell 1
  have z3_0 := HQ3_0.out.lt
  have z3_1 := HQ3_1.out.lt
  try simp at c3_0_0 c3_0_1
  go_wp2_with fail
  refine (hPy _).mono ?_
  rintro e w4 ⟨rfl, hb4⟩
  have HQ4_0 := Lib.hid (HQ3_0.out.below hb4 HQ3_0.out.lt)
  have HQ4_1 := Lib.hid (HQ3_1.out.below hb4 HQ3_1.out.lt)
  have HB4 := Lib.hid (HB3.out.trans (hb4.mono HB3.out.size))
  clear hb4 c3_0_0 c3_0_1 z3_0 z3_1
  have c4_0_0 := HQ4_0.out.cell 0
  have c4_0_1 := HQ4_0.out.cell 1
  have z4_0 := HQ4_0.out.lt
  have z4_1 := HQ4_1.out.lt
  try simp at c4_0_0 c4_0_1
  go_wp2_with fail
  refine (hO _).mono ?_
  rintro e w5 ⟨rfl, hb5⟩
  have HQ5_0 := Lib.hid (HQ4_0.out.below hb5 HQ4_0.out.lt)
  have HQ5_1 := Lib.hid (HQ4_1.out.below hb5 HQ4_1.out.lt)
  have HB5 := Lib.hid (HB4.out.trans (hb5.mono HB4.out.size))
  clear hb5 c4_0_0 c4_0_1 z4_0 z4_1
  have c5_0_0 := HQ5_0.out.cell 0
  have c5_0_1 := HQ5_0.out.cell 1
  have z5_0 := HQ5_0.out.lt
  have z5_1 := HQ5_1.out.lt
  try simp at c5_0_0 c5_0_1
  go_wp2_with fail
  refine (hQ _).mono ?_
  rintro e w6 ⟨q, c, rfl, hc1, hc2, hb6, hw6⟩
  have HG6 := Lib.hid (HQ5_1.out.below hb6 HQ5_1.out.lt)
  have HW6 := Lib.hid hw6
  have HB6 := Lib.hid (HB5.out.trans (hb6.mono HB5.out.size))
  clear hb6 hw6 hQ c5_0_0 c5_0_1 z5_0 z5_1
  go_wp2_with fail
  go_loopw [72] (fun i wr => ∃ (k : Nat), k ≤ n ∧ i = .int .i64 k ∧ Hid (Blk wr g 44 (rowsA F n)) ∧ Hid (Rws3 wr (some ⟨q, 0, none⟩) n F) ∧ Hid (Below w.heap.size w wr)) (fun i _ => n - (intOf i).toNat)
  case atStart => exact ⟨0, Nat.zero_le _, rfl, HG6, HW6, HB6⟩
  case round =>
    obtain ⟨k, hk, rfl, HGk, HWk, HBk⟩ := hrel
    by_cases hlt : k < n
    · obtain ⟨g0, g1, g2⟩ := rowsA_at F hlt
      obtain ⟨b0, b1⟩ := HBD.out k
      obtain ⟨bq, eq_, hbq, hcq⟩ := HWk.out
      cases eq_
      obtain ⟨x0, x1, x2⟩ := hcq k hlt
      obtain ⟨a, ha⟩ : ∃ a, (F k).1 = a := ⟨_, rfl⟩
      obtain ⟨v, hv⟩ : ∃ v, (F k).2.1 = v := ⟨_, rfl⟩
      obtain ⟨z, hz⟩ : ∃ z, (F k).2.2 = z := ⟨_, rfl⟩
      obtain ⟨s, hs⟩ : ∃ s, a + v = s := ⟨_, rfl⟩
      rw [ha, hv, hs] at b0 b1
      rw [ha] at g0 x0; rw [hv] at g1 x1; rw [hz] at g2 x2
      have hP := fun W => Pay_any (l := z) hs (by omega) (by omega) W
      have w1c : IntKind.i64.wrap (a + v) = s := by rw [hs, IntKind.wrap_i64]; omega
      have w2c : IntKind.i64.wrap s = s := by rw [IntKind.wrap_i64]; omega
      have d0 := (HGk.out.cell (k * 3)).trans g0
      have d1 := (HGk.out.cell (k * 3 + 1)).trans g1
      have d2 := (HGk.out.cell (k * 3 + 2)).trans g2
      have z0 := HGk.out.lt
      have HA := Lib.hid (Blk.new wr 44 #[.int .i64 a, .int .i64 v, .int .i64 z])
      have HG1 := Lib.hid (HGk.out.alloc (.cells #[.int .i64 a, .int .i64 v, .int .i64 z] 44))
      have HW1 := Lib.hid (HWk.out.below (b_alloc wr (.cells #[.int .i64 a, .int .i64 v, .int .i64 z] 44)))
      have HB1_ := Lib.hid (HBk.out.alloc HBk.out.size (.cells #[.int .i64 a, .int .i64 v, .int .i64 z] 44))
      have X0 := Lib.hid ((World.cell?_alloc_lt wr (.cells #[.int .i64 a, .int .i64 v, .int .i64 z] 44) ⟨q, k * 3, none⟩ hbq).trans x0)
      have X1 := Lib.hid ((World.cell?_alloc_lt wr (.cells #[.int .i64 a, .int .i64 v, .int .i64 z] 44) ⟨q, k * 3 + 1, none⟩ hbq).trans x1)
      have X2 := Lib.hid ((World.cell?_alloc_lt wr (.cells #[.int .i64 a, .int .i64 v, .int .i64 z] 44) ⟨q, k * 3 + 2, none⟩ hbq).trans x2)
      unfold rowV at hP
      clear g0 g1 g2 x0 x1 x2 b0 b1 ha hv hz hbq hcq
      clear HBD HGk HWk HBk
      go_wp2_with fail
      clear d0 d1 d2 z0
      have y0 := cell_regrown X0.out
      have y1 := cell_regrown X1.out
      have y2 := cell_regrown X2.out
      have q11_0_0 := cell_regrown (HA.out.cell 0)
      have q11_0_1 := cell_regrown (HA.out.cell 1)
      have q11_0_2 := cell_regrown (HA.out.cell 2)
      simp at q11_0_0 q11_0_1 q11_0_2
      have A11_0 := fun (dd : Nat) (os : Array Obj) => Calls.regrown_of (hP (Go.Sort.grow (redrawn (wr.alloc (.cells #[.int .i64 a, .int .i64 v, .int .i64 z] 44)) dd) os))
      refine wp_region_quiet_below (by kernel_rfl) (by kernel_rfl) ?_
      repeat (go_big_quiet_step (first | (go_at_call 13; exact A11_0 _ _)))
      refine wpQuiet_nil ?_
      intro w11 hw11
      have hb11 : Below (wr.alloc (.cells #[.int .i64 a, .int .i64 v, .int .i64 z] 44)).heap.size (wr.alloc (.cells #[.int .i64 a, .int .i64 v, .int .i64 z] 44)) w11 := by
        obtain ⟨p, rfl⟩ := hw11
        exact below_regrown _ _ _
      clear hw11 q11_0_0 q11_0_1 q11_0_2 A11_0
      have HQ11_0 := Lib.hid (HA.out.below hb11 HA.out.lt)
      have HQ11_1 := Lib.hid (HG1.out.below hb11 HG1.out.lt)
      have HW11 := Lib.hid (HW1.out.below hb11)
      have HB11 := Lib.hid (HB1_.out.trans (hb11.mono HB1_.out.size))
      clear hb11
      have c11_0_0 := HQ11_0.out.cell 0
      have c11_0_1 := HQ11_0.out.cell 1
      have c11_0_2 := HQ11_0.out.cell 2
      have z11_0 := HQ11_0.out.lt
      have z11_1 := HQ11_1.out.lt
      try simp at c11_0_0 c11_0_1 c11_0_2
      clear y0 y1 y2 X0 X1 X2
      go_wp2_with fail
      go_roundw
      case rel => exact ⟨k + 1, by omega, by go_num, HQ11_1, HW11, HB11⟩
      case measure => simp [intOf]; omega
    · have hkn : k = n := by omega
      subst hkn
      go_wp2_with fail
      go_ret
      exact ⟨by first | rfl | simp, HBk.out⟩
set_option maxRecDepth 20000 in
set_option maxHeartbeats 4000000 in
theorem LRows_yes2 {p b P n : Nat} (hr : rateB p b) (hP0 : 1 ≤ P) (hP : P ≤ 1000000000000) (hn0 : 1 ≤ n) (hn : n ≤ 480) (w : World) : Calls Tryd.prog 4 #[.int .u8 2, .int .i64 (P : Int), rv p b, .int .i64 (n : Int)] w (Ret (.bool true) w) := by
  have hL1 := fun W => lr10 p b P n W
  rw [decide_eq_true (show lvB p b P n from ⟨hr, by omega, by omega, by omega, by omega⟩)] at hL1
  obtain ⟨y, hy⟩ := lst_any (p := p) (n := n) (P := P) hn0
  have hmy : mi p P ≤ y := Nat.le_of_lt (hy.gt hP0)
  have hyb : y ≤ 2000000000000 := by
    have h1 := hy.high hn0
    have h2 := prt_bd hn0 hP0
    have h3 := mi_bd hP hr.1
    omega
  have hmb := mi_bd hP hr.1
  obtain ⟨m, hm⟩ : ∃ m, mi p P = m := ⟨_, rfl⟩
  have hU : ∀ W, Calls Tryd.prog 21 #[.int .u8 2, .int .i64 (P : Int), rv p b, .int .i64 (n : Int)] W (Ret (.tuple #[.int .i64 (m : Int), .nilIface]) W) := fun W => by rw [← hm]; exact Usual_only hr hP0 hP hn0 hn W
  have hR := fun W => Rows_yes (kd := 2) (y := m) hr hP hn0 hn (by omega) (by omega) (fun W => hU W) W
  replace hR : ∀ W, Calls Tryd.prog 11 #[.int .u8 2, .int .i64 (P : Int), rv p b, .int .i64 (n : Int)] W (RowsPost p m P n W) := hR
  have hPy := fun W => Payment_yes hr hP0 hP hn0 hn hy W
  have hO := fun W => own10_any (p := p) hr.2 W
  obtain ⟨th, hth⟩ : ∃ th, decide (b = 2) = th := ⟨_, rfl⟩
  rw [hth] at hO
  have hQ := fun W => RRows_any (n := n) (y := y) th true hP hr.1 hn hn0 hmy hyb W
  rw [show effN true (mi p P) y = m from (effN_true _ _).trans hm] at hQ
  have HBD : Hid (∀ k, 0 ≤ (rowF p m P n k).1 + (rowF p m P n k).2.1 ∧ (rowF p m P n k).1 + (rowF p m P n k).2.1 ≤ 2000000000000) := Lib.hid (fun k => rowF_bd hr.1 hP (by omega))
  unfold RowsPost at hR
  obtain ⟨F, hF⟩ : ∃ F, rowF p m P n = F := ⟨_, rfl⟩
  rw [hF] at hR hQ HBD
  unfold rv rr at *
  clear hr hP0 hP hy hmy hyb hth hF hmb hm hU
  go_enter Tryd.func4, Tryd.ntmps4
  have HQ0 := Lib.hid (Blk.new w 25 #[.int .u32 (p : Int), .int .u8 (b : Int)])
  have HB0 := Lib.hid (b_alloc w (.cells #[.int .u32 (p : Int), .int .u8 (b : Int)] 25))
  go_wp2_with fail
  refine (awake10 _).mono ?_
  rintro e w1 ⟨rfl, hb1⟩
  have HQ1_0 := Lib.hid (HQ0.out.below hb1 HQ0.out.lt)
  have HB1 := Lib.hid (HB0.out.trans (hb1.mono HB0.out.size))
  clear hb1
  have c1_0_0 := HQ1_0.out.cell 0
  have c1_0_1 := HQ1_0.out.cell 1
  have z1_0 := HQ1_0.out.lt
  try simp at c1_0_0 c1_0_1
  go_wp2_with fail
  refine (hR _).mono ?_
  rintro e w2 ⟨g, rfl, hg, hb2, hk2⟩
  have HQ2_0 := Lib.hid (HQ1_0.out.below hb2 HQ1_0.out.lt)
  have HB2 := Lib.hid (HB1.out.trans (hb2.mono HB1.out.size))
  have HK2 := Lib.hid hk2
  clear hb2 c1_0_0 c1_0_1 z1_0 hk2 hR hg
  have c2_0_0 := HQ2_0.out.cell 0
  have c2_0_1 := HQ2_0.out.cell 1
  have z2_0 := HQ2_0.out.lt
  simp at c2_0_0 c2_0_1
  go_wp2_with fail
  refine (hL1 _).mono ?_
  rintro e w3 ⟨rfl, hb3⟩
  have HQ3_0 := Lib.hid (HQ2_0.out.below hb3 HQ2_0.out.lt)
  have HQ3_1 := Lib.hid (HK2.out.below hb3 HK2.out.lt)
  have HB3 := Lib.hid (HB2.out.trans (hb3.mono HB2.out.size))
  clear hb3 c2_0_0 c2_0_1 z2_0
  have c3_0_0 := HQ3_0.out.cell 0
  have c3_0_1 := HQ3_0.out.cell 1
  have z3_0 := HQ3_0.out.lt
  have z3_1 := HQ3_1.out.lt
  try simp at c3_0_0 c3_0_1
  go_wp2_with fail
  refine (hPy _).mono ?_
  rintro e w4 ⟨rfl, hb4⟩
  have HQ4_0 := Lib.hid (HQ3_0.out.below hb4 HQ3_0.out.lt)
  have HQ4_1 := Lib.hid (HQ3_1.out.below hb4 HQ3_1.out.lt)
  have HB4 := Lib.hid (HB3.out.trans (hb4.mono HB3.out.size))
  clear hb4 c3_0_0 c3_0_1 z3_0 z3_1
  have c4_0_0 := HQ4_0.out.cell 0
  have c4_0_1 := HQ4_0.out.cell 1
  have z4_0 := HQ4_0.out.lt
  have z4_1 := HQ4_1.out.lt
  try simp at c4_0_0 c4_0_1
  go_wp2_with fail
  refine (hO _).mono ?_
  rintro e w5 ⟨rfl, hb5⟩
  have HQ5_0 := Lib.hid (HQ4_0.out.below hb5 HQ4_0.out.lt)
  have HQ5_1 := Lib.hid (HQ4_1.out.below hb5 HQ4_1.out.lt)
  have HB5 := Lib.hid (HB4.out.trans (hb5.mono HB4.out.size))
  clear hb5 c4_0_0 c4_0_1 z4_0 z4_1
  have c5_0_0 := HQ5_0.out.cell 0
  have c5_0_1 := HQ5_0.out.cell 1
  have z5_0 := HQ5_0.out.lt
  have z5_1 := HQ5_1.out.lt
  try simp at c5_0_0 c5_0_1
  go_wp2_with fail
  refine (hQ _).mono ?_
  rintro e w6 ⟨q, c, rfl, hc1, hc2, hb6, hw6⟩
  have HG6 := Lib.hid (HQ5_1.out.below hb6 HQ5_1.out.lt)
  have HW6 := Lib.hid hw6
  have HB6 := Lib.hid (HB5.out.trans (hb6.mono HB5.out.size))
  clear hb6 hw6 hQ c5_0_0 c5_0_1 z5_0 z5_1
  go_wp2_with fail
  go_loopw [72] (fun i wr => ∃ (k : Nat), k ≤ n ∧ i = .int .i64 k ∧ Hid (Blk wr g 44 (rowsA F n)) ∧ Hid (Rws3 wr (some ⟨q, 0, none⟩) n F) ∧ Hid (Below w.heap.size w wr)) (fun i _ => n - (intOf i).toNat)
  case atStart => exact ⟨0, Nat.zero_le _, rfl, HG6, HW6, HB6⟩
  case round =>
    obtain ⟨k, hk, rfl, HGk, HWk, HBk⟩ := hrel
    by_cases hlt : k < n
    · obtain ⟨g0, g1, g2⟩ := rowsA_at F hlt
      obtain ⟨b0, b1⟩ := HBD.out k
      obtain ⟨bq, eq_, hbq, hcq⟩ := HWk.out
      cases eq_
      obtain ⟨x0, x1, x2⟩ := hcq k hlt
      obtain ⟨a, ha⟩ : ∃ a, (F k).1 = a := ⟨_, rfl⟩
      obtain ⟨v, hv⟩ : ∃ v, (F k).2.1 = v := ⟨_, rfl⟩
      obtain ⟨z, hz⟩ : ∃ z, (F k).2.2 = z := ⟨_, rfl⟩
      obtain ⟨s, hs⟩ : ∃ s, a + v = s := ⟨_, rfl⟩
      rw [ha, hv, hs] at b0 b1
      rw [ha] at g0 x0; rw [hv] at g1 x1; rw [hz] at g2 x2
      have hP := fun W => Pay_any (l := z) hs (by omega) (by omega) W
      have w1c : IntKind.i64.wrap (a + v) = s := by rw [hs, IntKind.wrap_i64]; omega
      have w2c : IntKind.i64.wrap s = s := by rw [IntKind.wrap_i64]; omega
      have d0 := (HGk.out.cell (k * 3)).trans g0
      have d1 := (HGk.out.cell (k * 3 + 1)).trans g1
      have d2 := (HGk.out.cell (k * 3 + 2)).trans g2
      have z0 := HGk.out.lt
      have HA := Lib.hid (Blk.new wr 44 #[.int .i64 a, .int .i64 v, .int .i64 z])
      have HG1 := Lib.hid (HGk.out.alloc (.cells #[.int .i64 a, .int .i64 v, .int .i64 z] 44))
      have HW1 := Lib.hid (HWk.out.below (b_alloc wr (.cells #[.int .i64 a, .int .i64 v, .int .i64 z] 44)))
      have HB1_ := Lib.hid (HBk.out.alloc HBk.out.size (.cells #[.int .i64 a, .int .i64 v, .int .i64 z] 44))
      have X0 := Lib.hid ((World.cell?_alloc_lt wr (.cells #[.int .i64 a, .int .i64 v, .int .i64 z] 44) ⟨q, k * 3, none⟩ hbq).trans x0)
      have X1 := Lib.hid ((World.cell?_alloc_lt wr (.cells #[.int .i64 a, .int .i64 v, .int .i64 z] 44) ⟨q, k * 3 + 1, none⟩ hbq).trans x1)
      have X2 := Lib.hid ((World.cell?_alloc_lt wr (.cells #[.int .i64 a, .int .i64 v, .int .i64 z] 44) ⟨q, k * 3 + 2, none⟩ hbq).trans x2)
      unfold rowV at hP
      clear g0 g1 g2 x0 x1 x2 b0 b1 ha hv hz hbq hcq
      clear HBD HGk HWk HBk
      go_wp2_with fail
      clear d0 d1 d2 z0
      have y0 := cell_regrown X0.out
      have y1 := cell_regrown X1.out
      have y2 := cell_regrown X2.out
      have q11_0_0 := cell_regrown (HA.out.cell 0)
      have q11_0_1 := cell_regrown (HA.out.cell 1)
      have q11_0_2 := cell_regrown (HA.out.cell 2)
      simp at q11_0_0 q11_0_1 q11_0_2
      have A11_0 := fun (dd : Nat) (os : Array Obj) => Calls.regrown_of (hP (Go.Sort.grow (redrawn (wr.alloc (.cells #[.int .i64 a, .int .i64 v, .int .i64 z] 44)) dd) os))
      refine wp_region_quiet_below (by kernel_rfl) (by kernel_rfl) ?_
      repeat (go_big_quiet_step (first | (go_at_call 13; exact A11_0 _ _)))
      refine wpQuiet_nil ?_
      intro w11 hw11
      have hb11 : Below (wr.alloc (.cells #[.int .i64 a, .int .i64 v, .int .i64 z] 44)).heap.size (wr.alloc (.cells #[.int .i64 a, .int .i64 v, .int .i64 z] 44)) w11 := by
        obtain ⟨p, rfl⟩ := hw11
        exact below_regrown _ _ _
      clear hw11 q11_0_0 q11_0_1 q11_0_2 A11_0
      have HQ11_0 := Lib.hid (HA.out.below hb11 HA.out.lt)
      have HQ11_1 := Lib.hid (HG1.out.below hb11 HG1.out.lt)
      have HW11 := Lib.hid (HW1.out.below hb11)
      have HB11 := Lib.hid (HB1_.out.trans (hb11.mono HB1_.out.size))
      clear hb11
      have c11_0_0 := HQ11_0.out.cell 0
      have c11_0_1 := HQ11_0.out.cell 1
      have c11_0_2 := HQ11_0.out.cell 2
      have z11_0 := HQ11_0.out.lt
      have z11_1 := HQ11_1.out.lt
      try simp at c11_0_0 c11_0_1 c11_0_2
      clear y0 y1 y2 X0 X1 X2
      go_wp2_with fail
      go_roundw
      case rel => exact ⟨k + 1, by omega, by go_num, HQ11_1, HW11, HB11⟩
      case measure => simp [intOf]; omega
    · have hkn : k = n := by omega
      subst hkn
      go_wp2_with fail
      go_ret
      exact ⟨by first | rfl | simp, HBk.out⟩
theorem LRows_any {kd p b : Nat} {P n : Int} (w : World) (hg : Laid w) : Calls Tryd.prog 4 #[.int .u8 (kd : Int), .int .i64 P, rv p b, .int .i64 n] w (Ret (.bool true) w) := by
  by_cases h : lvB p b P n
  · by_cases h1 : kd = 1 ∨ kd = 2
    · obtain ⟨hr, a1, a2, a3, a4⟩ := h
      obtain ⟨P, rfl⟩ : ∃ k : Nat, P = (k : Int) := ⟨P.toNat, by omega⟩
      obtain ⟨n, rfl⟩ : ∃ k : Nat, n = (k : Int) := ⟨n.toNat, by omega⟩
      rcases h1 with rfl | rfl
      · exact LRows_yes1 hr (by omega) (by omega) (by omega) (by omega) w
      · exact LRows_yes2 hr (by omega) (by omega) (by omega) (by omega) w
    · exact LRows_kd h h1 w hg
  · exact LRows_no h w hg
end Go.Proofs.YtbikfplipkhhcaaDoor
