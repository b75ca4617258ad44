/-
  level's statements: what may be; LevelOrders, LevelOnly. Conditions: the numbers' kinds.
-/
import Derived.Test.YtbikfplipkhhcaaLvlD
namespace Go.Proofs.Ytbikfplipkhhcaa
open Go.RowKit

set_option maxRecDepth 20000 in
set_option maxHeartbeats 4000000 in
theorem lr10 (p b : Nat) (P n : Int) (w : World) : Calls Try.prog 9 #[.int .i64 P, rv p b, .int .i64 n] w (Ret (.bool (decide (lvB p b P n))) w) := by
  unfold rv
  by_cases hp : p ≤ 1000000
  · have i0 : (p : Int) ≤ 1000000 := by omega
    by_cases hb : b = 1 ∨ b = 2
    · rcases (show P < 1 ∨ (1 ≤ P ∧ 1000000000000 < P) ∨ (1 ≤ P ∧ P ≤ 1000000000000 ∧ n < 1) ∨ (1 ≤ P ∧ P ≤ 1000000000000 ∧ 1 ≤ n ∧ 480 < n) ∨ (1 ≤ P ∧ P ≤ 1000000000000 ∧ 1 ≤ n ∧ n ≤ 480) by omega) with h1 | ⟨h1, h2⟩ | ⟨h1, h2, h3⟩ | ⟨h1, h2, h3, h4⟩ | ⟨h1, h2, h3, h4⟩
      · rw [decide_eq_false (fun e => by obtain ⟨-, a, b, c, d⟩ := e; omega)]
        clear hp
        rcases hb with rfl | rfl
        · go_enter Try.func9, Try.ntmps9
          go_wp2_with fail
          go_ret
          exact ⟨by first | rfl | (simp; omega), b_alloc _ _⟩
        · go_enter Try.func9, Try.ntmps9
          go_wp2_with fail
          go_ret
          exact ⟨by first | rfl | (simp; omega), b_alloc _ _⟩
      · rw [decide_eq_false (fun e => by obtain ⟨-, a, b, c, d⟩ := e; omega)]
        clear hp
        rcases hb with rfl | rfl
        · go_enter Try.func9, Try.ntmps9
          go_wp2_with fail
          go_ret
          exact ⟨by first | rfl | (simp; omega), b_alloc _ _⟩
        · go_enter Try.func9, Try.ntmps9
          go_wp2_with fail
          go_ret
          exact ⟨by first | rfl | (simp; omega), b_alloc _ _⟩
      · rw [decide_eq_false (fun e => by obtain ⟨-, a, b, c, d⟩ := e; omega)]
        clear hp
        rcases hb with rfl | rfl
        · go_enter Try.func9, Try.ntmps9
          go_wp2_with fail
          go_ret
          exact ⟨by first | rfl | (simp; omega), b_alloc _ _⟩
        · go_enter Try.func9, Try.ntmps9
          go_wp2_with fail
          go_ret
          exact ⟨by first | rfl | (simp; omega), b_alloc _ _⟩
      · rw [decide_eq_false (fun e => by obtain ⟨-, a, b, c, d⟩ := e; omega)]
        clear hp
        rcases hb with rfl | rfl
        · go_enter Try.func9, Try.ntmps9
          go_wp2_with fail
          go_ret
          exact ⟨by first | rfl | (simp; omega), b_alloc _ _⟩
        · go_enter Try.func9, Try.ntmps9
          go_wp2_with fail
          go_ret
          exact ⟨by first | rfl | (simp; omega), b_alloc _ _⟩
      · rw [decide_eq_true (show lvB p b P n from ⟨⟨hp, hb⟩, h1, h2, h3, h4⟩)]
        clear hp
        rcases hb with rfl | rfl
        · go_enter Try.func9, Try.ntmps9
          go_wp2_with fail
          go_ret
          exact ⟨by first | rfl | (simp; omega), b_alloc _ _⟩
        · go_enter Try.func9, Try.ntmps9
          go_wp2_with fail
          go_ret
          exact ⟨by first | rfl | (simp; omega), b_alloc _ _⟩
    · rw [decide_eq_false (fun e => hb e.1.2)]
      have j1 : ((b : Int) == 1) = false := by rw [beq_eq_false_iff_ne]; omega
      have j2 : ((b : Int) == 2) = false := by rw [beq_eq_false_iff_ne]; omega
      clear hp hb
      go_enter Try.func9, Try.ntmps9
      go_wp2_with fail
      go_ret
      exact ⟨rfl, b_alloc _ _⟩
  · rw [decide_eq_false (fun e => hp e.1.1)]
    have i0 : ¬ (p : Int) ≤ 1000000 := by omega
    clear hp
    go_enter Try.func9, Try.ntmps9
    go_wp2_with fail
    go_ret
    exact ⟨rfl, b_alloc _ _⟩
set_option maxRecDepth 20000 in
set_option maxHeartbeats 4000000 in
theorem LOrd_any (p b : Nat) (P Q n m : Int) (w : World) : Calls Try.prog 4 #[.int .i64 P, .int .i64 Q, rv p b, .int .i64 n, .int .i64 m] w (Ret (.bool true) w) := by
  have hL1 := fun W => lr10 p b P n W
  have hL2 := fun W => lr10 p b Q m W
  by_cases h1 : lvB p b P n
  · rw [decide_eq_true h1] at hL1
    by_cases h2 : lvB p b Q m
    · rw [decide_eq_true h2] at hL2
      by_cases h3 : Q < P
      · unfold rv at *
        clear h1 h2
        go_enter Try.func4, Try.ntmps4
        have HQ0 := Lib.hid (Blk.new w 25 #[.int .u32 (p : Int), .int .u8 (b : Int)])
        have HB0 := Lib.hid (b_alloc w (.cells #[.int .u32 (p : Int), .int .u8 (b : Int)] 25))
        go_wp2_with fail
        refine (awake10 _).mono ?_
        rintro e w1 ⟨rfl, hb1⟩
        have HQ1_0 := Lib.hid (HQ0.out.below hb1 HQ0.out.lt)
        have HB1 := Lib.hid (HB0.out.trans (hb1.mono HB0.out.size))
        clear hb1
        have c1_0_0 := HQ1_0.out.cell 0
        have c1_0_1 := HQ1_0.out.cell 1
        have z1_0 := HQ1_0.out.lt
        try simp at c1_0_0 c1_0_1
        go_wp2_with fail
        refine (hL1 _).mono ?_
        rintro e w2 ⟨rfl, hb2⟩
        have HQ2_0 := Lib.hid (HQ1_0.out.below hb2 HQ1_0.out.lt)
        have HB2 := Lib.hid (HB1.out.trans (hb2.mono HB1.out.size))
        clear hb2 c1_0_0 c1_0_1 z1_0
        have c2_0_0 := HQ2_0.out.cell 0
        have c2_0_1 := HQ2_0.out.cell 1
        have z2_0 := HQ2_0.out.lt
        try simp at c2_0_0 c2_0_1
        go_wp2_with fail
        refine (hL2 _).mono ?_
        rintro e w3 ⟨rfl, hb3⟩
        have HQ3_0 := Lib.hid (HQ2_0.out.below hb3 HQ2_0.out.lt)
        have HB3 := Lib.hid (HB2.out.trans (hb3.mono HB2.out.size))
        clear hb3 c2_0_0 c2_0_1 z2_0
        have c3_0_0 := HQ3_0.out.cell 0
        have c3_0_1 := HQ3_0.out.cell 1
        have z3_0 := HQ3_0.out.lt
        try simp at c3_0_0 c3_0_1
        go_wp2_with fail
        go_ret
        exact ⟨by first | rfl | simp, HB3.out⟩
      · by_cases h4 : n < m
        · unfold rv at *
          clear h1 h2
          go_enter Try.func4, Try.ntmps4
          have HQ0 := Lib.hid (Blk.new w 25 #[.int .u32 (p : Int), .int .u8 (b : Int)])
          have HB0 := Lib.hid (b_alloc w (.cells #[.int .u32 (p : Int), .int .u8 (b : Int)] 25))
          go_wp2_with fail
          refine (awake10 _).mono ?_
          rintro e w1 ⟨rfl, hb1⟩
          have HQ1_0 := Lib.hid (HQ0.out.below hb1 HQ0.out.lt)
          have HB1 := Lib.hid (HB0.out.trans (hb1.mono HB0.out.size))
          clear hb1
          have c1_0_0 := HQ1_0.out.cell 0
          have c1_0_1 := HQ1_0.out.cell 1
          have z1_0 := HQ1_0.out.lt
          try simp at c1_0_0 c1_0_1
          go_wp2_with fail
          refine (hL1 _).mono ?_
          rintro e w2 ⟨rfl, hb2⟩
          have HQ2_0 := Lib.hid (HQ1_0.out.below hb2 HQ1_0.out.lt)
          have HB2 := Lib.hid (HB1.out.trans (hb2.mono HB1.out.size))
          clear hb2 c1_0_0 c1_0_1 z1_0
          have c2_0_0 := HQ2_0.out.cell 0
          have c2_0_1 := HQ2_0.out.cell 1
          have z2_0 := HQ2_0.out.lt
          try simp at c2_0_0 c2_0_1
          go_wp2_with fail
          refine (hL2 _).mono ?_
          rintro e w3 ⟨rfl, hb3⟩
          have HQ3_0 := Lib.hid (HQ2_0.out.below hb3 HQ2_0.out.lt)
          have HB3 := Lib.hid (HB2.out.trans (hb3.mono HB2.out.size))
          clear hb3 c2_0_0 c2_0_1 z2_0
          have c3_0_0 := HQ3_0.out.cell 0
          have c3_0_1 := HQ3_0.out.cell 1
          have z3_0 := HQ3_0.out.lt
          try simp at c3_0_0 c3_0_1
          go_wp2_with fail
          go_ret
          exact ⟨by first | rfl | simp, HB3.out⟩
        · obtain ⟨hr, a1, a2, a3, a4⟩ := h1
          obtain ⟨-, b1, b2, b3, b4⟩ := h2
          obtain ⟨P, rfl⟩ : ∃ k : Nat, P = (k : Int) := ⟨P.toNat, by omega⟩
          obtain ⟨Q, rfl⟩ : ∃ k : Nat, Q = (k : Int) := ⟨Q.toNat, by omega⟩
          obtain ⟨n, rfl⟩ : ∃ k : Nat, n = (k : Int) := ⟨n.toNat, by omega⟩
          obtain ⟨m, rfl⟩ : ∃ k : Nat, m = (k : Int) := ⟨m.toNat, by omega⟩
          obtain ⟨x, hx⟩ := lst_any (p := p) (n := n) (P := P) (by omega)
          obtain ⟨y, hy⟩ := lst_any (p := p) (n := m) (P := Q) (by omega)
          have hxy : x ≤ y := hx.2 y (hy.1.mono (by omega) (by omega) (Nat.le_refl _))
          have hA := fun W => Payment_yes (P := P) (n := n) hr (by omega) (by omega) (by omega) (by omega) hx W
          have hB := fun W => Payment_yes (P := Q) (n := m) hr (by omega) (by omega) (by omega) (by omega) hy W
          have i1 : (x : Int) ≤ (y : Int) := by omega
          unfold rv at *
          clear hr a1 a2 a3 a4 b1 b2 b3 b4 hx hy hxy
          go_enter Try.func4, Try.ntmps4
          have HQ0 := Lib.hid (Blk.new w 25 #[.int .u32 (p : Int), .int .u8 (b : Int)])
          have HB0 := Lib.hid (b_alloc w (.cells #[.int .u32 (p : Int), .int .u8 (b : Int)] 25))
          go_wp2_with fail
          refine (awake10 _).mono ?_
          rintro e w1 ⟨rfl, hb1⟩
          have HQ1_0 := Lib.hid (HQ0.out.below hb1 HQ0.out.lt)
          have HB1 := Lib.hid (HB0.out.trans (hb1.mono HB0.out.size))
          clear hb1
          have c1_0_0 := HQ1_0.out.cell 0
          have c1_0_1 := HQ1_0.out.cell 1
          have z1_0 := HQ1_0.out.lt
          try simp at c1_0_0 c1_0_1
          go_wp2_with fail
          refine (hL1 _).mono ?_
          rintro e w2 ⟨rfl, hb2⟩
          have HQ2_0 := Lib.hid (HQ1_0.out.below hb2 HQ1_0.out.lt)
          have HB2 := Lib.hid (HB1.out.trans (hb2.mono HB1.out.size))
          clear hb2 c1_0_0 c1_0_1 z1_0
          have c2_0_0 := HQ2_0.out.cell 0
          have c2_0_1 := HQ2_0.out.cell 1
          have z2_0 := HQ2_0.out.lt
          try simp at c2_0_0 c2_0_1
          go_wp2_with fail
          refine (hL2 _).mono ?_
          rintro e w3 ⟨rfl, hb3⟩
          have HQ3_0 := Lib.hid (HQ2_0.out.below hb3 HQ2_0.out.lt)
          have HB3 := Lib.hid (HB2.out.trans (hb3.mono HB2.out.size))
          clear hb3 c2_0_0 c2_0_1 z2_0
          have c3_0_0 := HQ3_0.out.cell 0
          have c3_0_1 := HQ3_0.out.cell 1
          have z3_0 := HQ3_0.out.lt
          try simp at c3_0_0 c3_0_1
          go_wp2_with fail
          refine (hA _).mono ?_
          rintro e w4 ⟨rfl, hb4⟩
          have HQ4_0 := Lib.hid (HQ3_0.out.below hb4 HQ3_0.out.lt)
          have HB4 := Lib.hid (HB3.out.trans (hb4.mono HB3.out.size))
          clear hb4 c3_0_0 c3_0_1 z3_0
          have c4_0_0 := HQ4_0.out.cell 0
          have c4_0_1 := HQ4_0.out.cell 1
          have z4_0 := HQ4_0.out.lt
          try simp at c4_0_0 c4_0_1
          go_wp2_with fail
          refine (hB _).mono ?_
          rintro e w5 ⟨rfl, hb5⟩
          have HQ5_0 := Lib.hid (HQ4_0.out.below hb5 HQ4_0.out.lt)
          have HB5 := Lib.hid (HB4.out.trans (hb5.mono HB4.out.size))
          clear hb5 c4_0_0 c4_0_1 z4_0
          have c5_0_0 := HQ5_0.out.cell 0
          have c5_0_1 := HQ5_0.out.cell 1
          have z5_0 := HQ5_0.out.lt
          try simp at c5_0_0 c5_0_1
          go_wp2_with fail
          go_ret
          exact ⟨by first | rfl | simp, HB5.out⟩
    · rw [decide_eq_false h2] at hL2
      unfold rv at *
      clear h1 h2
      go_enter Try.func4, Try.ntmps4
      have HQ0 := Lib.hid (Blk.new w 25 #[.int .u32 (p : Int), .int .u8 (b : Int)])
      have HB0 := Lib.hid (b_alloc w (.cells #[.int .u32 (p : Int), .int .u8 (b : Int)] 25))
      go_wp2_with fail
      refine (awake10 _).mono ?_
      rintro e w1 ⟨rfl, hb1⟩
      have HQ1_0 := Lib.hid (HQ0.out.below hb1 HQ0.out.lt)
      have HB1 := Lib.hid (HB0.out.trans (hb1.mono HB0.out.size))
      clear hb1
      have c1_0_0 := HQ1_0.out.cell 0
      have c1_0_1 := HQ1_0.out.cell 1
      have z1_0 := HQ1_0.out.lt
      try simp at c1_0_0 c1_0_1
      go_wp2_with fail
      refine (hL1 _).mono ?_
      rintro e w2 ⟨rfl, hb2⟩
      have HQ2_0 := Lib.hid (HQ1_0.out.below hb2 HQ1_0.out.lt)
      have HB2 := Lib.hid (HB1.out.trans (hb2.mono HB1.out.size))
      clear hb2 c1_0_0 c1_0_1 z1_0
      have c2_0_0 := HQ2_0.out.cell 0
      have c2_0_1 := HQ2_0.out.cell 1
      have z2_0 := HQ2_0.out.lt
      try simp at c2_0_0 c2_0_1
      go_wp2_with fail
      refine (hL2 _).mono ?_
      rintro e w3 ⟨rfl, hb3⟩
      have HQ3_0 := Lib.hid (HQ2_0.out.below hb3 HQ2_0.out.lt)
      have HB3 := Lib.hid (HB2.out.trans (hb3.mono HB2.out.size))
      clear hb3 c2_0_0 c2_0_1 z2_0
      have c3_0_0 := HQ3_0.out.cell 0
      have c3_0_1 := HQ3_0.out.cell 1
      have z3_0 := HQ3_0.out.lt
      try simp at c3_0_0 c3_0_1
      go_wp2_with fail
      go_ret
      exact ⟨by first | rfl | simp, HB3.out⟩
  · rw [decide_eq_false h1] at hL1
    unfold rv at *
    clear h1
    go_enter Try.func4, Try.ntmps4
    have HQ0 := Lib.hid (Blk.new w 25 #[.int .u32 (p : Int), .int .u8 (b : Int)])
    have HB0 := Lib.hid (b_alloc w (.cells #[.int .u32 (p : Int), .int .u8 (b : Int)] 25))
    go_wp2_with fail
    refine (awake10 _).mono ?_
    rintro e w1 ⟨rfl, hb1⟩
    have HQ1_0 := Lib.hid (HQ0.out.below hb1 HQ0.out.lt)
    have HB1 := Lib.hid (HB0.out.trans (hb1.mono HB0.out.size))
    clear hb1
    have c1_0_0 := HQ1_0.out.cell 0
    have c1_0_1 := HQ1_0.out.cell 1
    have z1_0 := HQ1_0.out.lt
    try simp at c1_0_0 c1_0_1
    go_wp2_with fail
    refine (hL1 _).mono ?_
    rintro e w2 ⟨rfl, hb2⟩
    have HQ2_0 := Lib.hid (HQ1_0.out.below hb2 HQ1_0.out.lt)
    have HB2 := Lib.hid (HB1.out.trans (hb2.mono HB1.out.size))
    clear hb2 c1_0_0 c1_0_1 z1_0
    have c2_0_0 := HQ2_0.out.cell 0
    have c2_0_1 := HQ2_0.out.cell 1
    have z2_0 := HQ2_0.out.lt
    try simp at c2_0_0 c2_0_1
    go_wp2_with fail
    go_ret
    exact ⟨by first | rfl | simp, HB2.out⟩
set_option maxRecDepth 20000 in
set_option maxHeartbeats 4000000 in
theorem LOnly_no {p b : Nat} {P n : Int} (h : ¬ lvB p b P n) (w : World) : Calls Try.prog 6 #[.int .i64 P, rv p b, .int .i64 n] w (Ret (.bool true) w) := by
  have hL1 := fun W => lr10 p b P n W
  rw [decide_eq_false h] at hL1
  have hR : ∀ W, Calls Try.prog 8 #[.int .u8 2, .int .i64 P, rv p b, .int .i64 n] W (Ret (.tuple #[.slice none 0 0, eno 1]) W) := fun W => Rows_no (kd := 2) (fun e => h e.2) W
  unfold rv eno at *
  clear h
  go_enter Try.func6, Try.ntmps6
  have HQ0 := Lib.hid (Blk.new w 25 #[.int .u32 (p : Int), .int .u8 (b : Int)])
  have HB0 := Lib.hid (b_alloc w (.cells #[.int .u32 (p : Int), .int .u8 (b : Int)] 25))
  go_wp2_with fail
  refine (awake10 _).mono ?_
  rintro e w1 ⟨rfl, hb1⟩
  have HQ1_0 := Lib.hid (HQ0.out.below hb1 HQ0.out.lt)
  have HB1 := Lib.hid (HB0.out.trans (hb1.mono HB0.out.size))
  clear hb1
  have c1_0_0 := HQ1_0.out.cell 0
  have c1_0_1 := HQ1_0.out.cell 1
  have z1_0 := HQ1_0.out.lt
  try simp at c1_0_0 c1_0_1
  go_wp2_with fail
  refine (hR _).mono ?_
  rintro e w2 ⟨rfl, hb2⟩
  have HQ2_0 := Lib.hid (HQ1_0.out.below hb2 HQ1_0.out.lt)
  have HB2 := Lib.hid (HB1.out.trans (hb2.mono HB1.out.size))
  clear hb2 c1_0_0 c1_0_1 z1_0
  have c2_0_0 := HQ2_0.out.cell 0
  have c2_0_1 := HQ2_0.out.cell 1
  have z2_0 := HQ2_0.out.lt
  try simp at c2_0_0 c2_0_1
  go_wp2_with fail
  refine (hL1 _).mono ?_
  rintro e w3 ⟨rfl, hb3⟩
  have HQ3_0 := Lib.hid (HQ2_0.out.below hb3 HQ2_0.out.lt)
  have HB3 := Lib.hid (HB2.out.trans (hb3.mono HB2.out.size))
  clear hb3 c2_0_0 c2_0_1 z2_0
  have c3_0_0 := HQ3_0.out.cell 0
  have c3_0_1 := HQ3_0.out.cell 1
  have z3_0 := HQ3_0.out.lt
  try simp at c3_0_0 c3_0_1
  go_wp2_with fail
  go_ret
  exact ⟨by first | rfl | simp, HB3.out⟩
set_option maxRecDepth 20000 in
set_option maxHeartbeats 4000000 in
theorem LOnly_yes {p b P n : Nat} (hr : rateB p b) (hP0 : 1 ≤ P) (hP : P ≤ 1000000000000) (hn0 : 1 ≤ n) (hn : n ≤ 480) (w : World) : Calls Try.prog 6 #[.int .i64 (P : Int), rv p b, .int .i64 (n : Int)] w (Ret (.bool true) w) := by
  have hmb := mi_bd hP hr.1
  have hR := fun W => Rows_yes (kd := 2) (y := mi p P) hr hP hn0 hn (Nat.le_refl _) (by omega) (fun W => Usual_only hr hP0 hP hn0 hn W) W
  replace hR : ∀ W, Calls Try.prog 8 #[.int .u8 2, .int .i64 (P : Int), rv p b, .int .i64 (n : Int)] W (RowsPost p (mi p P) P n W) := hR
  have hM : ∀ W, Calls Try.prog 15 #[rv p b, .int .i64 (P : Int)] W (Ret (.tuple #[.int .i64 ((mi p P : Nat) : Int), .nilIface]) W) := fun W => Month_yes hP hr W
  obtain ⟨F, hF⟩ : ∃ F, rowF p (mi p P) P n = F := ⟨_, rfl⟩
  obtain ⟨m, hm⟩ : ∃ m, mi p P = m := ⟨_, rfl⟩
  have HFk : Hid (∀ k, F k = ((m : Int), if k + 1 = n then (P : Int) else 0, if k + 1 = n then 0 else (P : Int))) := Lib.hid (fun k => by
    rw [← hF]
    unfold rowF
    rw [mit_only, mit_only, hm, Int.sub_self])
  unfold RowsPost at hR
  rw [hF] at hR
  rw [hm] at hM
  obtain ⟨N, hN⟩ : ∃ N, n = N + 1 := ⟨n - 1, by omega⟩
  have e1 : (n : Int) - 1 = (N : Int) := by omega
  have HN := Lib.hid hN
  unfold rv at *
  clear hr hmb hF hm hN hP0 hP hn0
  go_enter Try.func6, Try.ntmps6
  have HQ0 := Lib.hid (Blk.new w 25 #[.int .u32 (p : Int), .int .u8 (b : Int)])
  have HB0 := Lib.hid (b_alloc w (.cells #[.int .u32 (p : Int), .int .u8 (b : Int)] 25))
  go_wp2_with fail
  refine (awake10 _).mono ?_
  rintro e w1 ⟨rfl, hb1⟩
  have HQ1_0 := Lib.hid (HQ0.out.below hb1 HQ0.out.lt)
  have HB1 := Lib.hid (HB0.out.trans (hb1.mono HB0.out.size))
  clear hb1
  have c1_0_0 := HQ1_0.out.cell 0
  have c1_0_1 := HQ1_0.out.cell 1
  have z1_0 := HQ1_0.out.lt
  try simp at c1_0_0 c1_0_1
  go_wp2_with fail
  refine (hR _).mono ?_
  rintro e w2 ⟨g, rfl, hg, hb2, hk2⟩
  have HQ2_0 := Lib.hid (HQ1_0.out.below hb2 HQ1_0.out.lt)
  have HB2 := Lib.hid (HB1.out.trans (hb2.mono HB1.out.size))
  have HK2 := Lib.hid hk2
  clear hb2 c1_0_0 c1_0_1 z1_0 hk2 hR
  have c2_0_0 := HQ2_0.out.cell 0
  have c2_0_1 := HQ2_0.out.cell 1
  have z2_0 := HQ2_0.out.lt
  simp at c2_0_0 c2_0_1
  go_wp2_with fail
  refine (hM _).mono ?_
  rintro e w3 ⟨rfl, hb3⟩
  have HK3 := Lib.hid (HK2.out.below hb3 HK2.out.lt)
  have HB3 := Lib.hid (HB2.out.trans (hb3.mono HB2.out.size))
  clear hb3 c2_0_0 c2_0_1 z2_0 hg hM
  go_wp2_with fail
  go_loopw [38] (fun i wr => ∃ (k : Nat), k ≤ n ∧ i = .int .i64 k ∧ Hid (Blk wr g 38 (rowsA F n)) ∧ Hid (Below w.heap.size w wr)) (fun i _ => n - (intOf i).toNat)
  case atStart => exact ⟨0, Nat.zero_le _, rfl, HK3, HB3⟩
  case round =>
    obtain ⟨k, hk, rfl, HGk, HBk⟩ := hrel
    by_cases hlt : k < n
    · obtain ⟨g0, g1, g2⟩ := rowsA_at F hlt
      have hFk := HFk.out k
      by_cases hkN : k = N
      · rw [if_pos (by have := HN.out; omega), if_pos (by have := HN.out; omega)] at hFk
        rw [hFk] at g0 g1 g2
        have d0 := (HGk.out.cell (k * 3)).trans g0
        have d1 := (HGk.out.cell (k * 3 + 1)).trans g1
        have d2 := (HGk.out.cell (k * 3 + 2)).trans g2
        have z0 := HGk.out.lt
        subst hkN
        clear g0 g1 g2 hFk
        go_wp2_with fail
        go_roundw
        case rel => exact ⟨k + 1, by omega, by go_num, Lib.hid (HGk.out.alloc _), Lib.hid (HBk.out.alloc HBk.out.size _)⟩
        case measure => simp [intOf]; omega
      · rw [if_neg (by have := HN.out; omega), if_neg (by have := HN.out; omega)] at hFk
        rw [hFk] at g0 g1 g2
        have d0 := (HGk.out.cell (k * 3)).trans g0
        have d1 := (HGk.out.cell (k * 3 + 1)).trans g1
        have d2 := (HGk.out.cell (k * 3 + 2)).trans g2
        have z0 := HGk.out.lt
        have hkz : ((k : Int) == (N : Int)) = false := by rw [beq_eq_false_iff_ne]; omega
        clear g0 g1 g2 hFk hkN
        go_wp2_with fail
        go_roundw
        case rel => exact ⟨k + 1, by omega, by go_num, Lib.hid (HGk.out.alloc _), Lib.hid (HBk.out.alloc HBk.out.size _)⟩
        case measure => simp [intOf]; omega
    · have hkn : k = n := by omega
      subst hkn
      go_wp2_with fail
      go_ret
      exact ⟨by first | rfl | simp, HBk.out⟩
theorem LOnly_any (p b : Nat) (P n : Int) (w : World) : Calls Try.prog 6 #[.int .i64 P, rv p b, .int .i64 n] w (Ret (.bool true) w) := by
  by_cases h : lvB p b P n
  · obtain ⟨hr, a1, a2, a3, a4⟩ := h
    obtain ⟨P, rfl⟩ : ∃ k : Nat, P = (k : Int) := ⟨P.toNat, by omega⟩
    obtain ⟨n, rfl⟩ : ∃ k : Nat, n = (k : Int) := ⟨n.toNat, by omega⟩
    exact LOnly_yes hr (by omega) (by omega) (by omega) (by omega) w
  · exact LOnly_no h w
end Go.Proofs.Ytbikfplipkhhcaa
