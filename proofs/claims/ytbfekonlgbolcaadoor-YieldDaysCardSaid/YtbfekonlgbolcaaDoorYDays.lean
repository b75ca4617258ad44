/-
  YieldDays: the walk. Conditions: the numbers' kinds; errors.errorType and the months' lengths are laid.
-/
import Derived.Test.YtbfekonlgbolcaaDoorYldD
import Derived.Test.YtbfekonlgbolcaaDoorCodeC
namespace Go.Proofs.YtbfekonlgbolcaaDoor
open Go.RowKit Go.BigFrame

set_option maxRecDepth 20000 in
set_option maxHeartbeats 8000000 in
theorem DDays_base {p b c : Nat} {P n : Int} (h : ¬ okB p b P 0 0) (hn : -2147483648 ≤ n ∧ n ≤ 2147483647) (w : World) (hw : Lens w) (hg : Laid w) :
    Calls Tryd.prog 4 #[rv p b, .int .i64 P, .int .i32 n, .int .u64 (c : Int)] w (Ret (.bool true) w) := by
  have HW := Lib.hid hw
  have HG := Lib.hid hg
  have hL := fun W => lright_no h W
  have hD := fun W (hW : Lens W) => Day_no (p := p) (b := b) (c := c) (P := P) (n := n) (fun k => h (by
    obtain ⟨a1, a2, a3, a4, a5, a6⟩ := k.1
    exact ⟨a1, a2, a3, a4, a5, by omega⟩)) hn W hW
  have hM := fun W => Month_no (p := p) (b := b) (P := P) (fun k => h ⟨k.1, k.2.1, k.2.2, by omega, by omega, by have := unitN_bd b; omega⟩) W
  unfold eno at hD hM
  unfold rv at hL hD hM ⊢
  clear h hn hw hg
  go_enter Tryd.func4, Tryd.ntmps4
  have HQ0 := Lib.hid (Blk.new w 24 #[.int .u32 (p : Int), .int .u8 (b : Int)])
  have HB0 := Lib.hid (b_alloc w (.cells #[.int .u32 (p : Int), .int .u8 (b : Int)] 24))
  go_wp2_with fail
  refine (awake9 _).mono ?_
  rintro e w1 ⟨rfl, hb1⟩
  have HQ1_0 := Lib.hid (HQ0.out.below hb1 HQ0.out.lt)
  have HB1 := Lib.hid (HB0.out.trans (hb1.mono HB0.out.size))
  clear hb1
  have c1_0_0 := HQ1_0.out.cell 0
  have c1_0_1 := HQ1_0.out.cell 1
  have z1_0 := HQ1_0.out.lt
  simp at c1_0_0 c1_0_1
  go_wp2_with fail
  refine (hD _ (HW.out.below HB1.out)).mono ?_
  rintro e w2 ⟨rfl, hb2⟩
  have HQ2_0 := Lib.hid (HQ1_0.out.below hb2 HQ1_0.out.lt)
  have HB2 := Lib.hid (HB1.out.trans (hb2.mono HB1.out.size))
  clear hb2 c1_0_0 c1_0_1 z1_0
  have c2_0_0 := HQ2_0.out.cell 0
  have c2_0_1 := HQ2_0.out.cell 1
  have z2_0 := HQ2_0.out.lt
  simp at c2_0_0 c2_0_1
  go_wp2_with fail
  refine (hM _).mono ?_
  rintro e w3 ⟨rfl, hb3⟩
  have HQ3_0 := Lib.hid (HQ2_0.out.below hb3 HQ2_0.out.lt)
  have HB3 := Lib.hid (HB2.out.trans (hb3.mono HB2.out.size))
  clear hb3 c2_0_0 c2_0_1 z2_0
  have c3_0_0 := HQ3_0.out.cell 0
  have c3_0_1 := HQ3_0.out.cell 1
  have z3_0 := HQ3_0.out.lt
  simp at c3_0_0 c3_0_1
  go_wp2_with fail
  refine (hL _).mono ?_
  rintro e w4 ⟨rfl, hb4⟩
  have HQ4_0 := Lib.hid (HQ3_0.out.below hb4 HQ3_0.out.lt)
  have HB4 := Lib.hid (HB3.out.trans (hb4.mono HB3.out.size))
  clear hb4 c3_0_0 c3_0_1 z3_0
  have c4_0_0 := HQ4_0.out.cell 0
  have c4_0_1 := HQ4_0.out.cell 1
  have z4_0 := HQ4_0.out.lt
  simp at c4_0_0 c4_0_1
  go_wp2_with fail
  refine (Code_errno 1 _ (HG.out.below HB4.out)).mono ?_
  rintro e w5 ⟨rfl, hb5⟩
  have HQ5_0 := Lib.hid (HQ4_0.out.below hb5 HQ4_0.out.lt)
  have HB5 := Lib.hid (HB4.out.trans (hb5.mono HB4.out.size))
  clear hb5 c4_0_0 c4_0_1 z4_0
  have c5_0_0 := HQ5_0.out.cell 0
  have c5_0_1 := HQ5_0.out.cell 1
  have z5_0 := HQ5_0.out.lt
  simp at c5_0_0 c5_0_1
  go_wp2_with fail
  refine (Code_errno 1 _ (HG.out.below HB5.out)).mono ?_
  rintro e w6 ⟨rfl, hb6⟩
  have HQ6_0 := Lib.hid (HQ5_0.out.below hb6 HQ5_0.out.lt)
  have HB6 := Lib.hid (HB5.out.trans (hb6.mono HB5.out.size))
  clear hb6 c5_0_0 c5_0_1 z5_0
  have c6_0_0 := HQ6_0.out.cell 0
  have c6_0_1 := HQ6_0.out.cell 1
  have z6_0 := HQ6_0.out.lt
  simp at c6_0_0 c6_0_1
  go_wp2_with fail
  go_ret
  exact ⟨by first | rfl | simp, HB6.out⟩
set_option maxRecDepth 20000 in
set_option maxHeartbeats 8000000 in
theorem DDays_carry1 {P p c : Nat} {n : Int} (h : okB p 1 P 0 0) (hc : ¬ okB p 1 P 0 c) (hn : -2147483648 ≤ n ∧ n ≤ 2147483647) (w : World) (hw : Lens w) (hg : Laid w) :
    Calls Tryd.prog 4 #[rv p 1, .int .i64 (P : Int), .int .i32 n, .int .u64 (c : Int)] w (Ret (.bool true) w) := by
  have HW := Lib.hid hw
  have HG := Lib.hid hg
  have hL := fun W => lright_yes h W
  have hL2 := fun W => lright_no hc W
  have hD := fun W (hW : Lens W) => Day_no (p := p) (b := 1) (c := c) (P := P) (n := n) (fun k => hc k.1) hn W hW
  obtain ⟨hr, h0, h1, -, -, -⟩ := h
  have hM := fun W => Month_yes (P := P) (by omega) hr W
  have hRM := fun W => RMonth_any (P := P) false (by omega) hr.1 W
  obtain ⟨m, hm⟩ : ∃ m, monthN (P * p) = m := ⟨_, rfl⟩
  rw [hm] at hM hRM
  have hO := fun W => own_1 p W
  unfold eno at hD
  unfold rv at hL hL2 hD hM hO ⊢
  unfold rr at hRM hO
  clear hr h0 h1 hm hn hw hg hc
  go_enter Tryd.func4, Tryd.ntmps4
  have HQ0 := Lib.hid (Blk.new w 24 #[.int .u32 (p : Int), .int .u8 1])
  have HB0 := Lib.hid (b_alloc w (.cells #[.int .u32 (p : Int), .int .u8 1] 24))
  go_wp2_with fail
  refine (awake9 _).mono ?_
  rintro e w1 ⟨rfl, hb1⟩
  have HQ1_0 := Lib.hid (HQ0.out.below hb1 HQ0.out.lt)
  have HB1 := Lib.hid (HB0.out.trans (hb1.mono HB0.out.size))
  clear hb1
  have c1_0_0 := HQ1_0.out.cell 0
  have c1_0_1 := HQ1_0.out.cell 1
  have z1_0 := HQ1_0.out.lt
  simp at c1_0_0 c1_0_1
  go_wp2_with fail
  refine (hD _ (HW.out.below HB1.out)).mono ?_
  rintro e w2 ⟨rfl, hb2⟩
  have HQ2_0 := Lib.hid (HQ1_0.out.below hb2 HQ1_0.out.lt)
  have HB2 := Lib.hid (HB1.out.trans (hb2.mono HB1.out.size))
  clear hb2 c1_0_0 c1_0_1 z1_0
  have c2_0_0 := HQ2_0.out.cell 0
  have c2_0_1 := HQ2_0.out.cell 1
  have z2_0 := HQ2_0.out.lt
  simp at c2_0_0 c2_0_1
  go_wp2_with fail
  refine (hM _).mono ?_
  rintro e w3 ⟨rfl, hb3⟩
  have HQ3_0 := Lib.hid (HQ2_0.out.below hb3 HQ2_0.out.lt)
  have HB3 := Lib.hid (HB2.out.trans (hb3.mono HB2.out.size))
  clear hb3 c2_0_0 c2_0_1 z2_0
  have c3_0_0 := HQ3_0.out.cell 0
  have c3_0_1 := HQ3_0.out.cell 1
  have z3_0 := HQ3_0.out.lt
  simp at c3_0_0 c3_0_1
  go_wp2_with fail
  refine (hL _).mono ?_
  rintro e w4 ⟨rfl, hb4⟩
  have HQ4_0 := Lib.hid (HQ3_0.out.below hb4 HQ3_0.out.lt)
  have HB4 := Lib.hid (HB3.out.trans (hb4.mono HB3.out.size))
  clear hb4 c3_0_0 c3_0_1 z3_0
  have c4_0_0 := HQ4_0.out.cell 0
  have c4_0_1 := HQ4_0.out.cell 1
  have z4_0 := HQ4_0.out.lt
  simp at c4_0_0 c4_0_1
  go_wp2_with fail
  refine (hO _).mono ?_
  rintro e w5 ⟨rfl, hb5⟩
  have HQ5_0 := Lib.hid (HQ4_0.out.below hb5 HQ4_0.out.lt)
  have HB5 := Lib.hid (HB4.out.trans (hb5.mono HB4.out.size))
  clear hb5 c4_0_0 c4_0_1 z4_0
  have c5_0_0 := HQ5_0.out.cell 0
  have c5_0_1 := HQ5_0.out.cell 1
  have z5_0 := HQ5_0.out.lt
  simp at c5_0_0 c5_0_1
  go_wp2_with fail
  refine (hRM _).mono ?_
  rintro e w6 ⟨rfl, hb6⟩
  have HQ6_0 := Lib.hid (HQ5_0.out.below hb6 HQ5_0.out.lt)
  have HB6 := Lib.hid (HB5.out.trans (hb6.mono HB5.out.size))
  clear hb6 c5_0_0 c5_0_1 z5_0
  have c6_0_0 := HQ6_0.out.cell 0
  have c6_0_1 := HQ6_0.out.cell 1
  have z6_0 := HQ6_0.out.lt
  simp at c6_0_0 c6_0_1
  go_wp2_with fail
  refine (hL2 _).mono ?_
  rintro e w7 ⟨rfl, hb7⟩
  have HQ7_0 := Lib.hid (HQ6_0.out.below hb7 HQ6_0.out.lt)
  have HB7 := Lib.hid (HB6.out.trans (hb7.mono HB6.out.size))
  clear hb7 c6_0_0 c6_0_1 z6_0
  have c7_0_0 := HQ7_0.out.cell 0
  have c7_0_1 := HQ7_0.out.cell 1
  have z7_0 := HQ7_0.out.lt
  simp at c7_0_0 c7_0_1
  go_wp2_with fail
  refine (Code_errno 1 _ (HG.out.below HB7.out)).mono ?_
  rintro e w8 ⟨rfl, hb8⟩
  have HQ8_0 := Lib.hid (HQ7_0.out.below hb8 HQ7_0.out.lt)
  have HB8 := Lib.hid (HB7.out.trans (hb8.mono HB7.out.size))
  clear hb8 c7_0_0 c7_0_1 z7_0
  have c8_0_0 := HQ8_0.out.cell 0
  have c8_0_1 := HQ8_0.out.cell 1
  have z8_0 := HQ8_0.out.lt
  simp at c8_0_0 c8_0_1
  go_wp2_with fail
  go_ret
  exact ⟨by first | rfl | simp, HB8.out⟩
set_option maxRecDepth 20000 in
set_option maxHeartbeats 8000000 in
theorem DDays_low1 {P p c : Nat} {n : Int} (h : okB p 1 P 0 0) (hc : okB p 1 P 0 c) (hd : n < 0) (hn : -2147483648 ≤ n ∧ n ≤ 2147483647) (w : World) (hw : Lens w) (hg : Laid w) :
    Calls Tryd.prog 4 #[rv p 1, .int .i64 (P : Int), .int .i32 n, .int .u64 (c : Int)] w (Ret (.bool true) w) := by
  have HW := Lib.hid hw
  have HG := Lib.hid hg
  have hL := fun W => lright_yes h W
  have hL2 := fun W => lright_yes hc W
  have hD := fun W (hW : Lens W) => Day_no (p := p) (b := 1) (c := c) (P := P) (n := n) (fun k => by omega) hn W hW
  obtain ⟨hr, h0, h1, -, -, -⟩ := h
  have hM := fun W => Month_yes (P := P) (by omega) hr W
  have hRM := fun W => RMonth_any (P := P) false (by omega) hr.1 W
  obtain ⟨m, hm⟩ : ∃ m, monthN (P * p) = m := ⟨_, rfl⟩
  rw [hm] at hM hRM
  have hO := fun W => own_1 p W
  unfold eno at hD
  unfold rv at hL hL2 hD hM hO ⊢
  unfold rr at hRM hO
  clear hr h0 h1 hm hn hw hg hc
  go_enter Tryd.func4, Tryd.ntmps4
  have HQ0 := Lib.hid (Blk.new w 24 #[.int .u32 (p : Int), .int .u8 1])
  have HB0 := Lib.hid (b_alloc w (.cells #[.int .u32 (p : Int), .int .u8 1] 24))
  go_wp2_with fail
  refine (awake9 _).mono ?_
  rintro e w1 ⟨rfl, hb1⟩
  have HQ1_0 := Lib.hid (HQ0.out.below hb1 HQ0.out.lt)
  have HB1 := Lib.hid (HB0.out.trans (hb1.mono HB0.out.size))
  clear hb1
  have c1_0_0 := HQ1_0.out.cell 0
  have c1_0_1 := HQ1_0.out.cell 1
  have z1_0 := HQ1_0.out.lt
  simp at c1_0_0 c1_0_1
  go_wp2_with fail
  refine (hD _ (HW.out.below HB1.out)).mono ?_
  rintro e w2 ⟨rfl, hb2⟩
  have HQ2_0 := Lib.hid (HQ1_0.out.below hb2 HQ1_0.out.lt)
  have HB2 := Lib.hid (HB1.out.trans (hb2.mono HB1.out.size))
  clear hb2 c1_0_0 c1_0_1 z1_0
  have c2_0_0 := HQ2_0.out.cell 0
  have c2_0_1 := HQ2_0.out.cell 1
  have z2_0 := HQ2_0.out.lt
  simp at c2_0_0 c2_0_1
  go_wp2_with fail
  refine (hM _).mono ?_
  rintro e w3 ⟨rfl, hb3⟩
  have HQ3_0 := Lib.hid (HQ2_0.out.below hb3 HQ2_0.out.lt)
  have HB3 := Lib.hid (HB2.out.trans (hb3.mono HB2.out.size))
  clear hb3 c2_0_0 c2_0_1 z2_0
  have c3_0_0 := HQ3_0.out.cell 0
  have c3_0_1 := HQ3_0.out.cell 1
  have z3_0 := HQ3_0.out.lt
  simp at c3_0_0 c3_0_1
  go_wp2_with fail
  refine (hL _).mono ?_
  rintro e w4 ⟨rfl, hb4⟩
  have HQ4_0 := Lib.hid (HQ3_0.out.below hb4 HQ3_0.out.lt)
  have HB4 := Lib.hid (HB3.out.trans (hb4.mono HB3.out.size))
  clear hb4 c3_0_0 c3_0_1 z3_0
  have c4_0_0 := HQ4_0.out.cell 0
  have c4_0_1 := HQ4_0.out.cell 1
  have z4_0 := HQ4_0.out.lt
  simp at c4_0_0 c4_0_1
  go_wp2_with fail
  refine (hO _).mono ?_
  rintro e w5 ⟨rfl, hb5⟩
  have HQ5_0 := Lib.hid (HQ4_0.out.below hb5 HQ4_0.out.lt)
  have HB5 := Lib.hid (HB4.out.trans (hb5.mono HB4.out.size))
  clear hb5 c4_0_0 c4_0_1 z4_0
  have c5_0_0 := HQ5_0.out.cell 0
  have c5_0_1 := HQ5_0.out.cell 1
  have z5_0 := HQ5_0.out.lt
  simp at c5_0_0 c5_0_1
  go_wp2_with fail
  refine (hRM _).mono ?_
  rintro e w6 ⟨rfl, hb6⟩
  have HQ6_0 := Lib.hid (HQ5_0.out.below hb6 HQ5_0.out.lt)
  have HB6 := Lib.hid (HB5.out.trans (hb6.mono HB5.out.size))
  clear hb6 c5_0_0 c5_0_1 z5_0
  have c6_0_0 := HQ6_0.out.cell 0
  have c6_0_1 := HQ6_0.out.cell 1
  have z6_0 := HQ6_0.out.lt
  simp at c6_0_0 c6_0_1
  go_wp2_with fail
  refine (hL2 _).mono ?_
  rintro e w7 ⟨rfl, hb7⟩
  have HQ7_0 := Lib.hid (HQ6_0.out.below hb7 HQ6_0.out.lt)
  have HB7 := Lib.hid (HB6.out.trans (hb7.mono HB6.out.size))
  clear hb7 c6_0_0 c6_0_1 z6_0
  have c7_0_0 := HQ7_0.out.cell 0
  have c7_0_1 := HQ7_0.out.cell 1
  have z7_0 := HQ7_0.out.lt
  simp at c7_0_0 c7_0_1
  go_wp2_with fail
  refine (Code_errno 1 _ (HG.out.below HB7.out)).mono ?_
  rintro e w8 ⟨rfl, hb8⟩
  have HQ8_0 := Lib.hid (HQ7_0.out.below hb8 HQ7_0.out.lt)
  have HB8 := Lib.hid (HB7.out.trans (hb8.mono HB7.out.size))
  clear hb8 c7_0_0 c7_0_1 z7_0
  have c8_0_0 := HQ8_0.out.cell 0
  have c8_0_1 := HQ8_0.out.cell 1
  have z8_0 := HQ8_0.out.lt
  simp at c8_0_0 c8_0_1
  go_wp2_with fail
  go_ret
  exact ⟨by first | rfl | simp, HB8.out⟩
set_option maxRecDepth 20000 in
set_option maxHeartbeats 8000000 in
theorem DDays_high1 {P p c : Nat} {n : Int} (h : okB p 1 P 0 0) (hc : okB p 1 P 0 c) (hd0 : ¬ n < 0) (hd : 3652058 ≤ n) (hn : -2147483648 ≤ n ∧ n ≤ 2147483647) (w : World) (hw : Lens w) (hg : Laid w) :
    Calls Tryd.prog 4 #[rv p 1, .int .i64 (P : Int), .int .i32 n, .int .u64 (c : Int)] w (Ret (.bool true) w) := by
  have HW := Lib.hid hw
  have HG := Lib.hid hg
  have hL := fun W => lright_yes h W
  have hL2 := fun W => lright_yes hc W
  have hD := fun W (hW : Lens W) => Day_no (p := p) (b := 1) (c := c) (P := P) (n := n) (fun k => by omega) hn W hW
  obtain ⟨hr, h0, h1, -, -, -⟩ := h
  have hM := fun W => Month_yes (P := P) (by omega) hr W
  have hRM := fun W => RMonth_any (P := P) false (by omega) hr.1 W
  obtain ⟨m, hm⟩ : ∃ m, monthN (P * p) = m := ⟨_, rfl⟩
  rw [hm] at hM hRM
  have hO := fun W => own_1 p W
  unfold eno at hD
  unfold rv at hL hL2 hD hM hO ⊢
  unfold rr at hRM hO
  clear hr h0 h1 hm hn hw hg hc
  go_enter Tryd.func4, Tryd.ntmps4
  have HQ0 := Lib.hid (Blk.new w 24 #[.int .u32 (p : Int), .int .u8 1])
  have HB0 := Lib.hid (b_alloc w (.cells #[.int .u32 (p : Int), .int .u8 1] 24))
  go_wp2_with fail
  refine (awake9 _).mono ?_
  rintro e w1 ⟨rfl, hb1⟩
  have HQ1_0 := Lib.hid (HQ0.out.below hb1 HQ0.out.lt)
  have HB1 := Lib.hid (HB0.out.trans (hb1.mono HB0.out.size))
  clear hb1
  have c1_0_0 := HQ1_0.out.cell 0
  have c1_0_1 := HQ1_0.out.cell 1
  have z1_0 := HQ1_0.out.lt
  simp at c1_0_0 c1_0_1
  go_wp2_with fail
  refine (hD _ (HW.out.below HB1.out)).mono ?_
  rintro e w2 ⟨rfl, hb2⟩
  have HQ2_0 := Lib.hid (HQ1_0.out.below hb2 HQ1_0.out.lt)
  have HB2 := Lib.hid (HB1.out.trans (hb2.mono HB1.out.size))
  clear hb2 c1_0_0 c1_0_1 z1_0
  have c2_0_0 := HQ2_0.out.cell 0
  have c2_0_1 := HQ2_0.out.cell 1
  have z2_0 := HQ2_0.out.lt
  simp at c2_0_0 c2_0_1
  go_wp2_with fail
  refine (hM _).mono ?_
  rintro e w3 ⟨rfl, hb3⟩
  have HQ3_0 := Lib.hid (HQ2_0.out.below hb3 HQ2_0.out.lt)
  have HB3 := Lib.hid (HB2.out.trans (hb3.mono HB2.out.size))
  clear hb3 c2_0_0 c2_0_1 z2_0
  have c3_0_0 := HQ3_0.out.cell 0
  have c3_0_1 := HQ3_0.out.cell 1
  have z3_0 := HQ3_0.out.lt
  simp at c3_0_0 c3_0_1
  go_wp2_with fail
  refine (hL _).mono ?_
  rintro e w4 ⟨rfl, hb4⟩
  have HQ4_0 := Lib.hid (HQ3_0.out.below hb4 HQ3_0.out.lt)
  have HB4 := Lib.hid (HB3.out.trans (hb4.mono HB3.out.size))
  clear hb4 c3_0_0 c3_0_1 z3_0
  have c4_0_0 := HQ4_0.out.cell 0
  have c4_0_1 := HQ4_0.out.cell 1
  have z4_0 := HQ4_0.out.lt
  simp at c4_0_0 c4_0_1
  go_wp2_with fail
  refine (hO _).mono ?_
  rintro e w5 ⟨rfl, hb5⟩
  have HQ5_0 := Lib.hid (HQ4_0.out.below hb5 HQ4_0.out.lt)
  have HB5 := Lib.hid (HB4.out.trans (hb5.mono HB4.out.size))
  clear hb5 c4_0_0 c4_0_1 z4_0
  have c5_0_0 := HQ5_0.out.cell 0
  have c5_0_1 := HQ5_0.out.cell 1
  have z5_0 := HQ5_0.out.lt
  simp at c5_0_0 c5_0_1
  go_wp2_with fail
  refine (hRM _).mono ?_
  rintro e w6 ⟨rfl, hb6⟩
  have HQ6_0 := Lib.hid (HQ5_0.out.below hb6 HQ5_0.out.lt)
  have HB6 := Lib.hid (HB5.out.trans (hb6.mono HB5.out.size))
  clear hb6 c5_0_0 c5_0_1 z5_0
  have c6_0_0 := HQ6_0.out.cell 0
  have c6_0_1 := HQ6_0.out.cell 1
  have z6_0 := HQ6_0.out.lt
  simp at c6_0_0 c6_0_1
  go_wp2_with fail
  refine (hL2 _).mono ?_
  rintro e w7 ⟨rfl, hb7⟩
  have HQ7_0 := Lib.hid (HQ6_0.out.below hb7 HQ6_0.out.lt)
  have HB7 := Lib.hid (HB6.out.trans (hb7.mono HB6.out.size))
  clear hb7 c6_0_0 c6_0_1 z6_0
  have c7_0_0 := HQ7_0.out.cell 0
  have c7_0_1 := HQ7_0.out.cell 1
  have z7_0 := HQ7_0.out.lt
  simp at c7_0_0 c7_0_1
  go_wp2_with fail
  refine (Code_errno 1 _ (HG.out.below HB7.out)).mono ?_
  rintro e w8 ⟨rfl, hb8⟩
  have HQ8_0 := Lib.hid (HQ7_0.out.below hb8 HQ7_0.out.lt)
  have HB8 := Lib.hid (HB7.out.trans (hb8.mono HB7.out.size))
  clear hb8 c7_0_0 c7_0_1 z7_0
  have c8_0_0 := HQ8_0.out.cell 0
  have c8_0_1 := HQ8_0.out.cell 1
  have z8_0 := HQ8_0.out.lt
  simp at c8_0_0 c8_0_1
  go_wp2_with fail
  go_ret
  exact ⟨by first | rfl | simp, HB8.out⟩
set_option maxRecDepth 20000 in
set_option maxHeartbeats 8000000 in
theorem DDays_ok1 {P p c : Nat} {n : Int} (hc0 : okB p 1 P 0 c) (d0 : 0 ≤ n) (d1 : n < 3652058) (w : World) (hw : Lens w) (hg : Laid w) :
    Calls Tryd.prog 4 #[rv p 1, .int .i64 (P : Int), .int .i32 n, .int .u64 (c : Int)] w (Ret (.bool true) w) := by
  have HW := Lib.hid hw
  have hL2 := fun W => lright_yes hc0 W
  obtain ⟨hr, h0, h1, -, -, hc⟩ := hc0
  have hL := fun W => lright_yes (p := p) (b := 1) (P := (P : Int)) (d := 0) (c := 0) ⟨hr, h0, h1, by omega, by omega, by decide⟩ W
  obtain ⟨D, hD1, hD3⟩ := one_nat (b := 1) d0 d1
  have hD := fun W (hW : Lens W) => Day_yes (P := P) (p := p) (c := c) (n := n) (by omega) hr d0 d1 hc hD1 hD3 W hW
  have hRD := fun W => RDay_1 (P := P) (p := p) (c := c) (n := n) (by omega) hr.1 d0 d1 hc hD1 hD3 W
  rw [show unitN 1 = 365000000 from rfl] at hD
  obtain ⟨q, hq⟩ : ∃ q, (P * p * D + c) / 365000000 = q := ⟨_, rfl⟩
  obtain ⟨s, hs⟩ : ∃ s, (P * p * D + c) % 365000000 = s := ⟨_, rfl⟩
  rw [hq, hs] at hD hRD
  have hM := fun W => Month_yes (P := P) (by omega) hr W
  have hRM := fun W => RMonth_any (P := P) false (by omega) hr.1 W
  obtain ⟨m, hm⟩ : ∃ m, monthN (P * p) = m := ⟨_, rfl⟩
  rw [hm] at hM hRM
  have hO := fun W => own_1 p W
  have i1 : ¬ n < 0 := by omega
  have i2 : ¬ 3652058 ≤ n := by omega
  unfold rv at hL hL2 hD hM hO ⊢
  unfold rr at hRM hO hRD
  clear hr h0 h1 hm hw hg hc hD1 hD3 hq hs
  go_enter Tryd.func4, Tryd.ntmps4
  have HQ0 := Lib.hid (Blk.new w 24 #[.int .u32 (p : Int), .int .u8 1])
  have HB0 := Lib.hid (b_alloc w (.cells #[.int .u32 (p : Int), .int .u8 1] 24))
  go_wp2_with fail
  refine (awake9 _).mono ?_
  rintro e w1 ⟨rfl, hb1⟩
  have HQ1_0 := Lib.hid (HQ0.out.below hb1 HQ0.out.lt)
  have HB1 := Lib.hid (HB0.out.trans (hb1.mono HB0.out.size))
  clear hb1
  have c1_0_0 := HQ1_0.out.cell 0
  have c1_0_1 := HQ1_0.out.cell 1
  have z1_0 := HQ1_0.out.lt
  simp at c1_0_0 c1_0_1
  go_wp2_with fail
  refine (hD _ (HW.out.below HB1.out)).mono ?_
  rintro e w2 ⟨rfl, hb2⟩
  have HQ2_0 := Lib.hid (HQ1_0.out.below hb2 HQ1_0.out.lt)
  have HB2 := Lib.hid (HB1.out.trans (hb2.mono HB1.out.size))
  clear hb2 c1_0_0 c1_0_1 z1_0
  have c2_0_0 := HQ2_0.out.cell 0
  have c2_0_1 := HQ2_0.out.cell 1
  have z2_0 := HQ2_0.out.lt
  simp at c2_0_0 c2_0_1
  go_wp2_with fail
  refine (hM _).mono ?_
  rintro e w3 ⟨rfl, hb3⟩
  have HQ3_0 := Lib.hid (HQ2_0.out.below hb3 HQ2_0.out.lt)
  have HB3 := Lib.hid (HB2.out.trans (hb3.mono HB2.out.size))
  clear hb3 c2_0_0 c2_0_1 z2_0
  have c3_0_0 := HQ3_0.out.cell 0
  have c3_0_1 := HQ3_0.out.cell 1
  have z3_0 := HQ3_0.out.lt
  simp at c3_0_0 c3_0_1
  go_wp2_with fail
  refine (hL _).mono ?_
  rintro e w4 ⟨rfl, hb4⟩
  have HQ4_0 := Lib.hid (HQ3_0.out.below hb4 HQ3_0.out.lt)
  have HB4 := Lib.hid (HB3.out.trans (hb4.mono HB3.out.size))
  clear hb4 c3_0_0 c3_0_1 z3_0
  have c4_0_0 := HQ4_0.out.cell 0
  have c4_0_1 := HQ4_0.out.cell 1
  have z4_0 := HQ4_0.out.lt
  simp at c4_0_0 c4_0_1
  go_wp2_with fail
  refine (hO _).mono ?_
  rintro e w5 ⟨rfl, hb5⟩
  have HQ5_0 := Lib.hid (HQ4_0.out.below hb5 HQ4_0.out.lt)
  have HB5 := Lib.hid (HB4.out.trans (hb5.mono HB4.out.size))
  clear hb5 c4_0_0 c4_0_1 z4_0
  have c5_0_0 := HQ5_0.out.cell 0
  have c5_0_1 := HQ5_0.out.cell 1
  have z5_0 := HQ5_0.out.lt
  simp at c5_0_0 c5_0_1
  go_wp2_with fail
  refine (hRM _).mono ?_
  rintro e w6 ⟨rfl, hb6⟩
  have HQ6_0 := Lib.hid (HQ5_0.out.below hb6 HQ5_0.out.lt)
  have HB6 := Lib.hid (HB5.out.trans (hb6.mono HB5.out.size))
  clear hb6 c5_0_0 c5_0_1 z5_0
  have c6_0_0 := HQ6_0.out.cell 0
  have c6_0_1 := HQ6_0.out.cell 1
  have z6_0 := HQ6_0.out.lt
  simp at c6_0_0 c6_0_1
  go_wp2_with fail
  refine (hL2 _).mono ?_
  rintro e w7 ⟨rfl, hb7⟩
  have HQ7_0 := Lib.hid (HQ6_0.out.below hb7 HQ6_0.out.lt)
  have HB7 := Lib.hid (HB6.out.trans (hb7.mono HB6.out.size))
  clear hb7 c6_0_0 c6_0_1 z6_0
  have c7_0_0 := HQ7_0.out.cell 0
  have c7_0_1 := HQ7_0.out.cell 1
  have z7_0 := HQ7_0.out.lt
  simp at c7_0_0 c7_0_1
  go_wp2_with fail
  refine (hO _).mono ?_
  rintro e w8 ⟨rfl, hb8⟩
  have HQ8_0 := Lib.hid (HQ7_0.out.below hb8 HQ7_0.out.lt)
  have HB8 := Lib.hid (HB7.out.trans (hb8.mono HB7.out.size))
  clear hb8 c7_0_0 c7_0_1 z7_0
  have c8_0_0 := HQ8_0.out.cell 0
  have c8_0_1 := HQ8_0.out.cell 1
  have z8_0 := HQ8_0.out.lt
  simp at c8_0_0 c8_0_1
  go_wp2_with fail
  refine (hRD _).mono ?_
  rintro e w9 ⟨rfl, hb9⟩
  have HQ9_0 := Lib.hid (HQ8_0.out.below hb9 HQ8_0.out.lt)
  have HB9 := Lib.hid (HB8.out.trans (hb9.mono HB8.out.size))
  clear hb9 c8_0_0 c8_0_1 z8_0
  have c9_0_0 := HQ9_0.out.cell 0
  have c9_0_1 := HQ9_0.out.cell 1
  have z9_0 := HQ9_0.out.lt
  simp at c9_0_0 c9_0_1
  go_wp2_with fail
  go_ret
  exact ⟨by first | rfl | simp, HB9.out⟩
set_option maxRecDepth 20000 in
set_option maxHeartbeats 8000000 in
theorem DDays_carry2 {P p c : Nat} {n : Int} (h : okB p 2 P 0 0) (hc : ¬ okB p 2 P 0 c) (hn : -2147483648 ≤ n ∧ n ≤ 2147483647) (w : World) (hw : Lens w) (hg : Laid w) :
    Calls Tryd.prog 4 #[rv p 2, .int .i64 (P : Int), .int .i32 n, .int .u64 (c : Int)] w (Ret (.bool true) w) := by
  have HW := Lib.hid hw
  have HG := Lib.hid hg
  have hL := fun W => lright_yes h W
  have hL2 := fun W => lright_no hc W
  have hD := fun W (hW : Lens W) => Day_no (p := p) (b := 2) (c := c) (P := P) (n := n) (fun k => hc k.1) hn W hW
  obtain ⟨hr, h0, h1, -, -, -⟩ := h
  have hM := fun W => Month_yes (P := P) (by omega) hr W
  have hRM := fun W => RMonth_any (P := P) true (by omega) hr.1 W
  obtain ⟨m, hm⟩ : ∃ m, monthN (P * p) = m := ⟨_, rfl⟩
  rw [hm] at hM hRM
  have hO := fun W => own_2 p W
  unfold eno at hD
  unfold rv at hL hL2 hD hM hO ⊢
  unfold rr at hRM hO
  clear hr h0 h1 hm hn hw hg hc
  go_enter Tryd.func4, Tryd.ntmps4
  have HQ0 := Lib.hid (Blk.new w 24 #[.int .u32 (p : Int), .int .u8 2])
  have HB0 := Lib.hid (b_alloc w (.cells #[.int .u32 (p : Int), .int .u8 2] 24))
  go_wp2_with fail
  refine (awake9 _).mono ?_
  rintro e w1 ⟨rfl, hb1⟩
  have HQ1_0 := Lib.hid (HQ0.out.below hb1 HQ0.out.lt)
  have HB1 := Lib.hid (HB0.out.trans (hb1.mono HB0.out.size))
  clear hb1
  have c1_0_0 := HQ1_0.out.cell 0
  have c1_0_1 := HQ1_0.out.cell 1
  have z1_0 := HQ1_0.out.lt
  simp at c1_0_0 c1_0_1
  go_wp2_with fail
  refine (hD _ (HW.out.below HB1.out)).mono ?_
  rintro e w2 ⟨rfl, hb2⟩
  have HQ2_0 := Lib.hid (HQ1_0.out.below hb2 HQ1_0.out.lt)
  have HB2 := Lib.hid (HB1.out.trans (hb2.mono HB1.out.size))
  clear hb2 c1_0_0 c1_0_1 z1_0
  have c2_0_0 := HQ2_0.out.cell 0
  have c2_0_1 := HQ2_0.out.cell 1
  have z2_0 := HQ2_0.out.lt
  simp at c2_0_0 c2_0_1
  go_wp2_with fail
  refine (hM _).mono ?_
  rintro e w3 ⟨rfl, hb3⟩
  have HQ3_0 := Lib.hid (HQ2_0.out.below hb3 HQ2_0.out.lt)
  have HB3 := Lib.hid (HB2.out.trans (hb3.mono HB2.out.size))
  clear hb3 c2_0_0 c2_0_1 z2_0
  have c3_0_0 := HQ3_0.out.cell 0
  have c3_0_1 := HQ3_0.out.cell 1
  have z3_0 := HQ3_0.out.lt
  simp at c3_0_0 c3_0_1
  go_wp2_with fail
  refine (hL _).mono ?_
  rintro e w4 ⟨rfl, hb4⟩
  have HQ4_0 := Lib.hid (HQ3_0.out.below hb4 HQ3_0.out.lt)
  have HB4 := Lib.hid (HB3.out.trans (hb4.mono HB3.out.size))
  clear hb4 c3_0_0 c3_0_1 z3_0
  have c4_0_0 := HQ4_0.out.cell 0
  have c4_0_1 := HQ4_0.out.cell 1
  have z4_0 := HQ4_0.out.lt
  simp at c4_0_0 c4_0_1
  go_wp2_with fail
  refine (hO _).mono ?_
  rintro e w5 ⟨rfl, hb5⟩
  have HQ5_0 := Lib.hid (HQ4_0.out.below hb5 HQ4_0.out.lt)
  have HB5 := Lib.hid (HB4.out.trans (hb5.mono HB4.out.size))
  clear hb5 c4_0_0 c4_0_1 z4_0
  have c5_0_0 := HQ5_0.out.cell 0
  have c5_0_1 := HQ5_0.out.cell 1
  have z5_0 := HQ5_0.out.lt
  simp at c5_0_0 c5_0_1
  go_wp2_with fail
  refine (hRM _).mono ?_
  rintro e w6 ⟨rfl, hb6⟩
  have HQ6_0 := Lib.hid (HQ5_0.out.below hb6 HQ5_0.out.lt)
  have HB6 := Lib.hid (HB5.out.trans (hb6.mono HB5.out.size))
  clear hb6 c5_0_0 c5_0_1 z5_0
  have c6_0_0 := HQ6_0.out.cell 0
  have c6_0_1 := HQ6_0.out.cell 1
  have z6_0 := HQ6_0.out.lt
  simp at c6_0_0 c6_0_1
  go_wp2_with fail
  refine (hL2 _).mono ?_
  rintro e w7 ⟨rfl, hb7⟩
  have HQ7_0 := Lib.hid (HQ6_0.out.below hb7 HQ6_0.out.lt)
  have HB7 := Lib.hid (HB6.out.trans (hb7.mono HB6.out.size))
  clear hb7 c6_0_0 c6_0_1 z6_0
  have c7_0_0 := HQ7_0.out.cell 0
  have c7_0_1 := HQ7_0.out.cell 1
  have z7_0 := HQ7_0.out.lt
  simp at c7_0_0 c7_0_1
  go_wp2_with fail
  refine (Code_errno 1 _ (HG.out.below HB7.out)).mono ?_
  rintro e w8 ⟨rfl, hb8⟩
  have HQ8_0 := Lib.hid (HQ7_0.out.below hb8 HQ7_0.out.lt)
  have HB8 := Lib.hid (HB7.out.trans (hb8.mono HB7.out.size))
  clear hb8 c7_0_0 c7_0_1 z7_0
  have c8_0_0 := HQ8_0.out.cell 0
  have c8_0_1 := HQ8_0.out.cell 1
  have z8_0 := HQ8_0.out.lt
  simp at c8_0_0 c8_0_1
  go_wp2_with fail
  go_ret
  exact ⟨by first | rfl | simp, HB8.out⟩
set_option maxRecDepth 20000 in
set_option maxHeartbeats 8000000 in
theorem DDays_low2 {P p c : Nat} {n : Int} (h : okB p 2 P 0 0) (hc : okB p 2 P 0 c) (hd : n < 0) (hn : -2147483648 ≤ n ∧ n ≤ 2147483647) (w : World) (hw : Lens w) (hg : Laid w) :
    Calls Tryd.prog 4 #[rv p 2, .int .i64 (P : Int), .int .i32 n, .int .u64 (c : Int)] w (Ret (.bool true) w) := by
  have HW := Lib.hid hw
  have HG := Lib.hid hg
  have hL := fun W => lright_yes h W
  have hL2 := fun W => lright_yes hc W
  have hD := fun W (hW : Lens W) => Day_no (p := p) (b := 2) (c := c) (P := P) (n := n) (fun k => by omega) hn W hW
  obtain ⟨hr, h0, h1, -, -, -⟩ := h
  have hM := fun W => Month_yes (P := P) (by omega) hr W
  have hRM := fun W => RMonth_any (P := P) true (by omega) hr.1 W
  obtain ⟨m, hm⟩ : ∃ m, monthN (P * p) = m := ⟨_, rfl⟩
  rw [hm] at hM hRM
  have hO := fun W => own_2 p W
  unfold eno at hD
  unfold rv at hL hL2 hD hM hO ⊢
  unfold rr at hRM hO
  clear hr h0 h1 hm hn hw hg hc
  go_enter Tryd.func4, Tryd.ntmps4
  have HQ0 := Lib.hid (Blk.new w 24 #[.int .u32 (p : Int), .int .u8 2])
  have HB0 := Lib.hid (b_alloc w (.cells #[.int .u32 (p : Int), .int .u8 2] 24))
  go_wp2_with fail
  refine (awake9 _).mono ?_
  rintro e w1 ⟨rfl, hb1⟩
  have HQ1_0 := Lib.hid (HQ0.out.below hb1 HQ0.out.lt)
  have HB1 := Lib.hid (HB0.out.trans (hb1.mono HB0.out.size))
  clear hb1
  have c1_0_0 := HQ1_0.out.cell 0
  have c1_0_1 := HQ1_0.out.cell 1
  have z1_0 := HQ1_0.out.lt
  simp at c1_0_0 c1_0_1
  go_wp2_with fail
  refine (hD _ (HW.out.below HB1.out)).mono ?_
  rintro e w2 ⟨rfl, hb2⟩
  have HQ2_0 := Lib.hid (HQ1_0.out.below hb2 HQ1_0.out.lt)
  have HB2 := Lib.hid (HB1.out.trans (hb2.mono HB1.out.size))
  clear hb2 c1_0_0 c1_0_1 z1_0
  have c2_0_0 := HQ2_0.out.cell 0
  have c2_0_1 := HQ2_0.out.cell 1
  have z2_0 := HQ2_0.out.lt
  simp at c2_0_0 c2_0_1
  go_wp2_with fail
  refine (hM _).mono ?_
  rintro e w3 ⟨rfl, hb3⟩
  have HQ3_0 := Lib.hid (HQ2_0.out.below hb3 HQ2_0.out.lt)
  have HB3 := Lib.hid (HB2.out.trans (hb3.mono HB2.out.size))
  clear hb3 c2_0_0 c2_0_1 z2_0
  have c3_0_0 := HQ3_0.out.cell 0
  have c3_0_1 := HQ3_0.out.cell 1
  have z3_0 := HQ3_0.out.lt
  simp at c3_0_0 c3_0_1
  go_wp2_with fail
  refine (hL _).mono ?_
  rintro e w4 ⟨rfl, hb4⟩
  have HQ4_0 := Lib.hid (HQ3_0.out.below hb4 HQ3_0.out.lt)
  have HB4 := Lib.hid (HB3.out.trans (hb4.mono HB3.out.size))
  clear hb4 c3_0_0 c3_0_1 z3_0
  have c4_0_0 := HQ4_0.out.cell 0
  have c4_0_1 := HQ4_0.out.cell 1
  have z4_0 := HQ4_0.out.lt
  simp at c4_0_0 c4_0_1
  go_wp2_with fail
  refine (hO _).mono ?_
  rintro e w5 ⟨rfl, hb5⟩
  have HQ5_0 := Lib.hid (HQ4_0.out.below hb5 HQ4_0.out.lt)
  have HB5 := Lib.hid (HB4.out.trans (hb5.mono HB4.out.size))
  clear hb5 c4_0_0 c4_0_1 z4_0
  have c5_0_0 := HQ5_0.out.cell 0
  have c5_0_1 := HQ5_0.out.cell 1
  have z5_0 := HQ5_0.out.lt
  simp at c5_0_0 c5_0_1
  go_wp2_with fail
  refine (hRM _).mono ?_
  rintro e w6 ⟨rfl, hb6⟩
  have HQ6_0 := Lib.hid (HQ5_0.out.below hb6 HQ5_0.out.lt)
  have HB6 := Lib.hid (HB5.out.trans (hb6.mono HB5.out.size))
  clear hb6 c5_0_0 c5_0_1 z5_0
  have c6_0_0 := HQ6_0.out.cell 0
  have c6_0_1 := HQ6_0.out.cell 1
  have z6_0 := HQ6_0.out.lt
  simp at c6_0_0 c6_0_1
  go_wp2_with fail
  refine (hL2 _).mono ?_
  rintro e w7 ⟨rfl, hb7⟩
  have HQ7_0 := Lib.hid (HQ6_0.out.below hb7 HQ6_0.out.lt)
  have HB7 := Lib.hid (HB6.out.trans (hb7.mono HB6.out.size))
  clear hb7 c6_0_0 c6_0_1 z6_0
  have c7_0_0 := HQ7_0.out.cell 0
  have c7_0_1 := HQ7_0.out.cell 1
  have z7_0 := HQ7_0.out.lt
  simp at c7_0_0 c7_0_1
  go_wp2_with fail
  refine (Code_errno 1 _ (HG.out.below HB7.out)).mono ?_
  rintro e w8 ⟨rfl, hb8⟩
  have HQ8_0 := Lib.hid (HQ7_0.out.below hb8 HQ7_0.out.lt)
  have HB8 := Lib.hid (HB7.out.trans (hb8.mono HB7.out.size))
  clear hb8 c7_0_0 c7_0_1 z7_0
  have c8_0_0 := HQ8_0.out.cell 0
  have c8_0_1 := HQ8_0.out.cell 1
  have z8_0 := HQ8_0.out.lt
  simp at c8_0_0 c8_0_1
  go_wp2_with fail
  go_ret
  exact ⟨by first | rfl | simp, HB8.out⟩
set_option maxRecDepth 20000 in
set_option maxHeartbeats 8000000 in
theorem DDays_high2 {P p c : Nat} {n : Int} (h : okB p 2 P 0 0) (hc : okB p 2 P 0 c) (hd0 : ¬ n < 0) (hd : 3652058 ≤ n) (hn : -2147483648 ≤ n ∧ n ≤ 2147483647) (w : World) (hw : Lens w) (hg : Laid w) :
    Calls Tryd.prog 4 #[rv p 2, .int .i64 (P : Int), .int .i32 n, .int .u64 (c : Int)] w (Ret (.bool true) w) := by
  have HW := Lib.hid hw
  have HG := Lib.hid hg
  have hL := fun W => lright_yes h W
  have hL2 := fun W => lright_yes hc W
  have hD := fun W (hW : Lens W) => Day_no (p := p) (b := 2) (c := c) (P := P) (n := n) (fun k => by omega) hn W hW
  obtain ⟨hr, h0, h1, -, -, -⟩ := h
  have hM := fun W => Month_yes (P := P) (by omega) hr W
  have hRM := fun W => RMonth_any (P := P) true (by omega) hr.1 W
  obtain ⟨m, hm⟩ : ∃ m, monthN (P * p) = m := ⟨_, rfl⟩
  rw [hm] at hM hRM
  have hO := fun W => own_2 p W
  unfold eno at hD
  unfold rv at hL hL2 hD hM hO ⊢
  unfold rr at hRM hO
  clear hr h0 h1 hm hn hw hg hc
  go_enter Tryd.func4, Tryd.ntmps4
  have HQ0 := Lib.hid (Blk.new w 24 #[.int .u32 (p : Int), .int .u8 2])
  have HB0 := Lib.hid (b_alloc w (.cells #[.int .u32 (p : Int), .int .u8 2] 24))
  go_wp2_with fail
  refine (awake9 _).mono ?_
  rintro e w1 ⟨rfl, hb1⟩
  have HQ1_0 := Lib.hid (HQ0.out.below hb1 HQ0.out.lt)
  have HB1 := Lib.hid (HB0.out.trans (hb1.mono HB0.out.size))
  clear hb1
  have c1_0_0 := HQ1_0.out.cell 0
  have c1_0_1 := HQ1_0.out.cell 1
  have z1_0 := HQ1_0.out.lt
  simp at c1_0_0 c1_0_1
  go_wp2_with fail
  refine (hD _ (HW.out.below HB1.out)).mono ?_
  rintro e w2 ⟨rfl, hb2⟩
  have HQ2_0 := Lib.hid (HQ1_0.out.below hb2 HQ1_0.out.lt)
  have HB2 := Lib.hid (HB1.out.trans (hb2.mono HB1.out.size))
  clear hb2 c1_0_0 c1_0_1 z1_0
  have c2_0_0 := HQ2_0.out.cell 0
  have c2_0_1 := HQ2_0.out.cell 1
  have z2_0 := HQ2_0.out.lt
  simp at c2_0_0 c2_0_1
  go_wp2_with fail
  refine (hM _).mono ?_
  rintro e w3 ⟨rfl, hb3⟩
  have HQ3_0 := Lib.hid (HQ2_0.out.below hb3 HQ2_0.out.lt)
  have HB3 := Lib.hid (HB2.out.trans (hb3.mono HB2.out.size))
  clear hb3 c2_0_0 c2_0_1 z2_0
  have c3_0_0 := HQ3_0.out.cell 0
  have c3_0_1 := HQ3_0.out.cell 1
  have z3_0 := HQ3_0.out.lt
  simp at c3_0_0 c3_0_1
  go_wp2_with fail
  refine (hL _).mono ?_
  rintro e w4 ⟨rfl, hb4⟩
  have HQ4_0 := Lib.hid (HQ3_0.out.below hb4 HQ3_0.out.lt)
  have HB4 := Lib.hid (HB3.out.trans (hb4.mono HB3.out.size))
  clear hb4 c3_0_0 c3_0_1 z3_0
  have c4_0_0 := HQ4_0.out.cell 0
  have c4_0_1 := HQ4_0.out.cell 1
  have z4_0 := HQ4_0.out.lt
  simp at c4_0_0 c4_0_1
  go_wp2_with fail
  refine (hO _).mono ?_
  rintro e w5 ⟨rfl, hb5⟩
  have HQ5_0 := Lib.hid (HQ4_0.out.below hb5 HQ4_0.out.lt)
  have HB5 := Lib.hid (HB4.out.trans (hb5.mono HB4.out.size))
  clear hb5 c4_0_0 c4_0_1 z4_0
  have c5_0_0 := HQ5_0.out.cell 0
  have c5_0_1 := HQ5_0.out.cell 1
  have z5_0 := HQ5_0.out.lt
  simp at c5_0_0 c5_0_1
  go_wp2_with fail
  refine (hRM _).mono ?_
  rintro e w6 ⟨rfl, hb6⟩
  have HQ6_0 := Lib.hid (HQ5_0.out.below hb6 HQ5_0.out.lt)
  have HB6 := Lib.hid (HB5.out.trans (hb6.mono HB5.out.size))
  clear hb6 c5_0_0 c5_0_1 z5_0
  have c6_0_0 := HQ6_0.out.cell 0
  have c6_0_1 := HQ6_0.out.cell 1
  have z6_0 := HQ6_0.out.lt
  simp at c6_0_0 c6_0_1
  go_wp2_with fail
  refine (hL2 _).mono ?_
  rintro e w7 ⟨rfl, hb7⟩
  have HQ7_0 := Lib.hid (HQ6_0.out.below hb7 HQ6_0.out.lt)
  have HB7 := Lib.hid (HB6.out.trans (hb7.mono HB6.out.size))
  clear hb7 c6_0_0 c6_0_1 z6_0
  have c7_0_0 := HQ7_0.out.cell 0
  have c7_0_1 := HQ7_0.out.cell 1
  have z7_0 := HQ7_0.out.lt
  simp at c7_0_0 c7_0_1
  go_wp2_with fail
  refine (Code_errno 1 _ (HG.out.below HB7.out)).mono ?_
  rintro e w8 ⟨rfl, hb8⟩
  have HQ8_0 := Lib.hid (HQ7_0.out.below hb8 HQ7_0.out.lt)
  have HB8 := Lib.hid (HB7.out.trans (hb8.mono HB7.out.size))
  clear hb8 c7_0_0 c7_0_1 z7_0
  have c8_0_0 := HQ8_0.out.cell 0
  have c8_0_1 := HQ8_0.out.cell 1
  have z8_0 := HQ8_0.out.lt
  simp at c8_0_0 c8_0_1
  go_wp2_with fail
  go_ret
  exact ⟨by first | rfl | simp, HB8.out⟩
set_option maxRecDepth 20000 in
set_option maxHeartbeats 8000000 in
theorem DDays_ok2 {P p c : Nat} {n : Int} (hc0 : okB p 2 P 0 c) (d0 : 0 ≤ n) (d1 : n < 3652058) (w : World) (hw : Lens w) (hg : Laid w) :
    Calls Tryd.prog 4 #[rv p 2, .int .i64 (P : Int), .int .i32 n, .int .u64 (c : Int)] w (Ret (.bool true) w) := by
  have HW := Lib.hid hw
  have hL2 := fun W => lright_yes hc0 W
  obtain ⟨hr, h0, h1, -, -, hc⟩ := hc0
  have hL := fun W => lright_yes (p := p) (b := 2) (P := (P : Int)) (d := 0) (c := 0) ⟨hr, h0, h1, by omega, by omega, by decide⟩ W
  obtain ⟨D, hD1, hD3⟩ := one_nat (b := 2) d0 d1
  have hD := fun W (hW : Lens W) => Day_yes (P := P) (p := p) (c := c) (n := n) (by omega) hr d0 d1 hc hD1 hD3 W hW
  have hRD := fun W => RDay_2 (P := P) (p := p) (c := c) (n := n) (by omega) hr.1 d0 d1 hc hD1 hD3 W
  rw [show unitN 2 = 360000000 from rfl] at hD
  obtain ⟨q, hq⟩ : ∃ q, (P * p * D + c) / 360000000 = q := ⟨_, rfl⟩
  obtain ⟨s, hs⟩ : ∃ s, (P * p * D + c) % 360000000 = s := ⟨_, rfl⟩
  rw [hq, hs] at hD hRD
  have hM := fun W => Month_yes (P := P) (by omega) hr W
  have hRM := fun W => RMonth_any (P := P) true (by omega) hr.1 W
  obtain ⟨m, hm⟩ : ∃ m, monthN (P * p) = m := ⟨_, rfl⟩
  rw [hm] at hM hRM
  have hO := fun W => own_2 p W
  have i1 : ¬ n < 0 := by omega
  have i2 : ¬ 3652058 ≤ n := by omega
  unfold rv at hL hL2 hD hM hO ⊢
  unfold rr at hRM hO hRD
  clear hr h0 h1 hm hw hg hc hD1 hD3 hq hs
  go_enter Tryd.func4, Tryd.ntmps4
  have HQ0 := Lib.hid (Blk.new w 24 #[.int .u32 (p : Int), .int .u8 2])
  have HB0 := Lib.hid (b_alloc w (.cells #[.int .u32 (p : Int), .int .u8 2] 24))
  go_wp2_with fail
  refine (awake9 _).mono ?_
  rintro e w1 ⟨rfl, hb1⟩
  have HQ1_0 := Lib.hid (HQ0.out.below hb1 HQ0.out.lt)
  have HB1 := Lib.hid (HB0.out.trans (hb1.mono HB0.out.size))
  clear hb1
  have c1_0_0 := HQ1_0.out.cell 0
  have c1_0_1 := HQ1_0.out.cell 1
  have z1_0 := HQ1_0.out.lt
  simp at c1_0_0 c1_0_1
  go_wp2_with fail
  refine (hD _ (HW.out.below HB1.out)).mono ?_
  rintro e w2 ⟨rfl, hb2⟩
  have HQ2_0 := Lib.hid (HQ1_0.out.below hb2 HQ1_0.out.lt)
  have HB2 := Lib.hid (HB1.out.trans (hb2.mono HB1.out.size))
  clear hb2 c1_0_0 c1_0_1 z1_0
  have c2_0_0 := HQ2_0.out.cell 0
  have c2_0_1 := HQ2_0.out.cell 1
  have z2_0 := HQ2_0.out.lt
  simp at c2_0_0 c2_0_1
  go_wp2_with fail
  refine (hM _).mono ?_
  rintro e w3 ⟨rfl, hb3⟩
  have HQ3_0 := Lib.hid (HQ2_0.out.below hb3 HQ2_0.out.lt)
  have HB3 := Lib.hid (HB2.out.trans (hb3.mono HB2.out.size))
  clear hb3 c2_0_0 c2_0_1 z2_0
  have c3_0_0 := HQ3_0.out.cell 0
  have c3_0_1 := HQ3_0.out.cell 1
  have z3_0 := HQ3_0.out.lt
  simp at c3_0_0 c3_0_1
  go_wp2_with fail
  refine (hL _).mono ?_
  rintro e w4 ⟨rfl, hb4⟩
  have HQ4_0 := Lib.hid (HQ3_0.out.below hb4 HQ3_0.out.lt)
  have HB4 := Lib.hid (HB3.out.trans (hb4.mono HB3.out.size))
  clear hb4 c3_0_0 c3_0_1 z3_0
  have c4_0_0 := HQ4_0.out.cell 0
  have c4_0_1 := HQ4_0.out.cell 1
  have z4_0 := HQ4_0.out.lt
  simp at c4_0_0 c4_0_1
  go_wp2_with fail
  refine (hO _).mono ?_
  rintro e w5 ⟨rfl, hb5⟩
  have HQ5_0 := Lib.hid (HQ4_0.out.below hb5 HQ4_0.out.lt)
  have HB5 := Lib.hid (HB4.out.trans (hb5.mono HB4.out.size))
  clear hb5 c4_0_0 c4_0_1 z4_0
  have c5_0_0 := HQ5_0.out.cell 0
  have c5_0_1 := HQ5_0.out.cell 1
  have z5_0 := HQ5_0.out.lt
  simp at c5_0_0 c5_0_1
  go_wp2_with fail
  refine (hRM _).mono ?_
  rintro e w6 ⟨rfl, hb6⟩
  have HQ6_0 := Lib.hid (HQ5_0.out.below hb6 HQ5_0.out.lt)
  have HB6 := Lib.hid (HB5.out.trans (hb6.mono HB5.out.size))
  clear hb6 c5_0_0 c5_0_1 z5_0
  have c6_0_0 := HQ6_0.out.cell 0
  have c6_0_1 := HQ6_0.out.cell 1
  have z6_0 := HQ6_0.out.lt
  simp at c6_0_0 c6_0_1
  go_wp2_with fail
  refine (hL2 _).mono ?_
  rintro e w7 ⟨rfl, hb7⟩
  have HQ7_0 := Lib.hid (HQ6_0.out.below hb7 HQ6_0.out.lt)
  have HB7 := Lib.hid (HB6.out.trans (hb7.mono HB6.out.size))
  clear hb7 c6_0_0 c6_0_1 z6_0
  have c7_0_0 := HQ7_0.out.cell 0
  have c7_0_1 := HQ7_0.out.cell 1
  have z7_0 := HQ7_0.out.lt
  simp at c7_0_0 c7_0_1
  go_wp2_with fail
  refine (hO _).mono ?_
  rintro e w8 ⟨rfl, hb8⟩
  have HQ8_0 := Lib.hid (HQ7_0.out.below hb8 HQ7_0.out.lt)
  have HB8 := Lib.hid (HB7.out.trans (hb8.mono HB7.out.size))
  clear hb8 c7_0_0 c7_0_1 z7_0
  have c8_0_0 := HQ8_0.out.cell 0
  have c8_0_1 := HQ8_0.out.cell 1
  have z8_0 := HQ8_0.out.lt
  simp at c8_0_0 c8_0_1
  go_wp2_with fail
  refine (hRD _).mono ?_
  rintro e w9 ⟨rfl, hb9⟩
  have HQ9_0 := Lib.hid (HQ8_0.out.below hb9 HQ8_0.out.lt)
  have HB9 := Lib.hid (HB8.out.trans (hb9.mono HB8.out.size))
  clear hb9 c8_0_0 c8_0_1 z8_0
  have c9_0_0 := HQ9_0.out.cell 0
  have c9_0_1 := HQ9_0.out.cell 1
  have z9_0 := HQ9_0.out.lt
  simp at c9_0_0 c9_0_1
  go_wp2_with fail
  go_ret
  exact ⟨by first | rfl | simp, HB9.out⟩
theorem YDays_any {p b c : Nat} {P n : Int} (hn : -2147483648 ≤ n ∧ n ≤ 2147483647) (w : World) (hw : Lens w) (hg : Laid w) :
    Calls Tryd.prog 4 #[rv p b, .int .i64 P, .int .i32 n, .int .u64 (c : Int)] w (Ret (.bool true) w) := by
  by_cases h : okB p b P 0 0
  · obtain ⟨Q, rfl⟩ : ∃ k : Nat, P = (k : Int) := ⟨P.toNat, by have := h.2.1; omega⟩
    rcases h.1.2 with rfl | rfl
    · by_cases hc : okB p 1 Q 0 c
      · by_cases d0 : n < 0
        · exact DDays_low1 h hc d0 hn w hw hg
        · by_cases d1 : n < 3652058
          · exact DDays_ok1 hc (by omega) d1 w hw hg
          · exact DDays_high1 h hc d0 (by omega) hn w hw hg
      · exact DDays_carry1 h hc hn w hw hg
    · by_cases hc : okB p 2 Q 0 c
      · by_cases d0 : n < 0
        · exact DDays_low2 h hc d0 hn w hw hg
        · by_cases d1 : n < 3652058
          · exact DDays_ok2 hc (by omega) d1 w hw hg
          · exact DDays_high2 h hc d0 (by omega) hn w hw hg
      · exact DDays_carry2 h hc hn w hw hg
  · exact DDays_base h hn w hw hg
end Go.Proofs.YtbfekonlgbolcaaDoor
