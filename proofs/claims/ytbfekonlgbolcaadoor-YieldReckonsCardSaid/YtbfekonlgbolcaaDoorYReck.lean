/-
  YieldReckons: the walk. Conditions: the numbers' kinds; errors.errorType is laid.
-/
import Derived.Test.YtbfekonlgbolcaaDoorRefY
import Derived.Test.YtbfekonlgbolcaaDoorCodeC
namespace Go.Proofs.YtbfekonlgbolcaaDoor
open Go.RowKit Go.BigFrame

set_option maxRecDepth 20000 in
set_option maxHeartbeats 8000000 in
theorem Reck_ok1 {P p d c : Nat} (h : okB p 1 P d c) (w : World) :
    Calls Tryd.prog 3 #[rv p 1, .int .i64 (P : Int), .int .i64 (d : Int), .int .u64 (c : Int)] w (Ret (.bool true) w) := by
  have hL := fun W => lright_yes h W
  obtain ⟨hr, h0, h1, h2, h3, hc⟩ := h
  have hD := fun W => Days_yes (P := P) (d := d) (c := c) (by omega) hr (by omega) hc W
  have hU := fun W => Unit_yes hr W
  have hY := fun W => YR_yes hr W
  rw [show unitN 1 = 365000000 from rfl] at hD hU hc
  have hRD := fun W => RDays_any (P := P) (p := p) (d := d) (c := c) (U := 365000000) (th := false) (by omega) hr.1 (by omega) (by omega) (by omega) hc (fun W => RUnit_1 p W) W
  have hs := Nat.mod_lt (P * p * d + c) (show 0 < 365000000 by omega)
  obtain ⟨q, hqe⟩ : ∃ q, (P * p * d + c) / 365000000 = q := ⟨_, rfl⟩
  obtain ⟨s, hse⟩ : ∃ s, (P * p * d + c) % 365000000 = s := ⟨_, rfl⟩
  rw [hqe, hse] at hD hRD
  rw [hse] at hs
  have i1 : (p : Int) ≤ 1000000 := by have := hr.1; omega
  have i2 : (s : Int) < 365000000 := by omega
  have hO := fun W => own_1 p W
  have hRU := fun W => RUnit_1 p W
  unfold rv at hD hU hY hL hO ⊢
  unfold rr at hRD hO hRU
  clear hr h0 h1 h2 h3 hc hs hqe hse
  go_enter Tryd.func3, Tryd.ntmps3
  have HQ0 := Lib.hid (Blk.new w 24 #[.int .u32 (p : Int), .int .u8 1])
  have HB0 := Lib.hid (b_alloc w (.cells #[.int .u32 (p : Int), .int .u8 1] 24))
  go_wp2_with fail
  refine (awake9 _).mono ?_
  rintro e w1 ⟨rfl, hb1⟩
  have HQ1_0 := Lib.hid (HQ0.out.below hb1 HQ0.out.lt)
  have HB1 := Lib.hid (HB0.out.trans (hb1.mono HB0.out.size))
  clear hb1
  have c1_0_0 := HQ1_0.out.cell 0
  have c1_0_1 := HQ1_0.out.cell 1
  have z1_0 := HQ1_0.out.lt
  simp at c1_0_0 c1_0_1
  go_wp2_with fail
  refine (hD _).mono ?_
  rintro e w2 ⟨rfl, hb2⟩
  have HQ2_0 := Lib.hid (HQ1_0.out.below hb2 HQ1_0.out.lt)
  have HB2 := Lib.hid (HB1.out.trans (hb2.mono HB1.out.size))
  clear hb2 c1_0_0 c1_0_1 z1_0
  have c2_0_0 := HQ2_0.out.cell 0
  have c2_0_1 := HQ2_0.out.cell 1
  have z2_0 := HQ2_0.out.lt
  simp at c2_0_0 c2_0_1
  go_wp2_with fail
  refine (hO _).mono ?_
  rintro e w3 ⟨rfl, hb3⟩
  have HQ3_0 := Lib.hid (HQ2_0.out.below hb3 HQ2_0.out.lt)
  have HB3 := Lib.hid (HB2.out.trans (hb3.mono HB2.out.size))
  clear hb3 c2_0_0 c2_0_1 z2_0
  have c3_0_0 := HQ3_0.out.cell 0
  have c3_0_1 := HQ3_0.out.cell 1
  have z3_0 := HQ3_0.out.lt
  simp at c3_0_0 c3_0_1
  go_wp2_with fail
  refine (hRU _).mono ?_
  rintro e w4 ⟨rfl, hb4⟩
  have HQ4_0 := Lib.hid (HQ3_0.out.below hb4 HQ3_0.out.lt)
  have HB4 := Lib.hid (HB3.out.trans (hb4.mono HB3.out.size))
  clear hb4 c3_0_0 c3_0_1 z3_0
  have c4_0_0 := HQ4_0.out.cell 0
  have c4_0_1 := HQ4_0.out.cell 1
  have z4_0 := HQ4_0.out.lt
  simp at c4_0_0 c4_0_1
  go_wp2_with fail
  refine (hU _).mono ?_
  rintro e w5 ⟨rfl, hb5⟩
  have HQ5_0 := Lib.hid (HQ4_0.out.below hb5 HQ4_0.out.lt)
  have HB5 := Lib.hid (HB4.out.trans (hb5.mono HB4.out.size))
  clear hb5 c4_0_0 c4_0_1 z4_0
  have c5_0_0 := HQ5_0.out.cell 0
  have c5_0_1 := HQ5_0.out.cell 1
  have z5_0 := HQ5_0.out.lt
  simp at c5_0_0 c5_0_1
  go_wp2_with fail
  refine (hY _).mono ?_
  rintro e w6 ⟨rfl, hb6⟩
  have HQ6_0 := Lib.hid (HQ5_0.out.below hb6 HQ5_0.out.lt)
  have HB6 := Lib.hid (HB5.out.trans (hb6.mono HB5.out.size))
  clear hb6 c5_0_0 c5_0_1 z5_0
  have c6_0_0 := HQ6_0.out.cell 0
  have c6_0_1 := HQ6_0.out.cell 1
  have z6_0 := HQ6_0.out.lt
  simp at c6_0_0 c6_0_1
  go_wp2_with fail
  refine (hL _).mono ?_
  rintro e w7 ⟨rfl, hb7⟩
  have HQ7_0 := Lib.hid (HQ6_0.out.below hb7 HQ6_0.out.lt)
  have HB7 := Lib.hid (HB6.out.trans (hb7.mono HB6.out.size))
  clear hb7 c6_0_0 c6_0_1 z6_0
  have c7_0_0 := HQ7_0.out.cell 0
  have c7_0_1 := HQ7_0.out.cell 1
  have z7_0 := HQ7_0.out.lt
  simp at c7_0_0 c7_0_1
  go_wp2_with fail
  refine (hO _).mono ?_
  rintro e w8 ⟨rfl, hb8⟩
  have HQ8_0 := Lib.hid (HQ7_0.out.below hb8 HQ7_0.out.lt)
  have HB8 := Lib.hid (HB7.out.trans (hb8.mono HB7.out.size))
  clear hb8 c7_0_0 c7_0_1 z7_0
  have c8_0_0 := HQ8_0.out.cell 0
  have c8_0_1 := HQ8_0.out.cell 1
  have z8_0 := HQ8_0.out.lt
  simp at c8_0_0 c8_0_1
  go_wp2_with fail
  refine (hRD _).mono ?_
  rintro e w9 ⟨rfl, hb9⟩
  have HQ9_0 := Lib.hid (HQ8_0.out.below hb9 HQ8_0.out.lt)
  have HB9 := Lib.hid (HB8.out.trans (hb9.mono HB8.out.size))
  clear hb9 c8_0_0 c8_0_1 z8_0
  have c9_0_0 := HQ9_0.out.cell 0
  have c9_0_1 := HQ9_0.out.cell 1
  have z9_0 := HQ9_0.out.lt
  simp at c9_0_0 c9_0_1
  go_wp2_with fail
  refine (hU _).mono ?_
  rintro e w10 ⟨rfl, hb10⟩
  have HQ10_0 := Lib.hid (HQ9_0.out.below hb10 HQ9_0.out.lt)
  have HB10 := Lib.hid (HB9.out.trans (hb10.mono HB9.out.size))
  clear hb10 c9_0_0 c9_0_1 z9_0
  have c10_0_0 := HQ10_0.out.cell 0
  have c10_0_1 := HQ10_0.out.cell 1
  have z10_0 := HQ10_0.out.lt
  simp at c10_0_0 c10_0_1
  go_wp2_with fail
  go_ret
  exact ⟨by first | rfl | simp [i2] | simp, HB10.out⟩
set_option maxRecDepth 20000 in
set_option maxHeartbeats 8000000 in
theorem Reck_no1 {p c : Nat} {P d : Int} (hr : rateB p 1) (h : ¬ okB p 1 P d c) (w : World) (hg : Laid w) :
    Calls Tryd.prog 3 #[rv p 1, .int .i64 P, .int .i64 d, .int .u64 (c : Int)] w (Ret (.bool true) w) := by
  have HG := Lib.hid hg
  have hL := fun W => lright_no h W
  have hD := fun W => Days_no (P := P) (d := d) (c := c) (p := p) (b := 1) h W
  have hU := fun W => Unit_yes hr W
  have hY := fun W => YR_yes hr W
  rw [show unitN 1 = 365000000 from rfl] at hU
  have i1 : (p : Int) ≤ 1000000 := by have := hr.1; omega
  have hO := fun W => own_1 p W
  have hRU := fun W => RUnit_1 p W
  unfold eno at hD
  unfold rv at hD hU hY hL hO ⊢
  unfold rr at hO hRU
  clear hr h hg
  go_enter Tryd.func3, Tryd.ntmps3
  have HQ0 := Lib.hid (Blk.new w 24 #[.int .u32 (p : Int), .int .u8 1])
  have HB0 := Lib.hid (b_alloc w (.cells #[.int .u32 (p : Int), .int .u8 1] 24))
  go_wp2_with fail
  refine (awake9 _).mono ?_
  rintro e w1 ⟨rfl, hb1⟩
  have HQ1_0 := Lib.hid (HQ0.out.below hb1 HQ0.out.lt)
  have HB1 := Lib.hid (HB0.out.trans (hb1.mono HB0.out.size))
  clear hb1
  have c1_0_0 := HQ1_0.out.cell 0
  have c1_0_1 := HQ1_0.out.cell 1
  have z1_0 := HQ1_0.out.lt
  simp at c1_0_0 c1_0_1
  go_wp2_with fail
  refine (hD _).mono ?_
  rintro e w2 ⟨rfl, hb2⟩
  have HQ2_0 := Lib.hid (HQ1_0.out.below hb2 HQ1_0.out.lt)
  have HB2 := Lib.hid (HB1.out.trans (hb2.mono HB1.out.size))
  clear hb2 c1_0_0 c1_0_1 z1_0
  have c2_0_0 := HQ2_0.out.cell 0
  have c2_0_1 := HQ2_0.out.cell 1
  have z2_0 := HQ2_0.out.lt
  simp at c2_0_0 c2_0_1
  go_wp2_with fail
  refine (hO _).mono ?_
  rintro e w3 ⟨rfl, hb3⟩
  have HQ3_0 := Lib.hid (HQ2_0.out.below hb3 HQ2_0.out.lt)
  have HB3 := Lib.hid (HB2.out.trans (hb3.mono HB2.out.size))
  clear hb3 c2_0_0 c2_0_1 z2_0
  have c3_0_0 := HQ3_0.out.cell 0
  have c3_0_1 := HQ3_0.out.cell 1
  have z3_0 := HQ3_0.out.lt
  simp at c3_0_0 c3_0_1
  go_wp2_with fail
  refine (hRU _).mono ?_
  rintro e w4 ⟨rfl, hb4⟩
  have HQ4_0 := Lib.hid (HQ3_0.out.below hb4 HQ3_0.out.lt)
  have HB4 := Lib.hid (HB3.out.trans (hb4.mono HB3.out.size))
  clear hb4 c3_0_0 c3_0_1 z3_0
  have c4_0_0 := HQ4_0.out.cell 0
  have c4_0_1 := HQ4_0.out.cell 1
  have z4_0 := HQ4_0.out.lt
  simp at c4_0_0 c4_0_1
  go_wp2_with fail
  refine (hU _).mono ?_
  rintro e w5 ⟨rfl, hb5⟩
  have HQ5_0 := Lib.hid (HQ4_0.out.below hb5 HQ4_0.out.lt)
  have HB5 := Lib.hid (HB4.out.trans (hb5.mono HB4.out.size))
  clear hb5 c4_0_0 c4_0_1 z4_0
  have c5_0_0 := HQ5_0.out.cell 0
  have c5_0_1 := HQ5_0.out.cell 1
  have z5_0 := HQ5_0.out.lt
  simp at c5_0_0 c5_0_1
  go_wp2_with fail
  refine (hY _).mono ?_
  rintro e w6 ⟨rfl, hb6⟩
  have HQ6_0 := Lib.hid (HQ5_0.out.below hb6 HQ5_0.out.lt)
  have HB6 := Lib.hid (HB5.out.trans (hb6.mono HB5.out.size))
  clear hb6 c5_0_0 c5_0_1 z5_0
  have c6_0_0 := HQ6_0.out.cell 0
  have c6_0_1 := HQ6_0.out.cell 1
  have z6_0 := HQ6_0.out.lt
  simp at c6_0_0 c6_0_1
  go_wp2_with fail
  refine (hL _).mono ?_
  rintro e w7 ⟨rfl, hb7⟩
  have HQ7_0 := Lib.hid (HQ6_0.out.below hb7 HQ6_0.out.lt)
  have HB7 := Lib.hid (HB6.out.trans (hb7.mono HB6.out.size))
  clear hb7 c6_0_0 c6_0_1 z6_0
  have c7_0_0 := HQ7_0.out.cell 0
  have c7_0_1 := HQ7_0.out.cell 1
  have z7_0 := HQ7_0.out.lt
  simp at c7_0_0 c7_0_1
  go_wp2_with fail
  refine (Code_errno 1 _ (HG.out.below HB7.out)).mono ?_
  rintro e w8 ⟨rfl, hb8⟩
  have HQ8_0 := Lib.hid (HQ7_0.out.below hb8 HQ7_0.out.lt)
  have HB8 := Lib.hid (HB7.out.trans (hb8.mono HB7.out.size))
  clear hb8 c7_0_0 c7_0_1 z7_0
  have c8_0_0 := HQ8_0.out.cell 0
  have c8_0_1 := HQ8_0.out.cell 1
  have z8_0 := HQ8_0.out.lt
  simp at c8_0_0 c8_0_1
  go_wp2_with fail
  go_ret
  exact ⟨by first | rfl | simp, HB8.out⟩
set_option maxRecDepth 20000 in
set_option maxHeartbeats 8000000 in
theorem Reck_ok2 {P p d c : Nat} (h : okB p 2 P d c) (w : World) :
    Calls Tryd.prog 3 #[rv p 2, .int .i64 (P : Int), .int .i64 (d : Int), .int .u64 (c : Int)] w (Ret (.bool true) w) := by
  have hL := fun W => lright_yes h W
  obtain ⟨hr, h0, h1, h2, h3, hc⟩ := h
  have hD := fun W => Days_yes (P := P) (d := d) (c := c) (by omega) hr (by omega) hc W
  have hU := fun W => Unit_yes hr W
  have hY := fun W => YR_yes hr W
  rw [show unitN 2 = 360000000 from rfl] at hD hU hc
  have hRD := fun W => RDays_any (P := P) (p := p) (d := d) (c := c) (U := 360000000) (th := true) (by omega) hr.1 (by omega) (by omega) (by omega) hc (fun W => RUnit_2 p W) W
  have hs := Nat.mod_lt (P * p * d + c) (show 0 < 360000000 by omega)
  obtain ⟨q, hqe⟩ : ∃ q, (P * p * d + c) / 360000000 = q := ⟨_, rfl⟩
  obtain ⟨s, hse⟩ : ∃ s, (P * p * d + c) % 360000000 = s := ⟨_, rfl⟩
  rw [hqe, hse] at hD hRD
  rw [hse] at hs
  have i1 : (p : Int) ≤ 1000000 := by have := hr.1; omega
  have i2 : (s : Int) < 360000000 := by omega
  have hO := fun W => own_2 p W
  have hRU := fun W => RUnit_2 p W
  unfold rv at hD hU hY hL hO ⊢
  unfold rr at hRD hO hRU
  clear hr h0 h1 h2 h3 hc hs hqe hse
  go_enter Tryd.func3, Tryd.ntmps3
  have HQ0 := Lib.hid (Blk.new w 24 #[.int .u32 (p : Int), .int .u8 2])
  have HB0 := Lib.hid (b_alloc w (.cells #[.int .u32 (p : Int), .int .u8 2] 24))
  go_wp2_with fail
  refine (awake9 _).mono ?_
  rintro e w1 ⟨rfl, hb1⟩
  have HQ1_0 := Lib.hid (HQ0.out.below hb1 HQ0.out.lt)
  have HB1 := Lib.hid (HB0.out.trans (hb1.mono HB0.out.size))
  clear hb1
  have c1_0_0 := HQ1_0.out.cell 0
  have c1_0_1 := HQ1_0.out.cell 1
  have z1_0 := HQ1_0.out.lt
  simp at c1_0_0 c1_0_1
  go_wp2_with fail
  refine (hD _).mono ?_
  rintro e w2 ⟨rfl, hb2⟩
  have HQ2_0 := Lib.hid (HQ1_0.out.below hb2 HQ1_0.out.lt)
  have HB2 := Lib.hid (HB1.out.trans (hb2.mono HB1.out.size))
  clear hb2 c1_0_0 c1_0_1 z1_0
  have c2_0_0 := HQ2_0.out.cell 0
  have c2_0_1 := HQ2_0.out.cell 1
  have z2_0 := HQ2_0.out.lt
  simp at c2_0_0 c2_0_1
  go_wp2_with fail
  refine (hO _).mono ?_
  rintro e w3 ⟨rfl, hb3⟩
  have HQ3_0 := Lib.hid (HQ2_0.out.below hb3 HQ2_0.out.lt)
  have HB3 := Lib.hid (HB2.out.trans (hb3.mono HB2.out.size))
  clear hb3 c2_0_0 c2_0_1 z2_0
  have c3_0_0 := HQ3_0.out.cell 0
  have c3_0_1 := HQ3_0.out.cell 1
  have z3_0 := HQ3_0.out.lt
  simp at c3_0_0 c3_0_1
  go_wp2_with fail
  refine (hRU _).mono ?_
  rintro e w4 ⟨rfl, hb4⟩
  have HQ4_0 := Lib.hid (HQ3_0.out.below hb4 HQ3_0.out.lt)
  have HB4 := Lib.hid (HB3.out.trans (hb4.mono HB3.out.size))
  clear hb4 c3_0_0 c3_0_1 z3_0
  have c4_0_0 := HQ4_0.out.cell 0
  have c4_0_1 := HQ4_0.out.cell 1
  have z4_0 := HQ4_0.out.lt
  simp at c4_0_0 c4_0_1
  go_wp2_with fail
  refine (hU _).mono ?_
  rintro e w5 ⟨rfl, hb5⟩
  have HQ5_0 := Lib.hid (HQ4_0.out.below hb5 HQ4_0.out.lt)
  have HB5 := Lib.hid (HB4.out.trans (hb5.mono HB4.out.size))
  clear hb5 c4_0_0 c4_0_1 z4_0
  have c5_0_0 := HQ5_0.out.cell 0
  have c5_0_1 := HQ5_0.out.cell 1
  have z5_0 := HQ5_0.out.lt
  simp at c5_0_0 c5_0_1
  go_wp2_with fail
  refine (hY _).mono ?_
  rintro e w6 ⟨rfl, hb6⟩
  have HQ6_0 := Lib.hid (HQ5_0.out.below hb6 HQ5_0.out.lt)
  have HB6 := Lib.hid (HB5.out.trans (hb6.mono HB5.out.size))
  clear hb6 c5_0_0 c5_0_1 z5_0
  have c6_0_0 := HQ6_0.out.cell 0
  have c6_0_1 := HQ6_0.out.cell 1
  have z6_0 := HQ6_0.out.lt
  simp at c6_0_0 c6_0_1
  go_wp2_with fail
  refine (hL _).mono ?_
  rintro e w7 ⟨rfl, hb7⟩
  have HQ7_0 := Lib.hid (HQ6_0.out.below hb7 HQ6_0.out.lt)
  have HB7 := Lib.hid (HB6.out.trans (hb7.mono HB6.out.size))
  clear hb7 c6_0_0 c6_0_1 z6_0
  have c7_0_0 := HQ7_0.out.cell 0
  have c7_0_1 := HQ7_0.out.cell 1
  have z7_0 := HQ7_0.out.lt
  simp at c7_0_0 c7_0_1
  go_wp2_with fail
  refine (hO _).mono ?_
  rintro e w8 ⟨rfl, hb8⟩
  have HQ8_0 := Lib.hid (HQ7_0.out.below hb8 HQ7_0.out.lt)
  have HB8 := Lib.hid (HB7.out.trans (hb8.mono HB7.out.size))
  clear hb8 c7_0_0 c7_0_1 z7_0
  have c8_0_0 := HQ8_0.out.cell 0
  have c8_0_1 := HQ8_0.out.cell 1
  have z8_0 := HQ8_0.out.lt
  simp at c8_0_0 c8_0_1
  go_wp2_with fail
  refine (hRD _).mono ?_
  rintro e w9 ⟨rfl, hb9⟩
  have HQ9_0 := Lib.hid (HQ8_0.out.below hb9 HQ8_0.out.lt)
  have HB9 := Lib.hid (HB8.out.trans (hb9.mono HB8.out.size))
  clear hb9 c8_0_0 c8_0_1 z8_0
  have c9_0_0 := HQ9_0.out.cell 0
  have c9_0_1 := HQ9_0.out.cell 1
  have z9_0 := HQ9_0.out.lt
  simp at c9_0_0 c9_0_1
  go_wp2_with fail
  refine (hU _).mono ?_
  rintro e w10 ⟨rfl, hb10⟩
  have HQ10_0 := Lib.hid (HQ9_0.out.below hb10 HQ9_0.out.lt)
  have HB10 := Lib.hid (HB9.out.trans (hb10.mono HB9.out.size))
  clear hb10 c9_0_0 c9_0_1 z9_0
  have c10_0_0 := HQ10_0.out.cell 0
  have c10_0_1 := HQ10_0.out.cell 1
  have z10_0 := HQ10_0.out.lt
  simp at c10_0_0 c10_0_1
  go_wp2_with fail
  go_ret
  exact ⟨by first | rfl | simp [i2] | simp, HB10.out⟩
set_option maxRecDepth 20000 in
set_option maxHeartbeats 8000000 in
theorem Reck_no2 {p c : Nat} {P d : Int} (hr : rateB p 2) (h : ¬ okB p 2 P d c) (w : World) (hg : Laid w) :
    Calls Tryd.prog 3 #[rv p 2, .int .i64 P, .int .i64 d, .int .u64 (c : Int)] w (Ret (.bool true) w) := by
  have HG := Lib.hid hg
  have hL := fun W => lright_no h W
  have hD := fun W => Days_no (P := P) (d := d) (c := c) (p := p) (b := 2) h W
  have hU := fun W => Unit_yes hr W
  have hY := fun W => YR_yes hr W
  rw [show unitN 2 = 360000000 from rfl] at hU
  have i1 : (p : Int) ≤ 1000000 := by have := hr.1; omega
  have hO := fun W => own_2 p W
  have hRU := fun W => RUnit_2 p W
  unfold eno at hD
  unfold rv at hD hU hY hL hO ⊢
  unfold rr at hO hRU
  clear hr h hg
  go_enter Tryd.func3, Tryd.ntmps3
  have HQ0 := Lib.hid (Blk.new w 24 #[.int .u32 (p : Int), .int .u8 2])
  have HB0 := Lib.hid (b_alloc w (.cells #[.int .u32 (p : Int), .int .u8 2] 24))
  go_wp2_with fail
  refine (awake9 _).mono ?_
  rintro e w1 ⟨rfl, hb1⟩
  have HQ1_0 := Lib.hid (HQ0.out.below hb1 HQ0.out.lt)
  have HB1 := Lib.hid (HB0.out.trans (hb1.mono HB0.out.size))
  clear hb1
  have c1_0_0 := HQ1_0.out.cell 0
  have c1_0_1 := HQ1_0.out.cell 1
  have z1_0 := HQ1_0.out.lt
  simp at c1_0_0 c1_0_1
  go_wp2_with fail
  refine (hD _).mono ?_
  rintro e w2 ⟨rfl, hb2⟩
  have HQ2_0 := Lib.hid (HQ1_0.out.below hb2 HQ1_0.out.lt)
  have HB2 := Lib.hid (HB1.out.trans (hb2.mono HB1.out.size))
  clear hb2 c1_0_0 c1_0_1 z1_0
  have c2_0_0 := HQ2_0.out.cell 0
  have c2_0_1 := HQ2_0.out.cell 1
  have z2_0 := HQ2_0.out.lt
  simp at c2_0_0 c2_0_1
  go_wp2_with fail
  refine (hO _).mono ?_
  rintro e w3 ⟨rfl, hb3⟩
  have HQ3_0 := Lib.hid (HQ2_0.out.below hb3 HQ2_0.out.lt)
  have HB3 := Lib.hid (HB2.out.trans (hb3.mono HB2.out.size))
  clear hb3 c2_0_0 c2_0_1 z2_0
  have c3_0_0 := HQ3_0.out.cell 0
  have c3_0_1 := HQ3_0.out.cell 1
  have z3_0 := HQ3_0.out.lt
  simp at c3_0_0 c3_0_1
  go_wp2_with fail
  refine (hRU _).mono ?_
  rintro e w4 ⟨rfl, hb4⟩
  have HQ4_0 := Lib.hid (HQ3_0.out.below hb4 HQ3_0.out.lt)
  have HB4 := Lib.hid (HB3.out.trans (hb4.mono HB3.out.size))
  clear hb4 c3_0_0 c3_0_1 z3_0
  have c4_0_0 := HQ4_0.out.cell 0
  have c4_0_1 := HQ4_0.out.cell 1
  have z4_0 := HQ4_0.out.lt
  simp at c4_0_0 c4_0_1
  go_wp2_with fail
  refine (hU _).mono ?_
  rintro e w5 ⟨rfl, hb5⟩
  have HQ5_0 := Lib.hid (HQ4_0.out.below hb5 HQ4_0.out.lt)
  have HB5 := Lib.hid (HB4.out.trans (hb5.mono HB4.out.size))
  clear hb5 c4_0_0 c4_0_1 z4_0
  have c5_0_0 := HQ5_0.out.cell 0
  have c5_0_1 := HQ5_0.out.cell 1
  have z5_0 := HQ5_0.out.lt
  simp at c5_0_0 c5_0_1
  go_wp2_with fail
  refine (hY _).mono ?_
  rintro e w6 ⟨rfl, hb6⟩
  have HQ6_0 := Lib.hid (HQ5_0.out.below hb6 HQ5_0.out.lt)
  have HB6 := Lib.hid (HB5.out.trans (hb6.mono HB5.out.size))
  clear hb6 c5_0_0 c5_0_1 z5_0
  have c6_0_0 := HQ6_0.out.cell 0
  have c6_0_1 := HQ6_0.out.cell 1
  have z6_0 := HQ6_0.out.lt
  simp at c6_0_0 c6_0_1
  go_wp2_with fail
  refine (hL _).mono ?_
  rintro e w7 ⟨rfl, hb7⟩
  have HQ7_0 := Lib.hid (HQ6_0.out.below hb7 HQ6_0.out.lt)
  have HB7 := Lib.hid (HB6.out.trans (hb7.mono HB6.out.size))
  clear hb7 c6_0_0 c6_0_1 z6_0
  have c7_0_0 := HQ7_0.out.cell 0
  have c7_0_1 := HQ7_0.out.cell 1
  have z7_0 := HQ7_0.out.lt
  simp at c7_0_0 c7_0_1
  go_wp2_with fail
  refine (Code_errno 1 _ (HG.out.below HB7.out)).mono ?_
  rintro e w8 ⟨rfl, hb8⟩
  have HQ8_0 := Lib.hid (HQ7_0.out.below hb8 HQ7_0.out.lt)
  have HB8 := Lib.hid (HB7.out.trans (hb8.mono HB7.out.size))
  clear hb8 c7_0_0 c7_0_1 z7_0
  have c8_0_0 := HQ8_0.out.cell 0
  have c8_0_1 := HQ8_0.out.cell 1
  have z8_0 := HQ8_0.out.lt
  simp at c8_0_0 c8_0_1
  go_wp2_with fail
  go_ret
  exact ⟨by first | rfl | simp, HB8.out⟩
set_option maxRecDepth 20000 in
set_option maxHeartbeats 8000000 in
theorem Reck_rate {p b c : Nat} {P d : Int} (hp : ¬ p ≤ 1000000) (w : World) (hg : Laid w) :
    Calls Tryd.prog 3 #[rv p b, .int .i64 P, .int .i64 d, .int .u64 (c : Int)] w (Ret (.bool true) w) := by
  have HG := Lib.hid hg
  have hr : ¬ rateB p b := fun h => hp h.1
  have h : ¬ okB p b P d c := fun h => hr h.1
  have hL := fun W => lright_no h W
  have hD := fun W => Days_no (P := P) (d := d) (c := c) (p := p) (b := b) h W
  have hU := fun W => Unit_no hr W
  have hY := fun W => YR_no hr W
  have i1 : ¬ (p : Int) ≤ 1000000 := by omega
  unfold eno at hD
  unfold rv at hD hU hY hL ⊢
  clear hr h hg hp
  go_enter Tryd.func3, Tryd.ntmps3
  have HQ0 := Lib.hid (Blk.new w 24 #[.int .u32 (p : Int), .int .u8 (b : Int)])
  have HB0 := Lib.hid (b_alloc w (.cells #[.int .u32 (p : Int), .int .u8 (b : Int)] 24))
  go_wp2_with fail
  refine (awake9 _).mono ?_
  rintro e w1 ⟨rfl, hb1⟩
  have HQ1_0 := Lib.hid (HQ0.out.below hb1 HQ0.out.lt)
  have HB1 := Lib.hid (HB0.out.trans (hb1.mono HB0.out.size))
  clear hb1
  have c1_0_0 := HQ1_0.out.cell 0
  have c1_0_1 := HQ1_0.out.cell 1
  have z1_0 := HQ1_0.out.lt
  simp at c1_0_0 c1_0_1
  go_wp2_with fail
  refine (hD _).mono ?_
  rintro e w2 ⟨rfl, hb2⟩
  have HQ2_0 := Lib.hid (HQ1_0.out.below hb2 HQ1_0.out.lt)
  have HB2 := Lib.hid (HB1.out.trans (hb2.mono HB1.out.size))
  clear hb2 c1_0_0 c1_0_1 z1_0
  have c2_0_0 := HQ2_0.out.cell 0
  have c2_0_1 := HQ2_0.out.cell 1
  have z2_0 := HQ2_0.out.lt
  simp at c2_0_0 c2_0_1
  go_wp2_with fail
  refine (hU _).mono ?_
  rintro e w3 ⟨rfl, hb3⟩
  have HQ3_0 := Lib.hid (HQ2_0.out.below hb3 HQ2_0.out.lt)
  have HB3 := Lib.hid (HB2.out.trans (hb3.mono HB2.out.size))
  clear hb3 c2_0_0 c2_0_1 z2_0
  have c3_0_0 := HQ3_0.out.cell 0
  have c3_0_1 := HQ3_0.out.cell 1
  have z3_0 := HQ3_0.out.lt
  simp at c3_0_0 c3_0_1
  go_wp2_with fail
  refine (hY _).mono ?_
  rintro e w4 ⟨rfl, hb4⟩
  have HQ4_0 := Lib.hid (HQ3_0.out.below hb4 HQ3_0.out.lt)
  have HB4 := Lib.hid (HB3.out.trans (hb4.mono HB3.out.size))
  clear hb4 c3_0_0 c3_0_1 z3_0
  have c4_0_0 := HQ4_0.out.cell 0
  have c4_0_1 := HQ4_0.out.cell 1
  have z4_0 := HQ4_0.out.lt
  simp at c4_0_0 c4_0_1
  go_wp2_with fail
  refine (hL _).mono ?_
  rintro e w5 ⟨rfl, hb5⟩
  have HQ5_0 := Lib.hid (HQ4_0.out.below hb5 HQ4_0.out.lt)
  have HB5 := Lib.hid (HB4.out.trans (hb5.mono HB4.out.size))
  clear hb5 c4_0_0 c4_0_1 z4_0
  have c5_0_0 := HQ5_0.out.cell 0
  have c5_0_1 := HQ5_0.out.cell 1
  have z5_0 := HQ5_0.out.lt
  simp at c5_0_0 c5_0_1
  go_wp2_with fail
  refine (Code_errno 1 _ (HG.out.below HB5.out)).mono ?_
  rintro e w6 ⟨rfl, hb6⟩
  have HQ6_0 := Lib.hid (HQ5_0.out.below hb6 HQ5_0.out.lt)
  have HB6 := Lib.hid (HB5.out.trans (hb6.mono HB5.out.size))
  clear hb6 c5_0_0 c5_0_1 z5_0
  have c6_0_0 := HQ6_0.out.cell 0
  have c6_0_1 := HQ6_0.out.cell 1
  have z6_0 := HQ6_0.out.lt
  simp at c6_0_0 c6_0_1
  go_wp2_with fail
  go_ret
  exact ⟨by first | rfl | simp, HB6.out⟩
set_option maxRecDepth 20000 in
set_option maxHeartbeats 8000000 in
theorem Reck_base {p b c : Nat} {P d : Int} (hp : p ≤ 1000000) (hb : ¬ (b = 1 ∨ b = 2)) (w : World) (hg : Laid w) :
    Calls Tryd.prog 3 #[rv p b, .int .i64 P, .int .i64 d, .int .u64 (c : Int)] w (Ret (.bool true) w) := by
  have HG := Lib.hid hg
  have hr : ¬ rateB p b := fun h => hb h.2
  have h : ¬ okB p b P d c := fun h => hr h.1
  have hL := fun W => lright_no h W
  have hD := fun W => Days_no (P := P) (d := d) (c := c) (p := p) (b := b) h W
  have hU := fun W => Unit_no hr W
  have hY := fun W => YR_no hr W
  have i1 : (p : Int) ≤ 1000000 := by omega
  have j1 : ((b : Int) == 1) = false := by rw [beq_eq_false_iff_ne]; omega
  have j2 : ((b : Int) == 2) = false := by rw [beq_eq_false_iff_ne]; omega
  have k1 : ¬ (b : Int) = 1 := by omega
  have k2 : ¬ (b : Int) = 2 := by omega
  clear hb
  unfold eno at hD
  unfold rv at hD hU hY hL ⊢
  clear hr h hg hp
  go_enter Tryd.func3, Tryd.ntmps3
  have HQ0 := Lib.hid (Blk.new w 24 #[.int .u32 (p : Int), .int .u8 (b : Int)])
  have HB0 := Lib.hid (b_alloc w (.cells #[.int .u32 (p : Int), .int .u8 (b : Int)] 24))
  go_wp2_with fail
  refine (awake9 _).mono ?_
  rintro e w1 ⟨rfl, hb1⟩
  have HQ1_0 := Lib.hid (HQ0.out.below hb1 HQ0.out.lt)
  have HB1 := Lib.hid (HB0.out.trans (hb1.mono HB0.out.size))
  clear hb1
  have c1_0_0 := HQ1_0.out.cell 0
  have c1_0_1 := HQ1_0.out.cell 1
  have z1_0 := HQ1_0.out.lt
  simp at c1_0_0 c1_0_1
  go_wp2_with fail
  refine (hD _).mono ?_
  rintro e w2 ⟨rfl, hb2⟩
  have HQ2_0 := Lib.hid (HQ1_0.out.below hb2 HQ1_0.out.lt)
  have HB2 := Lib.hid (HB1.out.trans (hb2.mono HB1.out.size))
  clear hb2 c1_0_0 c1_0_1 z1_0
  have c2_0_0 := HQ2_0.out.cell 0
  have c2_0_1 := HQ2_0.out.cell 1
  have z2_0 := HQ2_0.out.lt
  simp at c2_0_0 c2_0_1
  go_wp2_with fail
  refine (hU _).mono ?_
  rintro e w3 ⟨rfl, hb3⟩
  have HQ3_0 := Lib.hid (HQ2_0.out.below hb3 HQ2_0.out.lt)
  have HB3 := Lib.hid (HB2.out.trans (hb3.mono HB2.out.size))
  clear hb3 c2_0_0 c2_0_1 z2_0
  have c3_0_0 := HQ3_0.out.cell 0
  have c3_0_1 := HQ3_0.out.cell 1
  have z3_0 := HQ3_0.out.lt
  simp at c3_0_0 c3_0_1
  go_wp2_with fail
  refine (hY _).mono ?_
  rintro e w4 ⟨rfl, hb4⟩
  have HQ4_0 := Lib.hid (HQ3_0.out.below hb4 HQ3_0.out.lt)
  have HB4 := Lib.hid (HB3.out.trans (hb4.mono HB3.out.size))
  clear hb4 c3_0_0 c3_0_1 z3_0
  have c4_0_0 := HQ4_0.out.cell 0
  have c4_0_1 := HQ4_0.out.cell 1
  have z4_0 := HQ4_0.out.lt
  simp at c4_0_0 c4_0_1
  go_wp2_with fail
  refine (hL _).mono ?_
  rintro e w5 ⟨rfl, hb5⟩
  have HQ5_0 := Lib.hid (HQ4_0.out.below hb5 HQ4_0.out.lt)
  have HB5 := Lib.hid (HB4.out.trans (hb5.mono HB4.out.size))
  clear hb5 c4_0_0 c4_0_1 z4_0
  have c5_0_0 := HQ5_0.out.cell 0
  have c5_0_1 := HQ5_0.out.cell 1
  have z5_0 := HQ5_0.out.lt
  simp at c5_0_0 c5_0_1
  go_wp2_with fail
  refine (Code_errno 1 _ (HG.out.below HB5.out)).mono ?_
  rintro e w6 ⟨rfl, hb6⟩
  have HQ6_0 := Lib.hid (HQ5_0.out.below hb6 HQ5_0.out.lt)
  have HB6 := Lib.hid (HB5.out.trans (hb6.mono HB5.out.size))
  clear hb6 c5_0_0 c5_0_1 z5_0
  have c6_0_0 := HQ6_0.out.cell 0
  have c6_0_1 := HQ6_0.out.cell 1
  have z6_0 := HQ6_0.out.lt
  simp at c6_0_0 c6_0_1
  go_wp2_with fail
  go_ret
  exact ⟨by first | rfl | simp, HB6.out⟩
theorem YReck_any {p b c : Nat} {P d : Int} (w : World) (hg : Laid w) :
    Calls Tryd.prog 3 #[rv p b, .int .i64 P, .int .i64 d, .int .u64 (c : Int)] w (Ret (.bool true) w) := by
  by_cases hp : p ≤ 1000000
  · by_cases hb : b = 1 ∨ b = 2
    · by_cases h : okB p b P d c
      · obtain ⟨P', rfl⟩ : ∃ n : Nat, P = (n : Int) := ⟨P.toNat, by have := h.2.1; omega⟩
        obtain ⟨d', rfl⟩ : ∃ n : Nat, d = (n : Int) := ⟨d.toNat, by have := h.2.2.2.1; omega⟩
        rcases hb with rfl | rfl
        · exact Reck_ok1 h w
        · exact Reck_ok2 h w
      · rcases hb with rfl | rfl
        · exact Reck_no1 ⟨hp, Or.inl rfl⟩ h w hg
        · exact Reck_no2 ⟨hp, Or.inr rfl⟩ h w hg
    · exact Reck_base hp hb w hg
  · exact Reck_rate hp w hg
end Go.Proofs.YtbfekonlgbolcaaDoor
