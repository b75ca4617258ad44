/-
  YieldBounds: the walk. Conditions: the numbers' kinds.
-/
import Derived.Test.YtbfekonlgbolcaaYldC
import Derived.Lib.QuietBelow
import Derived.BigQuiet
namespace Go.Proofs.Ytbfekonlgbolcaa
open Go.RowKit

theorem div_small {X d c U : Nat} (hX : X ≤ 1000000000000000000) (hd : d ≤ 100000) (hU : 360000000 ≤ U) (hc : c < U) : (X * d + c) / U < 1000000000000000 := by
  have h := Nat.mul_le_mul hX hd
  rw [Nat.div_lt_iff_lt_mul (by omega)]
  have : 1000000000000000 * 360000000 ≤ 1000000000000000 * U := Nat.mul_le_mul_left _ hU
  omega
set_option maxRecDepth 20000 in
set_option maxHeartbeats 4000000 in
theorem Bounds_no {p b d c : Nat} {P : Int} (hd : d < 65536) (h : ¬ okB p b P d c) (w : World) :
    Calls Try.prog 5 #[rv p b, .int .i64 P, .int .u16 (d : Int), .int .u64 (c : Int)] w (Ret (.bool true) w) := by
  have hD := fun W => Days_no (P := P) (d := d) (c := c) (p := p) (b := b) h W
  have hL := fun W => lright_no h W
  have i1 : IntKind.i64.wrap (d : Int) = (d : Int) := by rw [IntKind.wrap_i64]; omega
  unfold eno at hD
  unfold rv at hD hL ⊢
  clear h hd
  go_enter Try.func5, Try.ntmps5
  have HQ0 := Lib.hid (Blk.new w 24 #[.int .u32 (p : Int), .int .u8 (b : Int)])
  have HB0 := Lib.hid (b_alloc w (.cells #[.int .u32 (p : Int), .int .u8 (b : Int)] 24))
  go_wp2_with fail
  refine (awake9 _).mono ?_
  rintro e w1 ⟨rfl, hb1⟩
  have HQ1_0 := Lib.hid (HQ0.out.below hb1 HQ0.out.lt)
  have HB1 := Lib.hid (HB0.out.trans (hb1.mono HB0.out.size))
  clear hb1
  have c1_0_0 := HQ1_0.out.cell 0
  have c1_0_1 := HQ1_0.out.cell 1
  have z1_0 := HQ1_0.out.lt
  simp at c1_0_0 c1_0_1
  go_wp2_with fail
  refine (hD _).mono ?_
  rintro e w2 ⟨rfl, hb2⟩
  have HQ2_0 := Lib.hid (HQ1_0.out.below hb2 HQ1_0.out.lt)
  have HB2 := Lib.hid (HB1.out.trans (hb2.mono HB1.out.size))
  clear hb2 c1_0_0 c1_0_1 z1_0
  have c2_0_0 := HQ2_0.out.cell 0
  have c2_0_1 := HQ2_0.out.cell 1
  have z2_0 := HQ2_0.out.lt
  simp at c2_0_0 c2_0_1
  go_wp2_with fail
  refine (hL _).mono ?_
  rintro e w3 ⟨rfl, hb3⟩
  have HQ3_0 := Lib.hid (HQ2_0.out.below hb3 HQ2_0.out.lt)
  have HB3 := Lib.hid (HB2.out.trans (hb3.mono HB2.out.size))
  clear hb3 c2_0_0 c2_0_1 z2_0
  have c3_0_0 := HQ3_0.out.cell 0
  have c3_0_1 := HQ3_0.out.cell 1
  have z3_0 := HQ3_0.out.lt
  simp at c3_0_0 c3_0_1
  go_wp2_with fail
  go_ret
  exact ⟨rfl, HB3.out⟩
set_option maxRecDepth 20000 in
set_option maxHeartbeats 4000000 in
theorem Bounds_yes {P p b d c : Nat} (hd : d < 65536) (h : okB p b P d c) (w : World) :
    Calls Try.prog 5 #[rv p b, .int .i64 (P : Int), .int .u16 (d : Int), .int .u64 (c : Int)] w (Ret (.bool true) w) := by
  obtain ⟨hr, h0, h1, h2, h3, hc⟩ := h
  have hD := fun W => Days_yes (P := P) (d := d) (c := c) (by omega) hr (by omega) hc W
  have hUb := unitN_bd b
  have hZ := fun W => Days_yes (P := P) (d := d) (c := 0) (by omega) hr (by omega) (show 0 < unitN b by omega) W
  have hU := fun W => Unit_yes hr W
  have hX := pp_le (show P ≤ 1000000000000 by omega) hr.1
  have hq := div_small hX (show d ≤ 100000 by omega) hUb.1 hc
  obtain ⟨b1, b2⟩ := bound_one (X := P * p * d) (show 0 < unitN b by omega) hc
  have hl := Nat.mod_lt (P * p * d + c) (show 0 < unitN b by omega)
  have hz : p = 0 ∨ d = 0 → (P * p * d + c) / unitN b = 0 ∧ (P * p * d + c) % unitN b = c := by
    rintro (rfl | rfl)
    · rw [Nat.mul_zero, Nat.zero_mul, Nat.zero_add]
      exact ⟨Nat.div_eq_of_lt hc, Nat.mod_eq_of_lt hc⟩
    · rw [Nat.mul_zero, Nat.zero_add]
      exact ⟨Nat.div_eq_of_lt hc, Nat.mod_eq_of_lt hc⟩
  rw [Nat.add_zero] at hZ
  obtain ⟨q, hqe⟩ : ∃ q, (P * p * d + c) / unitN b = q := ⟨_, rfl⟩
  obtain ⟨s, hse⟩ : ∃ s, (P * p * d + c) % unitN b = s := ⟨_, rfl⟩
  obtain ⟨q', hqe'⟩ : ∃ q', P * p * d / unitN b = q' := ⟨_, rfl⟩
  obtain ⟨s', hse'⟩ : ∃ s', P * p * d % unitN b = s' := ⟨_, rfl⟩
  rw [hqe, hse] at hD
  rw [hqe', hse'] at hZ
  rw [hqe] at hq b1 b2
  rw [hqe'] at b1 b2
  rw [hse] at hl
  rw [hqe, hse] at hz
  clear hqe hse hqe' hse' hX
  obtain ⟨U, hUe⟩ : ∃ U, unitN b = U := ⟨_, rfl⟩
  rw [hUe] at hU hl
  have i1 : IntKind.i64.wrap (d : Int) = (d : Int) := by rw [IntKind.wrap_i64]; omega
  have i2 : (q' : Int) ≤ (q : Int) := by omega
  have i3 : (q : Int) ≤ (q' : Int) + 1 := by omega
  have i4 : (s : Int) < (U : Int) := by omega
  have i5 : IntKind.i64.wrap ((q' : Int) + 1) = (q' : Int) + 1 := by rw [IntKind.wrap_i64]; omega
  clear h0 h1 h2 h3 hc hUb hUe hl b1 b2
  unfold rv at hD hZ hU ⊢
  by_cases hzz : p = 0 ∨ d = 0
  · obtain ⟨rfl, rfl⟩ := hz hzz
    clear hz
    by_cases hp : p = 0
    · subst hp
      clear hzz
      by_cases hd0 : d = 0
      · subst hd0
        go_enter Try.func5, Try.ntmps5
        have HQ0 := Lib.hid (Blk.new w 24 #[.int .u32 0, .int .u8 (b : Int)])
        have HB0 := Lib.hid (b_alloc w (.cells #[.int .u32 0, .int .u8 (b : Int)] 24))
        go_wp2_with fail
        refine (awake9 _).mono ?_
        rintro e w1 ⟨rfl, hb1⟩
        have HQ1_0 := Lib.hid (HQ0.out.below hb1 HQ0.out.lt)
        have HB1 := Lib.hid (HB0.out.trans (hb1.mono HB0.out.size))
        clear hb1
        have c1_0_0 := HQ1_0.out.cell 0
        have c1_0_1 := HQ1_0.out.cell 1
        have z1_0 := HQ1_0.out.lt
        simp at c1_0_0 c1_0_1
        go_wp2_with fail
        refine (hD _).mono ?_
        rintro e w2 ⟨rfl, hb2⟩
        have HQ2_0 := Lib.hid (HQ1_0.out.below hb2 HQ1_0.out.lt)
        have HB2 := Lib.hid (HB1.out.trans (hb2.mono HB1.out.size))
        clear hb2 c1_0_0 c1_0_1 z1_0
        have c2_0_0 := HQ2_0.out.cell 0
        have c2_0_1 := HQ2_0.out.cell 1
        have z2_0 := HQ2_0.out.lt
        simp at c2_0_0 c2_0_1
        go_wp2_with fail
        refine (hZ _).mono ?_
        rintro e w3 ⟨rfl, hb3⟩
        have HQ3_0 := Lib.hid (HQ2_0.out.below hb3 HQ2_0.out.lt)
        have HB3 := Lib.hid (HB2.out.trans (hb3.mono HB2.out.size))
        clear hb3 c2_0_0 c2_0_1 z2_0
        have c3_0_0 := HQ3_0.out.cell 0
        have c3_0_1 := HQ3_0.out.cell 1
        have z3_0 := HQ3_0.out.lt
        simp at c3_0_0 c3_0_1
        go_wp2_with fail
        refine (hU _).mono ?_
        rintro e w4 ⟨rfl, hb4⟩
        have HQ4_0 := Lib.hid (HQ3_0.out.below hb4 HQ3_0.out.lt)
        have HB4 := Lib.hid (HB3.out.trans (hb4.mono HB3.out.size))
        clear hb4 c3_0_0 c3_0_1 z3_0
        have c4_0_0 := HQ4_0.out.cell 0
        have c4_0_1 := HQ4_0.out.cell 1
        have z4_0 := HQ4_0.out.lt
        simp at c4_0_0 c4_0_1
        go_wp2_with fail
        go_ret
        exact ⟨rfl, HB4.out⟩
      · have j1 : (0 : Int) < (d : Int) := by omega
        clear hd0
        go_enter Try.func5, Try.ntmps5
        have HQ0 := Lib.hid (Blk.new w 24 #[.int .u32 0, .int .u8 (b : Int)])
        have HB0 := Lib.hid (b_alloc w (.cells #[.int .u32 0, .int .u8 (b : Int)] 24))
        go_wp2_with fail
        refine (awake9 _).mono ?_
        rintro e w1 ⟨rfl, hb1⟩
        have HQ1_0 := Lib.hid (HQ0.out.below hb1 HQ0.out.lt)
        have HB1 := Lib.hid (HB0.out.trans (hb1.mono HB0.out.size))
        clear hb1
        have c1_0_0 := HQ1_0.out.cell 0
        have c1_0_1 := HQ1_0.out.cell 1
        have z1_0 := HQ1_0.out.lt
        simp at c1_0_0 c1_0_1
        go_wp2_with fail
        refine (hD _).mono ?_
        rintro e w2 ⟨rfl, hb2⟩
        have HQ2_0 := Lib.hid (HQ1_0.out.below hb2 HQ1_0.out.lt)
        have HB2 := Lib.hid (HB1.out.trans (hb2.mono HB1.out.size))
        clear hb2 c1_0_0 c1_0_1 z1_0
        have c2_0_0 := HQ2_0.out.cell 0
        have c2_0_1 := HQ2_0.out.cell 1
        have z2_0 := HQ2_0.out.lt
        simp at c2_0_0 c2_0_1
        go_wp2_with fail
        refine (hZ _).mono ?_
        rintro e w3 ⟨rfl, hb3⟩
        have HQ3_0 := Lib.hid (HQ2_0.out.below hb3 HQ2_0.out.lt)
        have HB3 := Lib.hid (HB2.out.trans (hb3.mono HB2.out.size))
        clear hb3 c2_0_0 c2_0_1 z2_0
        have c3_0_0 := HQ3_0.out.cell 0
        have c3_0_1 := HQ3_0.out.cell 1
        have z3_0 := HQ3_0.out.lt
        simp at c3_0_0 c3_0_1
        go_wp2_with fail
        refine (hU _).mono ?_
        rintro e w4 ⟨rfl, hb4⟩
        have HQ4_0 := Lib.hid (HQ3_0.out.below hb4 HQ3_0.out.lt)
        have HB4 := Lib.hid (HB3.out.trans (hb4.mono HB3.out.size))
        clear hb4 c3_0_0 c3_0_1 z3_0
        have c4_0_0 := HQ4_0.out.cell 0
        have c4_0_1 := HQ4_0.out.cell 1
        have z4_0 := HQ4_0.out.lt
        simp at c4_0_0 c4_0_1
        go_wp2_with fail
        go_ret
        exact ⟨rfl, HB4.out⟩
    · obtain rfl : d = 0 := by omega
      have j1 : (0 : Int) < (p : Int) := by omega
      clear hzz hp
      go_enter Try.func5, Try.ntmps5
      have HQ0 := Lib.hid (Blk.new w 24 #[.int .u32 (p : Int), .int .u8 (b : Int)])
      have HB0 := Lib.hid (b_alloc w (.cells #[.int .u32 (p : Int), .int .u8 (b : Int)] 24))
      go_wp2_with fail
      refine (awake9 _).mono ?_
      rintro e w1 ⟨rfl, hb1⟩
      have HQ1_0 := Lib.hid (HQ0.out.below hb1 HQ0.out.lt)
      have HB1 := Lib.hid (HB0.out.trans (hb1.mono HB0.out.size))
      clear hb1
      have c1_0_0 := HQ1_0.out.cell 0
      have c1_0_1 := HQ1_0.out.cell 1
      have z1_0 := HQ1_0.out.lt
      simp at c1_0_0 c1_0_1
      go_wp2_with fail
      refine (hD _).mono ?_
      rintro e w2 ⟨rfl, hb2⟩
      have HQ2_0 := Lib.hid (HQ1_0.out.below hb2 HQ1_0.out.lt)
      have HB2 := Lib.hid (HB1.out.trans (hb2.mono HB1.out.size))
      clear hb2 c1_0_0 c1_0_1 z1_0
      have c2_0_0 := HQ2_0.out.cell 0
      have c2_0_1 := HQ2_0.out.cell 1
      have z2_0 := HQ2_0.out.lt
      simp at c2_0_0 c2_0_1
      go_wp2_with fail
      refine (hZ _).mono ?_
      rintro e w3 ⟨rfl, hb3⟩
      have HQ3_0 := Lib.hid (HQ2_0.out.below hb3 HQ2_0.out.lt)
      have HB3 := Lib.hid (HB2.out.trans (hb3.mono HB2.out.size))
      clear hb3 c2_0_0 c2_0_1 z2_0
      have c3_0_0 := HQ3_0.out.cell 0
      have c3_0_1 := HQ3_0.out.cell 1
      have z3_0 := HQ3_0.out.lt
      simp at c3_0_0 c3_0_1
      go_wp2_with fail
      refine (hU _).mono ?_
      rintro e w4 ⟨rfl, hb4⟩
      have HQ4_0 := Lib.hid (HQ3_0.out.below hb4 HQ3_0.out.lt)
      have HB4 := Lib.hid (HB3.out.trans (hb4.mono HB3.out.size))
      clear hb4 c3_0_0 c3_0_1 z3_0
      have c4_0_0 := HQ4_0.out.cell 0
      have c4_0_1 := HQ4_0.out.cell 1
      have z4_0 := HQ4_0.out.lt
      simp at c4_0_0 c4_0_1
      go_wp2_with fail
      go_ret
      exact ⟨rfl, HB4.out⟩
  · have j1 : (0 : Int) < (p : Int) := by omega
    have j2 : (0 : Int) < (d : Int) := by omega
    clear hz hzz
    go_enter Try.func5, Try.ntmps5
    have HQ0 := Lib.hid (Blk.new w 24 #[.int .u32 (p : Int), .int .u8 (b : Int)])
    have HB0 := Lib.hid (b_alloc w (.cells #[.int .u32 (p : Int), .int .u8 (b : Int)] 24))
    go_wp2_with fail
    refine (awake9 _).mono ?_
    rintro e w1 ⟨rfl, hb1⟩
    have HQ1_0 := Lib.hid (HQ0.out.below hb1 HQ0.out.lt)
    have HB1 := Lib.hid (HB0.out.trans (hb1.mono HB0.out.size))
    clear hb1
    have c1_0_0 := HQ1_0.out.cell 0
    have c1_0_1 := HQ1_0.out.cell 1
    have z1_0 := HQ1_0.out.lt
    simp at c1_0_0 c1_0_1
    go_wp2_with fail
    refine (hD _).mono ?_
    rintro e w2 ⟨rfl, hb2⟩
    have HQ2_0 := Lib.hid (HQ1_0.out.below hb2 HQ1_0.out.lt)
    have HB2 := Lib.hid (HB1.out.trans (hb2.mono HB1.out.size))
    clear hb2 c1_0_0 c1_0_1 z1_0
    have c2_0_0 := HQ2_0.out.cell 0
    have c2_0_1 := HQ2_0.out.cell 1
    have z2_0 := HQ2_0.out.lt
    simp at c2_0_0 c2_0_1
    go_wp2_with fail
    refine (hZ _).mono ?_
    rintro e w3 ⟨rfl, hb3⟩
    have HQ3_0 := Lib.hid (HQ2_0.out.below hb3 HQ2_0.out.lt)
    have HB3 := Lib.hid (HB2.out.trans (hb3.mono HB2.out.size))
    clear hb3 c2_0_0 c2_0_1 z2_0
    have c3_0_0 := HQ3_0.out.cell 0
    have c3_0_1 := HQ3_0.out.cell 1
    have z3_0 := HQ3_0.out.lt
    simp at c3_0_0 c3_0_1
    go_wp2_with fail
    refine (hU _).mono ?_
    rintro e w4 ⟨rfl, hb4⟩
    have HQ4_0 := Lib.hid (HQ3_0.out.below hb4 HQ3_0.out.lt)
    have HB4 := Lib.hid (HB3.out.trans (hb4.mono HB3.out.size))
    clear hb4 c3_0_0 c3_0_1 z3_0
    have c4_0_0 := HQ4_0.out.cell 0
    have c4_0_1 := HQ4_0.out.cell 1
    have z4_0 := HQ4_0.out.lt
    simp at c4_0_0 c4_0_1
    go_wp2_with fail
    go_ret
    exact ⟨rfl, HB4.out⟩
theorem Bounds_any {p b d c : Nat} {P : Int} (hd : d < 65536) (w : World) :
    Calls Try.prog 5 #[rv p b, .int .i64 P, .int .u16 (d : Int), .int .u64 (c : Int)] w (Ret (.bool true) w) := by
  by_cases h : okB p b P d c
  · obtain ⟨Q, rfl⟩ : ∃ Q : Nat, P = (Q : Int) := ⟨P.toNat, by have := h.2.1; omega⟩
    exact Bounds_yes hd h w
  · exact Bounds_no hd h w
end Go.Proofs.Ytbfekonlgbolcaa
