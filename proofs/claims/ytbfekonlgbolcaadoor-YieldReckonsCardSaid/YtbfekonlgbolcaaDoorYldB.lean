/-
  yield: Days. Conditions: the numbers' kinds.
-/
import Derived.Test.YtbfekonlgbolcaaDoorYldA
import Derived.Deep.RegionWith
import Derived.Deep.RegionHeld3
namespace Go.Proofs.YtbfekonlgbolcaaDoor
open Go.RowKit

theorem two_two {W W' : World} {g g' : Nat} {t t' : TypeId} {a b c d : Value} (h : Blk W g t #[a, b]) (h' : Blk W g' t' #[c, d]) (hb : Below W.heap.size W W') :
    W'.cell? ⟨g, 0, none⟩ = some a ∧ W'.cell? ⟨g, 1, none⟩ = some b ∧ W'.cell? ⟨g', 0, none⟩ = some c ∧ W'.cell? ⟨g', 1, none⟩ = some d :=
  ⟨(h.below hb h.lt).cell 0, (h.below hb h.lt).cell 1, (h'.below hb h'.lt).cell 0, (h'.below hb h'.lt).cell 1⟩
set_option maxRecDepth 20000 in
set_option maxHeartbeats 4000000 in
theorem Days_yes {P p b d c : Nat} (hP : P ≤ 1000000000000) (hr : rateB p b) (hd : d ≤ 100000) (hc : c < unitN b) (w : World) :
    Calls Tryd.prog 6 #[rv p b, .int .i64 (P : Int), .int .i64 (d : Int), .int .u64 (c : Int)] w (Ret (.tuple #[.int .i64 (((P * p * d + c) / unitN b : Nat) : Int), .int .u64 (((P * p * d + c) % unitN b : Nat) : Int), .nilIface]) w) := by
  have hT := fun W => takes_yes hr (P := (P : Int)) (by omega) (by omega) W
  have hU := fun W => Unit_yes hr W
  have hX := pp_le hP hr.1
  have hUb := unitN_bd b
  obtain ⟨X, hXe⟩ : ∃ X, P * p = X := ⟨_, rfl⟩
  have hDl := fun W => daily_any b hP hr.1 hXe W
  rw [hXe] at hX ⊢
  obtain ⟨U, hUe⟩ : ∃ U, unitN b = U := ⟨_, rfl⟩
  rw [hUe] at hU hUb hc ⊢
  have hM := fun W => Mul_any X d (by omega) (by omega) W
  have hS := pcs_le hX hd (show c < 18446744073709551616 by omega)
  have hQ := pcs_div hX hd hUb.1 hc
  obtain ⟨h, l, e1, e2, hl⟩ := wof_ex (X * d)
  rw [e1] at hM
  have hA := fun W => Add_ok h l c (X * d + c) hl (by omega) (by rw [e2]) hS W
  obtain ⟨S, hSe⟩ : ∃ S, X * d + c = S := ⟨_, rfl⟩
  rw [hSe] at hA hS hQ ⊢
  obtain ⟨sh, sl, e3, e4, hsl⟩ := wof_ex S
  rw [e3] at hA
  have hDv := fun W => Div_some sh sl U (by omega) hsl (by omega) (by omega) W
  rw [← e4] at hDv
  obtain ⟨q, hqe⟩ : ∃ q, S / U = q := ⟨_, rfl⟩
  obtain ⟨s, hse⟩ : ∃ s, S % U = s := ⟨_, rfl⟩
  rw [hqe] at hDv hQ ⊢
  rw [hse] at hDv ⊢
  rw [wof_small q (by omega)] at hDv
  have hSm := fun W => Small_ok q W
  have i1 : ¬ (d : Int) < 0 := by omega
  have i2 : ¬ (100000 : Int) < (d : Int) := by omega
  have i3 : ¬ (U : Int) ≤ (c : Int) := by omega
  have i4 : IntKind.u64.wrap (d : Int) = (d : Int) := by rw [IntKind.wrap_u64]; omega
  have i5 : IntKind.i64.wrap (q : Int) = (q : Int) := by rw [IntKind.wrap_i64]; omega
  unfold wv at hA hDv hSm
  unfold rv at hT hU hDl ⊢
  clear hP hr hd hc hX hUb hXe hUe hS hQ e1 e2 hl hSe e3 e4 hsl hqe hse
  go_enter Tryd.func6, Tryd.ntmps6
  have HQ0 := Lib.hid (Blk.new w 24 #[.int .u32 (p : Int), .int .u8 (b : Int)])
  have HB0 := Lib.hid (b_alloc w (.cells #[.int .u32 (p : Int), .int .u8 (b : Int)] 24))
  go_wp2_with fail
  refine (hT _).mono ?_
  rintro e w1 ⟨rfl, hb1⟩
  have HQ1_0 := Lib.hid (HQ0.out.below hb1 HQ0.out.lt)
  have HB1 := Lib.hid (HB0.out.trans (hb1.mono HB0.out.size))
  clear hb1
  have c1_0_0 := HQ1_0.out.cell 0
  have c1_0_1 := HQ1_0.out.cell 1
  have z1_0 := HQ1_0.out.lt
  simp at c1_0_0 c1_0_1
  go_wp2_with fail
  refine (hU _).mono ?_
  rintro e w2 ⟨rfl, hb2⟩
  have HQ2_0 := Lib.hid (HQ1_0.out.below hb2 HQ1_0.out.lt)
  have HB2 := Lib.hid (HB1.out.trans (hb2.mono HB1.out.size))
  clear hb2 c1_0_0 c1_0_1 z1_0
  have c2_0_0 := HQ2_0.out.cell 0
  have c2_0_1 := HQ2_0.out.cell 1
  have z2_0 := HQ2_0.out.lt
  simp at c2_0_0 c2_0_1
  go_wp2_with fail
  refine (hDl _).mono ?_
  rintro e w3 ⟨rfl, hb3⟩
  have HQ3_0 := Lib.hid (HQ2_0.out.below hb3 HQ2_0.out.lt)
  have HB3 := Lib.hid (HB2.out.trans (hb3.mono HB2.out.size))
  clear hb3 c2_0_0 c2_0_1 z2_0
  have c3_0_0 := HQ3_0.out.cell 0
  have c3_0_1 := HQ3_0.out.cell 1
  have z3_0 := HQ3_0.out.lt
  simp at c3_0_0 c3_0_1
  go_wp2_with fail
  refine (hM _).mono ?_
  rintro e w4 ⟨rfl, hb4⟩
  have HQ4_0 := Lib.hid (HQ3_0.out.below hb4 HQ3_0.out.lt)
  have HB4 := Lib.hid (HB3.out.trans (hb4.mono HB3.out.size))
  clear hb4 c3_0_0 c3_0_1 z3_0
  have c4_0_0 := HQ4_0.out.cell 0
  have c4_0_1 := HQ4_0.out.cell 1
  have z4_0 := HQ4_0.out.lt
  simp at c4_0_0 c4_0_1
  go_wp2_with fail
  refine (hA _).mono ?_
  rintro e w5 ⟨rfl, hb5⟩
  have HQ5_0 := Lib.hid (HQ4_0.out.below hb5 HQ4_0.out.lt)
  have HB5 := Lib.hid (HB4.out.trans (hb5.mono HB4.out.size))
  clear hb5 c4_0_0 c4_0_1 z4_0
  have c5_0_0 := HQ5_0.out.cell 0
  have c5_0_1 := HQ5_0.out.cell 1
  have z5_0 := HQ5_0.out.lt
  simp at c5_0_0 c5_0_1
  have HQ6_0 := Lib.hid (HQ5_0.out.alloc (.cells #[.int .u64 (sh : Int), .int .u64 (sl : Int)] 50))
  have HQ6_1 := Lib.hid (Blk.new w5 50 #[.int .u64 (sh : Int), .int .u64 (sl : Int)])
  have HB6 := Lib.hid (HB5.out.alloc HB5.out.size (.cells #[.int .u64 (sh : Int), .int .u64 (sl : Int)] 50))
  go_wp2_with fail
  obtain ⟨G, hG⟩ : ∃ G, w5.heap.size = G := ⟨_, rfl⟩
  obtain ⟨W7, hW7⟩ : ∃ W, (w5.alloc (.cells #[.int .u64 (sh : Int), .int .u64 (sl : Int)] 50)) = W := ⟨_, rfl⟩
  have R7 : Hid (Blk W7 w.heap.size 24 #[.int .u32 (p : Int), .int .u8 (b : Int)]) := Lib.hid (by rw [← hW7]; exact HQ6_0.out)
  have N7 : Hid (Blk W7 G 50 #[.int .u64 (sh : Int), .int .u64 (sl : Int)]) := Lib.hid (by rw [← hW7, ← hG]; exact HQ6_1.out)
  have B7 : Hid (Below w.heap.size w W7) := Lib.hid (by rw [← hW7]; exact HB6.out)
  rw [hW7, hG]
  clear hW7 hG HQ6_0 HQ6_1 HB6 HB1 HB2 HB3 HB4 HB5 HB0 HQ0 HQ1_0 HQ2_0 HQ3_0 HQ4_0 HQ5_0
  go_cut [12, 13, 14] from 49 to 56 (fun x y z wx => ∃ g, x = .nilIface ∧ y = .pointer (some ⟨g, 0, none⟩) ∧ z = .int .u64 (s : Int) ∧ Blk wx g 50 #[.int .u64 0, .int .u64 (q : Int)] ∧ Below W7.heap.size W7 wx)
  case first =>
    have hr7 := Below.refl W7.heap.size W7
    have hs7 : W7.heap.size ≤ W7.heap.size := Nat.le_refl _
    go_region_held3 (fun W => W.cell? ⟨w.heap.size, 0, none⟩ = some (.int .u32 (p : Int)) ∧ W.cell? ⟨w.heap.size, 1, none⟩ = some (.int .u8 (b : Int)) ∧ W.cell? ⟨G, 0, none⟩ = some (.int .u64 (sh : Int)) ∧ W.cell? ⟨G, 1, none⟩ = some (.int .u64 (sl : Int))) ((refine two_two R7.out N7.out ?_; go_grown))
      (first
        | (go_at_call 9; go_must (refine (hU _).mono ?_); rintro e w8 ⟨rfl, hb8⟩; have hb78 : Below W7.heap.size W7 w8 := (by (refine Below.trans ?_ (hb8.mono ?_)) <;> go_grown); have hs8 := hb78.size; (try (have Z8 : Hid (Blk w8 W7.heap.size 50 #[.int .u64 0, .int .u64 0]) := Lib.hid (by first | exact (Blk.new W7 _ _).below hb8 (by simp) | exact ((Blk.new W7 _ _).drew).below hb8 (by simp)))); clear hb8)
        | (go_at_call 22; go_must (refine (hDv _).mono ?_); rintro e w9 ⟨rfl, hb9⟩; have hb79 : Below W7.heap.size W7 w9 := (by (refine Below.trans ?_ (hb9.mono ?_)) <;> go_grown); have hs9 := hb79.size; (first | (have Z9 : Hid (Blk w9 W7.heap.size 50 #[.int .u64 0, .int .u64 0]) := Lib.hid (by first | exact Z8.out.below hb9 Z8.out.lt | exact Z8.out.drew.below hb9 Z8.out.lt)) | (have Z9 : Hid (Blk w9 w8.heap.size 50 #[.int .u64 0, .int .u64 0]) := Lib.hid (by first | exact (Blk.new w8 _ _).below hb9 (by simp) | exact ((Blk.new w8 _ _).drew).below hb9 (by simp))) | skip); (try (have m0 := Z9.out.cell 0; have m1 := Z9.out.cell 1; have g0 := Z9.out.frozen 0; have g1 := Z9.out.frozen 1; simp at m0 m1)); clear hb9))
    all_goals
      go_wp2_with fail
      go_meet
      case rel =>
        refine ⟨_, rfl, rfl, rfl, ?_, ?_⟩
        · first
            | (with_reducible exact Blk.new w9 _ _)
            | exact ((Z9.out.set_ 0 (.int .u64 0)).set_ 1 (.int .u64 (q : Int)))
        · go_grown
  case rest =>
    obtain ⟨g, rfl, rfl, rfl, hR8, hb78⟩ := hcut
    have B8 := Lib.hid (B7.out.trans (hb78.mono B7.out.size))
    have m0 := hR8.cell 0
    have m1 := hR8.cell 1
    simp at m0 m1
    clear hb78
    go_wp2_with fail
    refine (hSm _).mono ?_
    rintro e w10 ⟨rfl, hb10⟩
    have B10 := Lib.hid (B8.out.trans (hb10.mono B8.out.size))
    clear hb10 m0 m1
    go_wp2_with fail
    go_ret3
    exact ⟨rfl, B10.out⟩
set_option maxRecDepth 20000 in
set_option maxHeartbeats 4000000 in
theorem Days_take {P : Int} {p b : Nat} (d : Int) (c : Nat) (h : ¬ (rateB p b ∧ 0 ≤ P ∧ P ≤ 1000000000000)) (w : World) :
    Calls Tryd.prog 6 #[rv p b, .int .i64 P, .int .i64 d, .int .u64 (c : Int)] w (Ret (.tuple #[.int .i64 0, .int .u64 0, eno 1]) w) := by
  have hT := fun W => takes_no h W
  clear h
  unfold rv at hT
  unfold rv eno
  go_enter Tryd.func6, Tryd.ntmps6
  have HQ0 := Lib.hid (Blk.new w 24 #[.int .u32 (p : Int), .int .u8 (b : Int)])
  have HB0 := Lib.hid (b_alloc w (.cells #[.int .u32 (p : Int), .int .u8 (b : Int)] 24))
  go_wp2_with fail
  refine (hT _).mono ?_
  rintro e w1 ⟨rfl, hb1⟩
  have HQ1_0 := Lib.hid (HQ0.out.below hb1 HQ0.out.lt)
  have HB1 := Lib.hid (HB0.out.trans (hb1.mono HB0.out.size))
  clear hb1
  have c1_0_0 := HQ1_0.out.cell 0
  have c1_0_1 := HQ1_0.out.cell 1
  have z1_0 := HQ1_0.out.lt
  simp at c1_0_0 c1_0_1
  go_wp2_with fail
  go_ret3
  exact ⟨rfl, HB1.out⟩
set_option maxRecDepth 20000 in
set_option maxHeartbeats 4000000 in
theorem Days_neg {P d : Int} {p b : Nat} (c : Nat) (h : rateB p b) (h0 : 0 ≤ P) (h1 : P ≤ 1000000000000) (hd : d < 0) (w : World) :
    Calls Tryd.prog 6 #[rv p b, .int .i64 P, .int .i64 d, .int .u64 (c : Int)] w (Ret (.tuple #[.int .i64 0, .int .u64 0, eno 1]) w) := by
  have hT := fun W => takes_yes h h0 h1 W
  clear h h0 h1
  unfold rv at hT
  unfold rv eno
  go_enter Tryd.func6, Tryd.ntmps6
  have HQ0 := Lib.hid (Blk.new w 24 #[.int .u32 (p : Int), .int .u8 (b : Int)])
  have HB0 := Lib.hid (b_alloc w (.cells #[.int .u32 (p : Int), .int .u8 (b : Int)] 24))
  go_wp2_with fail
  refine (hT _).mono ?_
  rintro e w1 ⟨rfl, hb1⟩
  have HQ1_0 := Lib.hid (HQ0.out.below hb1 HQ0.out.lt)
  have HB1 := Lib.hid (HB0.out.trans (hb1.mono HB0.out.size))
  clear hb1
  have c1_0_0 := HQ1_0.out.cell 0
  have c1_0_1 := HQ1_0.out.cell 1
  have z1_0 := HQ1_0.out.lt
  simp at c1_0_0 c1_0_1
  go_wp2_with fail
  go_ret3
  exact ⟨rfl, HB1.out⟩
set_option maxRecDepth 20000 in
set_option maxHeartbeats 4000000 in
theorem Days_long {P d : Int} {p b : Nat} (c : Nat) (h : rateB p b) (h0 : 0 ≤ P) (h1 : P ≤ 1000000000000) (hd0 : ¬ d < 0) (hd : 100000 < d) (w : World) :
    Calls Tryd.prog 6 #[rv p b, .int .i64 P, .int .i64 d, .int .u64 (c : Int)] w (Ret (.tuple #[.int .i64 0, .int .u64 0, eno 1]) w) := by
  have hT := fun W => takes_yes h h0 h1 W
  clear h h0 h1
  unfold rv at hT
  unfold rv eno
  go_enter Tryd.func6, Tryd.ntmps6
  have HQ0 := Lib.hid (Blk.new w 24 #[.int .u32 (p : Int), .int .u8 (b : Int)])
  have HB0 := Lib.hid (b_alloc w (.cells #[.int .u32 (p : Int), .int .u8 (b : Int)] 24))
  go_wp2_with fail
  refine (hT _).mono ?_
  rintro e w1 ⟨rfl, hb1⟩
  have HQ1_0 := Lib.hid (HQ0.out.below hb1 HQ0.out.lt)
  have HB1 := Lib.hid (HB0.out.trans (hb1.mono HB0.out.size))
  clear hb1
  have c1_0_0 := HQ1_0.out.cell 0
  have c1_0_1 := HQ1_0.out.cell 1
  have z1_0 := HQ1_0.out.lt
  simp at c1_0_0 c1_0_1
  go_wp2_with fail
  go_ret3
  exact ⟨rfl, HB1.out⟩
set_option maxRecDepth 20000 in
set_option maxHeartbeats 4000000 in
theorem Days_unit {P d : Int} {p b c : Nat} (h : rateB p b) (h0 : 0 ≤ P) (h1 : P ≤ 1000000000000) (hd0 : ¬ d < 0) (hd : ¬ 100000 < d) (hc : unitN b ≤ c) (w : World) :
    Calls Tryd.prog 6 #[rv p b, .int .i64 P, .int .i64 d, .int .u64 (c : Int)] w (Ret (.tuple #[.int .i64 0, .int .u64 0, eno 1]) w) := by
  have hT := fun W => takes_yes h h0 h1 W
  have hU := fun W => Unit_yes h W
  obtain ⟨U, hUe⟩ : ∃ U, unitN b = U := ⟨_, rfl⟩
  rw [hUe] at hU hc
  have i1 : (U : Int) ≤ (c : Int) := by omega
  clear h h0 h1 hUe hc
  unfold rv at hT hU
  unfold rv eno
  go_enter Tryd.func6, Tryd.ntmps6
  have HQ0 := Lib.hid (Blk.new w 24 #[.int .u32 (p : Int), .int .u8 (b : Int)])
  have HB0 := Lib.hid (b_alloc w (.cells #[.int .u32 (p : Int), .int .u8 (b : Int)] 24))
  go_wp2_with fail
  refine (hT _).mono ?_
  rintro e w1 ⟨rfl, hb1⟩
  have HQ1_0 := Lib.hid (HQ0.out.below hb1 HQ0.out.lt)
  have HB1 := Lib.hid (HB0.out.trans (hb1.mono HB0.out.size))
  clear hb1
  have c1_0_0 := HQ1_0.out.cell 0
  have c1_0_1 := HQ1_0.out.cell 1
  have z1_0 := HQ1_0.out.lt
  simp at c1_0_0 c1_0_1
  go_wp2_with fail
  refine (hU _).mono ?_
  rintro e w2 ⟨rfl, hb2⟩
  have HQ2_0 := Lib.hid (HQ1_0.out.below hb2 HQ1_0.out.lt)
  have HB2 := Lib.hid (HB1.out.trans (hb2.mono HB1.out.size))
  clear hb2 c1_0_0 c1_0_1 z1_0
  have c2_0_0 := HQ2_0.out.cell 0
  have c2_0_1 := HQ2_0.out.cell 1
  have z2_0 := HQ2_0.out.lt
  simp at c2_0_0 c2_0_1
  go_wp2_with fail
  go_ret3
  exact ⟨rfl, HB2.out⟩
theorem Days_no {P d : Int} {p b c : Nat} (h : ¬ (rateB p b ∧ 0 ≤ P ∧ P ≤ 1000000000000 ∧ 0 ≤ d ∧ d ≤ 100000 ∧ c < unitN b)) (w : World) :
    Calls Tryd.prog 6 #[rv p b, .int .i64 P, .int .i64 d, .int .u64 (c : Int)] w (Ret (.tuple #[.int .i64 0, .int .u64 0, eno 1]) w) := by
  by_cases h1 : rateB p b ∧ 0 ≤ P ∧ P ≤ 1000000000000
  · obtain ⟨hr, h0, h1⟩ := h1
    by_cases hd : d < 0
    · exact Days_neg c hr h0 h1 hd w
    · by_cases hd2 : 100000 < d
      · exact Days_long c hr h0 h1 hd hd2 w
      · by_cases hc : c < unitN b
        · exact absurd ⟨hr, h0, h1, by omega, by omega, hc⟩ h
        · exact Days_unit hr h0 h1 hd hd2 (by omega) w
  · exact Days_take d c h1 w
end Go.Proofs.YtbfekonlgbolcaaDoor
