/-
A rate's unit. No condition.
yield: Days. Conditions: the numbers' kinds.
yield's statements: what may be, the document's Unit, the example. Conditions: the numbers' kinds.
The references' Div: bit by bit. Conditions: the number is there, and is not 0.
The references' Add and Less. Conditions: the numbers are there.
yield: the references' Days. Conditions: the numbers are right.
-/
import Derived.Test.YtpbfipeinblfgaaGreatDoorYldAQ9
import Derived.Deep.RegionWith
import Derived.Deep.RegionHeld3
import Derived.Test.YtpbfipeinblfgaaGreatDoorRefPQ9
import Derived.Test.YtpbfipeinblfgaaGreatDoorDivBQ9
import Derived.RegionTactic
import Derived.Laws.Bits64b
import Derived.Laws.BitsAllLaws
import Derived.BigQuiet
namespace Go.Proofs.YtpbfipeinblfgaaGreatDoor
open Go.RowKit
set_option maxHeartbeats 2000000 in
theorem Unit_yes {p b : Nat} (h : rateB p b) (w : World) : Calls Tryz.prog 194 #[rv p b] w (Ret (.int .u64 (unitN b : Nat)) w) := by
  have hR := fun W => YR_yes h W
  have hU := fun W => unitOf_any h.2 W
  obtain ⟨U, hU'⟩ : ∃ U, unitN b = U := ⟨_, rfl⟩
  rw [hU'] at hU ⊢
  clear h hU'
  unfold rv at hR ⊢
  go_enter Tryz.func194, Tryz.ntmps194
  have HQ0 := Lib.hid (Blk.new w 25 #[.int .u32 (p : Int), .int .u8 (b : Int)])
  have HB0 := Lib.hid (b_alloc w (.cells #[.int .u32 (p : Int), .int .u8 (b : Int)] 25))
  go_wp2_with fail
  refine (hR _).mono ?_
  rintro e w1 ⟨rfl, hb1⟩
  have HQ1_0 := Lib.hid (HQ0.out.below hb1 HQ0.out.lt)
  have HB1 := Lib.hid (HB0.out.trans (hb1.mono HB0.out.size))
  clear hb1
  have c1_0_0 := HQ1_0.out.cell 0
  have c1_0_1 := HQ1_0.out.cell 1
  have z1_0 := HQ1_0.out.lt
  simp at c1_0_0 c1_0_1
  go_wp2_with fail
  refine (hU _).mono ?_
  rintro e w2 ⟨rfl, hb2⟩
  have HQ2_0 := Lib.hid (HQ1_0.out.below hb2 HQ1_0.out.lt)
  have HB2 := Lib.hid (HB1.out.trans (hb2.mono HB1.out.size))
  clear hb2 c1_0_0 c1_0_1 z1_0
  have c2_0_0 := HQ2_0.out.cell 0
  have c2_0_1 := HQ2_0.out.cell 1
  have z2_0 := HQ2_0.out.lt
  simp at c2_0_0 c2_0_1
  go_wp2_with fail
  go_ret
  exact ⟨rfl, HB2.out⟩
set_option maxHeartbeats 2000000 in
theorem Unit_no {p b : Nat} (h : ¬ rateB p b) (w : World) : Calls Tryz.prog 194 #[rv p b] w (Ret (.int .u64 0) w) := by
  have hR := fun W => YR_no h W
  clear h
  unfold rv at hR ⊢
  go_enter Tryz.func194, Tryz.ntmps194
  have HQ0 := Lib.hid (Blk.new w 25 #[.int .u32 (p : Int), .int .u8 (b : Int)])
  have HB0 := Lib.hid (b_alloc w (.cells #[.int .u32 (p : Int), .int .u8 (b : Int)] 25))
  go_wp2_with fail
  refine (hR _).mono ?_
  rintro e w1 ⟨rfl, hb1⟩
  have HQ1_0 := Lib.hid (HQ0.out.below hb1 HQ0.out.lt)
  have HB1 := Lib.hid (HB0.out.trans (hb1.mono HB0.out.size))
  clear hb1
  have c1_0_0 := HQ1_0.out.cell 0
  have c1_0_1 := HQ1_0.out.cell 1
  have z1_0 := HQ1_0.out.lt
  simp at c1_0_0 c1_0_1
  go_wp2_with fail
  go_ret
  exact ⟨rfl, HB1.out⟩
end Go.Proofs.YtpbfipeinblfgaaGreatDoor
namespace Go.Proofs.YtpbfipeinblfgaaGreatDoor
open Go.RowKit

theorem two_two {W W' : World} {g g' : Nat} {t t' : TypeId} {a b c d : Value} (h : Blk W g t #[a, b]) (h' : Blk W g' t' #[c, d]) (hb : Below W.heap.size W W') :
    W'.cell? ⟨g, 0, none⟩ = some a ∧ W'.cell? ⟨g, 1, none⟩ = some b ∧ W'.cell? ⟨g', 0, none⟩ = some c ∧ W'.cell? ⟨g', 1, none⟩ = some d :=
  ⟨(h.below hb h.lt).cell 0, (h.below hb h.lt).cell 1, (h'.below hb h'.lt).cell 0, (h'.below hb h'.lt).cell 1⟩
set_option maxRecDepth 20000 in
set_option maxHeartbeats 4000000 in
theorem Days_yes {P p b d c : Nat} (hP : P ≤ 1000000000000) (hr : rateB p b) (hd : d ≤ 100000) (hc : c < unitN b) (w : World) :
    Calls Tryz.prog 157 #[rv p b, .int .i64 (P : Int), .int .i64 (d : Int), .int .u64 (c : Int)] w (Ret (.tuple #[.int .i64 (((P * p * d + c) / unitN b : Nat) : Int), .int .u64 (((P * p * d + c) % unitN b : Nat) : Int), .nilIface]) w) := by
  have hT := fun W => takes_yes hr (P := (P : Int)) (by omega) (by omega) W
  have hU := fun W => Unit_yes hr W
  have hX := pp_le hP hr.1
  have hUb := unitN_bd b
  obtain ⟨X, hXe⟩ : ∃ X, P * p = X := ⟨_, rfl⟩
  have hDl := fun W => daily_any b hP hr.1 hXe W
  rw [hXe] at hX ⊢
  obtain ⟨U, hUe⟩ : ∃ U, unitN b = U := ⟨_, rfl⟩
  rw [hUe] at hU hUb hc ⊢
  have hM := fun W => Mul_any X d (by omega) (by omega) W
  have hS := pcs_le hX hd (show c < 18446744073709551616 by omega)
  have hQ := pcs_div hX hd hUb.1 hc
  obtain ⟨h, l, e1, e2, hl⟩ := wof_ex (X * d)
  rw [e1] at hM
  have hA := fun W => Add_ok h l c (X * d + c) hl (by omega) (by rw [e2]) hS W
  obtain ⟨S, hSe⟩ : ∃ S, X * d + c = S := ⟨_, rfl⟩
  rw [hSe] at hA hS hQ ⊢
  obtain ⟨sh, sl, e3, e4, hsl⟩ := wof_ex S
  rw [e3] at hA
  have hDv := fun W => Div_some sh sl U (by omega) hsl (by omega) (by omega) W
  rw [← e4] at hDv
  obtain ⟨q, hqe⟩ : ∃ q, S / U = q := ⟨_, rfl⟩
  obtain ⟨s, hse⟩ : ∃ s, S % U = s := ⟨_, rfl⟩
  rw [hqe] at hDv hQ ⊢
  rw [hse] at hDv ⊢
  rw [wof_small q (by omega)] at hDv
  have hSm := fun W => Small_ok q W
  have i1 : ¬ (d : Int) < 0 := by omega
  have i2 : ¬ (100000 : Int) < (d : Int) := by omega
  have i3 : ¬ (U : Int) ≤ (c : Int) := by omega
  have i4 : IntKind.u64.wrap (d : Int) = (d : Int) := by rw [IntKind.wrap_u64]; omega
  have i5 : IntKind.i64.wrap (q : Int) = (q : Int) := by rw [IntKind.wrap_i64]; omega
  unfold wv at hA hDv hSm
  unfold rv at hT hU hDl ⊢
  clear hP hr hd hc hX hUb hXe hUe hS hQ e1 e2 hl hSe e3 e4 hsl hqe hse
  go_enter Tryz.func157, Tryz.ntmps157
  have HQ0 := Lib.hid (Blk.new w 25 #[.int .u32 (p : Int), .int .u8 (b : Int)])
  have HB0 := Lib.hid (b_alloc w (.cells #[.int .u32 (p : Int), .int .u8 (b : Int)] 25))
  go_wp2_with fail
  refine (hT _).mono ?_
  rintro e w1 ⟨rfl, hb1⟩
  have HQ1_0 := Lib.hid (HQ0.out.below hb1 HQ0.out.lt)
  have HB1 := Lib.hid (HB0.out.trans (hb1.mono HB0.out.size))
  clear hb1
  have c1_0_0 := HQ1_0.out.cell 0
  have c1_0_1 := HQ1_0.out.cell 1
  have z1_0 := HQ1_0.out.lt
  simp at c1_0_0 c1_0_1
  go_wp2_with fail
  refine (hU _).mono ?_
  rintro e w2 ⟨rfl, hb2⟩
  have HQ2_0 := Lib.hid (HQ1_0.out.below hb2 HQ1_0.out.lt)
  have HB2 := Lib.hid (HB1.out.trans (hb2.mono HB1.out.size))
  clear hb2 c1_0_0 c1_0_1 z1_0
  have c2_0_0 := HQ2_0.out.cell 0
  have c2_0_1 := HQ2_0.out.cell 1
  have z2_0 := HQ2_0.out.lt
  simp at c2_0_0 c2_0_1
  go_wp2_with fail
  refine (hDl _).mono ?_
  rintro e w3 ⟨rfl, hb3⟩
  have HQ3_0 := Lib.hid (HQ2_0.out.below hb3 HQ2_0.out.lt)
  have HB3 := Lib.hid (HB2.out.trans (hb3.mono HB2.out.size))
  clear hb3 c2_0_0 c2_0_1 z2_0
  have c3_0_0 := HQ3_0.out.cell 0
  have c3_0_1 := HQ3_0.out.cell 1
  have z3_0 := HQ3_0.out.lt
  simp at c3_0_0 c3_0_1
  go_wp2_with fail
  refine (hM _).mono ?_
  rintro e w4 ⟨rfl, hb4⟩
  have HQ4_0 := Lib.hid (HQ3_0.out.below hb4 HQ3_0.out.lt)
  have HB4 := Lib.hid (HB3.out.trans (hb4.mono HB3.out.size))
  clear hb4 c3_0_0 c3_0_1 z3_0
  have c4_0_0 := HQ4_0.out.cell 0
  have c4_0_1 := HQ4_0.out.cell 1
  have z4_0 := HQ4_0.out.lt
  simp at c4_0_0 c4_0_1
  go_wp2_with fail
  refine (hA _).mono ?_
  rintro e w5 ⟨rfl, hb5⟩
  have HQ5_0 := Lib.hid (HQ4_0.out.below hb5 HQ4_0.out.lt)
  have HB5 := Lib.hid (HB4.out.trans (hb5.mono HB4.out.size))
  clear hb5 c4_0_0 c4_0_1 z4_0
  have c5_0_0 := HQ5_0.out.cell 0
  have c5_0_1 := HQ5_0.out.cell 1
  have z5_0 := HQ5_0.out.lt
  simp at c5_0_0 c5_0_1
  have HQ6_0 := Lib.hid (HQ5_0.out.alloc (.cells #[.int .u64 (sh : Int), .int .u64 (sl : Int)] 276))
  have HQ6_1 := Lib.hid (Blk.new w5 276 #[.int .u64 (sh : Int), .int .u64 (sl : Int)])
  have HB6 := Lib.hid (HB5.out.alloc HB5.out.size (.cells #[.int .u64 (sh : Int), .int .u64 (sl : Int)] 276))
  go_wp2_with fail
  obtain ⟨G, hG⟩ : ∃ G, w5.heap.size = G := ⟨_, rfl⟩
  obtain ⟨W7, hW7⟩ : ∃ W, (w5.alloc (.cells #[.int .u64 (sh : Int), .int .u64 (sl : Int)] 276)) = W := ⟨_, rfl⟩
  have R7 : Hid (Blk W7 w.heap.size 25 #[.int .u32 (p : Int), .int .u8 (b : Int)]) := Lib.hid (by rw [← hW7]; exact HQ6_0.out)
  have N7 : Hid (Blk W7 G 276 #[.int .u64 (sh : Int), .int .u64 (sl : Int)]) := Lib.hid (by rw [← hW7, ← hG]; exact HQ6_1.out)
  have B7 : Hid (Below w.heap.size w W7) := Lib.hid (by rw [← hW7]; exact HB6.out)
  rw [hW7, hG]
  clear hW7 hG HQ6_0 HQ6_1 HB6 HB1 HB2 HB3 HB4 HB5 HB0 HQ0 HQ1_0 HQ2_0 HQ3_0 HQ4_0 HQ5_0
  go_cut [12, 13, 14] from 49 to 56 (fun x y z wx => ∃ g, x = .nilIface ∧ y = .pointer (some ⟨g, 0, none⟩) ∧ z = .int .u64 (s : Int) ∧ Blk wx g 276 #[.int .u64 0, .int .u64 (q : Int)] ∧ Below W7.heap.size W7 wx)
  case first =>
    have hr7 := Below.refl W7.heap.size W7
    have hs7 : W7.heap.size ≤ W7.heap.size := Nat.le_refl _
    go_region_held3 (fun W => W.cell? ⟨w.heap.size, 0, none⟩ = some (.int .u32 (p : Int)) ∧ W.cell? ⟨w.heap.size, 1, none⟩ = some (.int .u8 (b : Int)) ∧ W.cell? ⟨G, 0, none⟩ = some (.int .u64 (sh : Int)) ∧ W.cell? ⟨G, 1, none⟩ = some (.int .u64 (sl : Int))) ((refine two_two R7.out N7.out ?_; go_grown))
      (first
        | (go_at_call 194; go_must (refine (hU _).mono ?_); rintro e w8 ⟨rfl, hb8⟩; have hb78 : Below W7.heap.size W7 w8 := (by (refine Below.trans ?_ (hb8.mono ?_)) <;> go_grown); have hs8 := hb78.size; (try (have Z8 : Hid (Blk w8 W7.heap.size 276 #[.int .u64 0, .int .u64 0]) := Lib.hid (by first | exact (Blk.new W7 _ _).below hb8 (by simp) | exact ((Blk.new W7 _ _).drew).below hb8 (by simp)))); clear hb8)
        | (go_at_call 197; go_must (refine (hDv _).mono ?_); rintro e w9 ⟨rfl, hb9⟩; have hb79 : Below W7.heap.size W7 w9 := (by (refine Below.trans ?_ (hb9.mono ?_)) <;> go_grown); have hs9 := hb79.size; (first | (have Z9 : Hid (Blk w9 W7.heap.size 276 #[.int .u64 0, .int .u64 0]) := Lib.hid (by first | exact Z8.out.below hb9 Z8.out.lt | exact Z8.out.drew.below hb9 Z8.out.lt)) | (have Z9 : Hid (Blk w9 w8.heap.size 276 #[.int .u64 0, .int .u64 0]) := Lib.hid (by first | exact (Blk.new w8 _ _).below hb9 (by simp) | exact ((Blk.new w8 _ _).drew).below hb9 (by simp))) | skip); (try (have m0 := Z9.out.cell 0; have m1 := Z9.out.cell 1; have g0 := Z9.out.frozen 0; have g1 := Z9.out.frozen 1; simp at m0 m1)); clear hb9))
    all_goals
      go_wp2_with fail
      go_meet
      case rel =>
        refine ⟨_, rfl, rfl, rfl, ?_, ?_⟩
        · first
            | (with_reducible exact Blk.new w9 _ _)
            | exact ((Z9.out.set_ 0 (.int .u64 0)).set_ 1 (.int .u64 (q : Int)))
        · go_grown
  case rest =>
    obtain ⟨g, rfl, rfl, rfl, hR8, hb78⟩ := hcut
    have B8 := Lib.hid (B7.out.trans (hb78.mono B7.out.size))
    have m0 := hR8.cell 0
    have m1 := hR8.cell 1
    simp at m0 m1
    clear hb78
    go_wp2_with fail
    refine (hSm _).mono ?_
    rintro e w10 ⟨rfl, hb10⟩
    have B10 := Lib.hid (B8.out.trans (hb10.mono B8.out.size))
    clear hb10 m0 m1
    go_wp2_with fail
    go_ret3
    exact ⟨rfl, B10.out⟩
set_option maxRecDepth 20000 in
set_option maxHeartbeats 4000000 in
theorem Days_take {P : Int} {p b : Nat} (d : Int) (c : Nat) (h : ¬ (rateB p b ∧ 0 ≤ P ∧ P ≤ 1000000000000)) (w : World) :
    Calls Tryz.prog 157 #[rv p b, .int .i64 P, .int .i64 d, .int .u64 (c : Int)] w (Ret (.tuple #[.int .i64 0, .int .u64 0, eno 1]) w) := by
  have hT := fun W => takes_no h W
  clear h
  unfold rv at hT
  unfold rv eno
  go_enter Tryz.func157, Tryz.ntmps157
  have HQ0 := Lib.hid (Blk.new w 25 #[.int .u32 (p : Int), .int .u8 (b : Int)])
  have HB0 := Lib.hid (b_alloc w (.cells #[.int .u32 (p : Int), .int .u8 (b : Int)] 25))
  go_wp2_with fail
  refine (hT _).mono ?_
  rintro e w1 ⟨rfl, hb1⟩
  have HQ1_0 := Lib.hid (HQ0.out.below hb1 HQ0.out.lt)
  have HB1 := Lib.hid (HB0.out.trans (hb1.mono HB0.out.size))
  clear hb1
  have c1_0_0 := HQ1_0.out.cell 0
  have c1_0_1 := HQ1_0.out.cell 1
  have z1_0 := HQ1_0.out.lt
  simp at c1_0_0 c1_0_1
  go_wp2_with fail
  go_ret3
  exact ⟨rfl, HB1.out⟩
set_option maxRecDepth 20000 in
set_option maxHeartbeats 4000000 in
theorem Days_neg {P d : Int} {p b : Nat} (c : Nat) (h : rateB p b) (h0 : 0 ≤ P) (h1 : P ≤ 1000000000000) (hd : d < 0) (w : World) :
    Calls Tryz.prog 157 #[rv p b, .int .i64 P, .int .i64 d, .int .u64 (c : Int)] w (Ret (.tuple #[.int .i64 0, .int .u64 0, eno 1]) w) := by
  have hT := fun W => takes_yes h h0 h1 W
  clear h h0 h1
  unfold rv at hT
  unfold rv eno
  go_enter Tryz.func157, Tryz.ntmps157
  have HQ0 := Lib.hid (Blk.new w 25 #[.int .u32 (p : Int), .int .u8 (b : Int)])
  have HB0 := Lib.hid (b_alloc w (.cells #[.int .u32 (p : Int), .int .u8 (b : Int)] 25))
  go_wp2_with fail
  refine (hT _).mono ?_
  rintro e w1 ⟨rfl, hb1⟩
  have HQ1_0 := Lib.hid (HQ0.out.below hb1 HQ0.out.lt)
  have HB1 := Lib.hid (HB0.out.trans (hb1.mono HB0.out.size))
  clear hb1
  have c1_0_0 := HQ1_0.out.cell 0
  have c1_0_1 := HQ1_0.out.cell 1
  have z1_0 := HQ1_0.out.lt
  simp at c1_0_0 c1_0_1
  go_wp2_with fail
  go_ret3
  exact ⟨rfl, HB1.out⟩
set_option maxRecDepth 20000 in
set_option maxHeartbeats 4000000 in
theorem Days_long {P d : Int} {p b : Nat} (c : Nat) (h : rateB p b) (h0 : 0 ≤ P) (h1 : P ≤ 1000000000000) (hd0 : ¬ d < 0) (hd : 100000 < d) (w : World) :
    Calls Tryz.prog 157 #[rv p b, .int .i64 P, .int .i64 d, .int .u64 (c : Int)] w (Ret (.tuple #[.int .i64 0, .int .u64 0, eno 1]) w) := by
  have hT := fun W => takes_yes h h0 h1 W
  clear h h0 h1
  unfold rv at hT
  unfold rv eno
  go_enter Tryz.func157, Tryz.ntmps157
  have HQ0 := Lib.hid (Blk.new w 25 #[.int .u32 (p : Int), .int .u8 (b : Int)])
  have HB0 := Lib.hid (b_alloc w (.cells #[.int .u32 (p : Int), .int .u8 (b : Int)] 25))
  go_wp2_with fail
  refine (hT _).mono ?_
  rintro e w1 ⟨rfl, hb1⟩
  have HQ1_0 := Lib.hid (HQ0.out.below hb1 HQ0.out.lt)
  have HB1 := Lib.hid (HB0.out.trans (hb1.mono HB0.out.size))
  clear hb1
  have c1_0_0 := HQ1_0.out.cell 0
  have c1_0_1 := HQ1_0.out.cell 1
  have z1_0 := HQ1_0.out.lt
  simp at c1_0_0 c1_0_1
  go_wp2_with fail
  go_ret3
  exact ⟨rfl, HB1.out⟩
set_option maxRecDepth 20000 in
set_option maxHeartbeats 4000000 in
theorem Days_unit {P d : Int} {p b c : Nat} (h : rateB p b) (h0 : 0 ≤ P) (h1 : P ≤ 1000000000000) (hd0 : ¬ d < 0) (hd : ¬ 100000 < d) (hc : unitN b ≤ c) (w : World) :
    Calls Tryz.prog 157 #[rv p b, .int .i64 P, .int .i64 d, .int .u64 (c : Int)] w (Ret (.tuple #[.int .i64 0, .int .u64 0, eno 1]) w) := by
  have hT := fun W => takes_yes h h0 h1 W
  have hU := fun W => Unit_yes h W
  obtain ⟨U, hUe⟩ : ∃ U, unitN b = U := ⟨_, rfl⟩
  rw [hUe] at hU hc
  have i1 : (U : Int) ≤ (c : Int) := by omega
  clear h h0 h1 hUe hc
  unfold rv at hT hU
  unfold rv eno
  go_enter Tryz.func157, Tryz.ntmps157
  have HQ0 := Lib.hid (Blk.new w 25 #[.int .u32 (p : Int), .int .u8 (b : Int)])
  have HB0 := Lib.hid (b_alloc w (.cells #[.int .u32 (p : Int), .int .u8 (b : Int)] 25))
  go_wp2_with fail
  refine (hT _).mono ?_
  rintro e w1 ⟨rfl, hb1⟩
  have HQ1_0 := Lib.hid (HQ0.out.below hb1 HQ0.out.lt)
  have HB1 := Lib.hid (HB0.out.trans (hb1.mono HB0.out.size))
  clear hb1
  have c1_0_0 := HQ1_0.out.cell 0
  have c1_0_1 := HQ1_0.out.cell 1
  have z1_0 := HQ1_0.out.lt
  simp at c1_0_0 c1_0_1
  go_wp2_with fail
  refine (hU _).mono ?_
  rintro e w2 ⟨rfl, hb2⟩
  have HQ2_0 := Lib.hid (HQ1_0.out.below hb2 HQ1_0.out.lt)
  have HB2 := Lib.hid (HB1.out.trans (hb2.mono HB1.out.size))
  clear hb2 c1_0_0 c1_0_1 z1_0
  have c2_0_0 := HQ2_0.out.cell 0
  have c2_0_1 := HQ2_0.out.cell 1
  have z2_0 := HQ2_0.out.lt
  simp at c2_0_0 c2_0_1
  go_wp2_with fail
  go_ret3
  exact ⟨rfl, HB2.out⟩
theorem Days_no {P d : Int} {p b c : Nat} (h : ¬ (rateB p b ∧ 0 ≤ P ∧ P ≤ 1000000000000 ∧ 0 ≤ d ∧ d ≤ 100000 ∧ c < unitN b)) (w : World) :
    Calls Tryz.prog 157 #[rv p b, .int .i64 P, .int .i64 d, .int .u64 (c : Int)] w (Ret (.tuple #[.int .i64 0, .int .u64 0, eno 1]) w) := by
  by_cases h1 : rateB p b ∧ 0 ≤ P ∧ P ≤ 1000000000000
  · obtain ⟨hr, h0, h1⟩ := h1
    by_cases hd : d < 0
    · exact Days_neg c hr h0 h1 hd w
    · by_cases hd2 : 100000 < d
      · exact Days_long c hr h0 h1 hd hd2 w
      · by_cases hc : c < unitN b
        · exact absurd ⟨hr, h0, h1, by omega, by omega, hc⟩ h
        · exact Days_unit hr h0 h1 hd hd2 (by omega) w
  · exact Days_take d c h1 w
end Go.Proofs.YtpbfipeinblfgaaGreatDoor
namespace Go.Proofs.YtpbfipeinblfgaaGreatDoor
open Go.RowKit

/-- A rate of the document's. -/
def rr (p : Nat) (th : Bool) : Value := .agg #[.int .u32 (p : Int), .bool th]
theorem set2 {w : World} {g : Nat} {t : TypeId} {c0 c1 : Value} (h : Blk w g t #[c0, c1]) (x y : Value) :
    ((w.setCell ⟨g, 0, none⟩ x).setCell ⟨g, 1, none⟩ y).cell? ⟨g, 0, none⟩ = some x ∧ ((w.setCell ⟨g, 0, none⟩ x).setCell ⟨g, 1, none⟩ y).cell? ⟨g, 1, none⟩ = some y :=
  ⟨((h.set_ 0 x).set_ 1 y).cell 0, ((h.set_ 0 x).set_ 1 y).cell 1⟩
set_option maxRecDepth 20000 in
set_option maxHeartbeats 4000000 in
theorem RUnit_1 (p : Nat) (w : World) : Calls Tryz.prog 67 #[rr p false] w (Ret (.int .u64 365000000) w) := by
  unfold rr
  go_enter Tryz.func67, Tryz.ntmps67
  go_wp2_with fail
  go_ret
  exact ⟨rfl, b_alloc _ _⟩
set_option maxRecDepth 20000 in
set_option maxHeartbeats 4000000 in
theorem RUnit_2 (p : Nat) (w : World) : Calls Tryz.prog 67 #[rr p true] w (Ret (.int .u64 360000000) w) := by
  unfold rr
  go_enter Tryz.func67, Tryz.ntmps67
  go_wp2_with fail
  go_ret
  exact ⟨rfl, b_alloc _ _⟩
/-- What may be. -/
def okB (p b : Nat) (P d : Int) (c : Nat) : Prop := rateB p b ∧ 0 ≤ P ∧ P ≤ 1000000000000 ∧ 0 ≤ d ∧ d ≤ 100000 ∧ c < unitN b
instance (p b : Nat) (P d : Int) (c : Nat) : Decidable (okB p b P d c) := inferInstanceAs (Decidable (_ ∧ _))
end Go.Proofs.YtpbfipeinblfgaaGreatDoor
namespace Go.Proofs.YtpbfipeinblfgaaGreatDoor
open Go.RowKit

theorem cell8 (x0 x1 x2 x3 x4 x5 x6 x7 : Nat) (i : Nat) (hi : i < 8) : (#[Value.int .u32 (x0 : Int), .int .u32 (x1 : Int), .int .u32 (x2 : Int), .int .u32 (x3 : Int), .int .u32 (x4 : Int), .int .u32 (x5 : Int), .int .u32 (x6 : Int), .int .u32 (x7 : Int)])[i]? = some (.int .u32 (([x0, x1, x2, x3, x4, x5, x6, x7].getD i 0 : Nat) : Int)) := by
  rcases i with _ | _ | _ | _ | _ | _ | _ | _ | i
  all_goals first
    | rfl
    | omega
theorem set_u32 (f : List Nat) (k p : Nat) : (f.map fun n : Nat => Value.int .u32 (n : Int)).toArray.setIfInBounds k (.int .u32 (p : Int)) = ((f.set k p).map fun n : Nat => Value.int .u32 (n : Int)).toArray := by
  rw [List.map_set]
  simp
/-- The bit t of a number, out of its digit. -/
theorem bit_of (N k s : Nat) (hs : s < 16) : N / 65536 ^ k % 65536 / 2 ^ s % 2 = N / 2 ^ (16 * k + s) % 2 := by
  have e : (65536 : Nat) = 2 ^ s * 2 ^ (16 - s) := by rw [← Nat.pow_add, show s + (16 - s) = 16 by omega]
  have e2 : N / 65536 ^ k % 65536 / 2 ^ s = N / 65536 ^ k / 2 ^ s % 2 ^ (16 - s) := by
    rw [show N / 65536 ^ k % 65536 = N / 65536 ^ k % (2 ^ s * 2 ^ (16 - s)) by rw [← e], Nat.mod_mul_right_div_self]
  rw [e2, Nat.mod_mod_of_dvd _ (by rw [show 16 - s = (15 - s) + 1 by omega, Nat.pow_succ]; exact Nat.dvd_mul_left 2 _), Nat.div_div_eq_div_mul]
  congr 2
  rw [show (65536 : Nat) = 2 ^ 16 from rfl, ← Nat.pow_mul, ← Nat.pow_add]
/-- A digit of a multiple of 2 ^ (t + 1) takes the bit t. -/
theorem digit_or (L : List Nat) (k s c : Nat) (hs : s < 16) (hk : k < L.length) (hL : ∀ u ∈ L, u < 65536) (hv : valR L = c * 2 ^ (16 * k + s + 1)) :
    L[k] ||| 2 ^ s = L[k] + 2 ^ s ∧ L[k] + 2 ^ s < 65536 := by
  have h1 := digit_at L k hk hL
  have e16 : (65536 : Nat) = 2 ^ (15 - s) * 2 ^ (s + 1) := by rw [← Nat.pow_add, show 15 - s + (s + 1) = 16 by omega]
  have h2 : valR L / 65536 ^ k = c * 2 ^ (s + 1) := by
    rw [hv, show (65536 : Nat) ^ k = 2 ^ (16 * k) by rw [show (65536 : Nat) = 2 ^ 16 from rfl, ← Nat.pow_mul], show 16 * k + s + 1 = s + 1 + 16 * k by omega, Nat.pow_add, ← Nat.mul_assoc, Nat.mul_div_cancel _ (Nat.two_pow_pos _)]
  have h3 : L[k] = c % 2 ^ (15 - s) * 2 ^ (s + 1) := by
    rw [h1, h2, e16, Nat.mul_mod_mul_right]
  have hlt : c % 2 ^ (15 - s) < 2 ^ (15 - s) := Nat.mod_lt _ (Nat.two_pow_pos _)
  obtain ⟨e, he⟩ : ∃ e, c % 2 ^ (15 - s) = e := ⟨_, rfl⟩
  rw [he] at h3 hlt
  have hps : 2 ^ (s + 1) = 2 * 2 ^ s := by rw [Nat.pow_succ, Nat.mul_comm]
  have hpos := Nat.two_pow_pos s
  constructor
  · rw [h3, shift_or e (2 ^ s) (s + 1) (by rw [hps]; omega)]
  · have h4 : (e + 1) * 2 ^ (s + 1) ≤ 65536 := by
      rw [e16]
      exact Nat.mul_le_mul_right _ hlt
    rw [Nat.add_mul, Nat.one_mul, ← h3] at h4
    omega
/-- One bit more of a quotient. -/
theorem div_bit (N n t bit : Nat) (hn : 0 < n) (hb : bit = N / 2 ^ t % 2) :
    N / 2 ^ t = 2 * (N / 2 ^ (t + 1)) + bit ∧
      (2 * (N / 2 ^ (t + 1) % n) + bit < n → N / 2 ^ t % n = 2 * (N / 2 ^ (t + 1) % n) + bit ∧ N / 2 ^ t / n * 2 ^ t = N / 2 ^ (t + 1) / n * 2 ^ (t + 1)) ∧
      (n ≤ 2 * (N / 2 ^ (t + 1) % n) + bit → N / 2 ^ t % n = 2 * (N / 2 ^ (t + 1) % n) + bit - n ∧ N / 2 ^ t / n * 2 ^ t = N / 2 ^ (t + 1) / n * 2 ^ (t + 1) + 2 ^ t) := by
  have e0 : N / 2 ^ (t + 1) = N / 2 ^ t / 2 := by rw [Nat.pow_succ, Nat.div_div_eq_div_mul]
  have e1 : N / 2 ^ t = 2 * (N / 2 ^ (t + 1)) + bit := by omega
  refine ⟨e1, ?_, ?_⟩
  · intro h
    obtain ⟨Q, hQ⟩ : ∃ Q, N / 2 ^ (t + 1) = Q := ⟨_, rfl⟩
    rw [hQ] at e1 h ⊢
    have d := Nat.div_add_mod Q n
    have e2 : N / 2 ^ t = n * (2 * (Q / n)) + (2 * (Q % n) + bit) := by
      rw [e1, Nat.mul_left_comm]
      omega
    rw [e2, Nat.mul_add_mod, Nat.mod_eq_of_lt h, Nat.mul_add_div hn, Nat.div_eq_of_lt h]
    refine ⟨rfl, ?_⟩
    rw [Nat.add_zero, Nat.pow_succ, Nat.mul_comm (2 ^ t) 2, ← Nat.mul_assoc, Nat.mul_comm 2 (Q / n)]
  · intro h
    obtain ⟨Q, hQ⟩ : ∃ Q, N / 2 ^ (t + 1) = Q := ⟨_, rfl⟩
    rw [hQ] at e1 h ⊢
    have d := Nat.div_add_mod Q n
    have hm := Nat.mod_lt Q hn
    have e2 : N / 2 ^ t = n * (2 * (Q / n) + 1) + (2 * (Q % n) + bit - n) := by
      rw [e1, Nat.mul_add, Nat.mul_left_comm, Nat.mul_one]
      omega
    have hl : 2 * (Q % n) + bit - n < n := by omega
    rw [e2, Nat.mul_add_mod, Nat.mod_eq_of_lt hl, Nat.mul_add_div hn, Nat.div_eq_of_lt hl]
    refine ⟨rfl, ?_⟩
    rw [Nat.add_zero, Nat.add_mul, Nat.one_mul, Nat.pow_succ, Nat.mul_comm (2 ^ t) 2, ← Nat.mul_assoc, Nat.mul_comm 2 (Q / n)]
theorem or_bit (a A bit : Nat) (hb : bit < 2) (hA : A = a * 2) (ha : A < 18446744073709551616) : bits .or .u64 (A : Int) (bit : Int) = ((A + bit : Nat) : Int) := by
  subst hA
  have h := bits_or_u64_nat (a * 2) bit ha (by omega)
  have h2 := shift_or a bit 1 hb
  rw [Nat.pow_one] at h2
  rw [h2] at h
  exact h

set_option maxHeartbeats 8000000 in
set_option maxRecDepth 20000 in
theorem RefDiv_any (N n : Nat) (hN : N < 340282366920938463463374607431768211456) (hn0 : 0 < n) (hn : n < 18446744073709551616) (w : World) :
    Calls Tryz.prog 66 #[bgv (digsR 8 N), .int .u64 n] w fun e w' => e = .returned (.tuple #[bgv (digsR 8 (N / n)), .int .u64 ((N % n : Nat) : Int)]) ∧ Below w.heap.size w w' := by
  obtain ⟨x0, x1, x2, x3, x4, x5, x6, x7, ex⟩ := eight (digsR 8 N) (digs_length 8 N)
  have hdx : ∀ k, k < 8 → [x0, x1, x2, x3, x4, x5, x6, x7].getD k 0 = N / 65536 ^ k % 65536 := by
    intro k hk
    rw [← ex, List.getD_eq_getElem?_getD, List.getElem?_eq_getElem (by rw [digs_length]; exact hk)]
    have h := digit_at (digsR 8 N) k (by rw [digs_length]; exact hk) (digs_lt 8 N)
    rw [val_digsR 8 N hN] at h
    exact h
  have HX := Lib.hid hdx
  rw [ex]
  clear ex hdx
  simp only [bgv, List.map_cons, List.map_nil]
  have HNl := Lib.hid hN
  clear hN
  go_enter Tryz.func66, Tryz.ntmps66
  go_wp2_with fail
  go_loopw [7, 8] (fun y z wr => ∃ (m : Nat) (L : List Nat), m ≤ 128 ∧ y = .int .u64 ((N / 2 ^ m % n : Nat) : Int) ∧ z = .int .i64 ((m : Int) - 1) ∧ L.length = 8 ∧ (∀ u ∈ L, u < 65536) ∧ valR L = N / 2 ^ m / n * 2 ^ m ∧
    Blk wr (w.heap.size + 1 + 1) 133 (L.map fun n : Nat => Value.int .u32 (n : Int)).toArray ∧
    Blk wr w.heap.size 133 #[.int .u32 x0, .int .u32 x1, .int .u32 x2, .int .u32 x3, .int .u32 x4, .int .u32 x5, .int .u32 x6, .int .u32 x7] ∧
    Blk wr (w.heap.size + 1) 133 #[.int .u32 0, .int .u32 0, .int .u32 0, .int .u32 0, .int .u32 0, .int .u32 0, .int .u32 0, .int .u32 0] ∧ Below w.heap.size w wr) (fun _ z _ => (intOf z + 1).toNat)
  case atStart =>
    have hz : N / 2 ^ 128 = 0 := Nat.div_eq_of_lt HNl.out
    refine ⟨128, List.replicate 8 0, by omega, by rw [hz]; simp, rfl, rfl, fun u hu => by rw [List.eq_of_mem_replicate hu]; decide, by rw [hz]; simp [valR], ?_, ?_, ?_, ?_⟩
    · have h := Blk.new ((w.alloc (.cells #[.int .u32 x0, .int .u32 x1, .int .u32 x2, .int .u32 x3, .int .u32 x4, .int .u32 x5, .int .u32 x6, .int .u32 x7] 133)).alloc (.cells #[.int .u32 0, .int .u32 0, .int .u32 0, .int .u32 0, .int .u32 0, .int .u32 0, .int .u32 0, .int .u32 0] 133)) 133 #[.int .u32 0, .int .u32 0, .int .u32 0, .int .u32 0, .int .u32 0, .int .u32 0, .int .u32 0, .int .u32 0]
      simp only [World.size_alloc] at h
      exact h
    · exact ((Blk.new w _ _).alloc _).alloc _
    · have h := Blk.new (w.alloc (.cells #[.int .u32 x0, .int .u32 x1, .int .u32 x2, .int .u32 x3, .int .u32 x4, .int .u32 x5, .int .u32 x6, .int .u32 x7] 133)) 133 #[.int .u32 0, .int .u32 0, .int .u32 0, .int .u32 0, .int .u32 0, .int .u32 0, .int .u32 0, .int .u32 0]
      simp only [World.size_alloc] at h
      exact h.alloc _
    · exact (((Below.refl _ _).alloc (Nat.le_refl _) _).alloc (by simp) _).alloc (by simp; omega) _
  case round =>
    obtain ⟨m, L, hm, rfl, rfl, hLl, hLb, hLv, hK, hKx, hK4, hbw⟩ := hrel
    rcases m with _ | t
    · have e0 : N / 2 ^ 0 = N := by rw [Nat.pow_zero, Nat.div_one]
      rw [e0, Nat.pow_zero, Nat.mul_one] at hLv
      rw [e0]
      obtain ⟨v0, v1, v2, v3, v4, v5, v6, v7, eL⟩ := eight L hLl
      have HLt : Hid ([v0, v1, v2, v3, v4, v5, v6, v7] = digsR 8 (N / n)) := Lib.hid (by rw [← eL, ← hLv, ← hLl, digs_valR L hLb])
      subst eL
      have a0 := hK.cell 0; have a1 := hK.cell 1; have a2 := hK.cell 2; have a3 := hK.cell 3; have a4 := hK.cell 4; have a5 := hK.cell 5; have a6 := hK.cell 6; have a7 := hK.cell 7
      simp only [List.map_cons, List.map_nil, List.getElem?_toArray, List.getElem?_cons_zero, List.getElem?_cons_succ] at a0 a1 a2 a3 a4 a5 a6 a7
      have b0 := hK4.cell 0; have b1 := hK4.cell 1; have b2 := hK4.cell 2; have b3 := hK4.cell 3; have b4 := hK4.cell 4; have b5 := hK4.cell 5; have b6 := hK4.cell 6; have b7 := hK4.cell 7
      have f0 := hK4.frozen 0; have f1 := hK4.frozen 1; have f2 := hK4.frozen 2; have f3 := hK4.frozen 3; have f4 := hK4.frozen 4; have f5 := hK4.frozen 5; have f6 := hK4.frozen 6; have f7 := hK4.frozen 7
      simp only [List.getElem?_toArray, List.getElem?_cons_zero, List.getElem?_cons_succ] at b0 b1 b2 b3 b4 b5 b6 b7
      have HK4 := Lib.hid hK4
      have HBW := Lib.hid hbw
      obtain ⟨rN, hrN⟩ : ∃ rN, N % n = rN := ⟨_, rfl⟩
      have HrN := Lib.hid hrN
      rw [hrN]
      clear hLv hLl hLb hK hKx hK4 hbw hrN e0
      go_wp2_with fail
      have HB8 := (((((((HK4.out.set_ 0 (.int .u32 (v0 : Int))).set_ 1 (.int .u32 (v1 : Int))).set_ 2 (.int .u32 (v2 : Int))).set_ 3 (.int .u32 (v3 : Int))).set_ 4 (.int .u32 (v4 : Int))).set_ 5 (.int .u32 (v5 : Int))).set_ 6 (.int .u32 (v6 : Int))).set_ 7 (.int .u32 (v7 : Int))
      have q0 := HB8.cell 0; have q1 := HB8.cell 1; have q2 := HB8.cell 2; have q3 := HB8.cell 3; have q4 := HB8.cell 4; have q5 := HB8.cell 5; have q6 := HB8.cell 6; have q7 := HB8.cell 7
      have hbE := (((((((HBW.out.setCell (p := ⟨w.heap.size + 1, 0, none⟩) (Nat.le_succ _) (.int .u32 (v0 : Int))).setCell (p := ⟨w.heap.size + 1, 1, none⟩) (Nat.le_succ _) (.int .u32 (v1 : Int))).setCell (p := ⟨w.heap.size + 1, 2, none⟩) (Nat.le_succ _) (.int .u32 (v2 : Int))).setCell (p := ⟨w.heap.size + 1, 3, none⟩) (Nat.le_succ _) (.int .u32 (v3 : Int))).setCell (p := ⟨w.heap.size + 1, 4, none⟩) (Nat.le_succ _) (.int .u32 (v4 : Int))).setCell (p := ⟨w.heap.size + 1, 5, none⟩) (Nat.le_succ _) (.int .u32 (v5 : Int))).setCell (p := ⟨w.heap.size + 1, 6, none⟩) (Nat.le_succ _) (.int .u32 (v6 : Int))).setCell (p := ⟨w.heap.size + 1, 7, none⟩) (Nat.le_succ _) (.int .u32 (v7 : Int))
      obtain ⟨wE, hwE⟩ : ∃ W, ((((((((wr.setCell ⟨w.heap.size + 1, 0, none⟩ (.int .u32 (v0 : Int))).setCell ⟨w.heap.size + 1, 1, none⟩ (.int .u32 (v1 : Int))).setCell ⟨w.heap.size + 1, 2, none⟩ (.int .u32 (v2 : Int))).setCell ⟨w.heap.size + 1, 3, none⟩ (.int .u32 (v3 : Int))).setCell ⟨w.heap.size + 1, 4, none⟩ (.int .u32 (v4 : Int))).setCell ⟨w.heap.size + 1, 5, none⟩ (.int .u32 (v5 : Int))).setCell ⟨w.heap.size + 1, 6, none⟩ (.int .u32 (v6 : Int))).setCell ⟨w.heap.size + 1, 7, none⟩ (.int .u32 (v7 : Int))) = W := ⟨_, rfl⟩
      rw [hwE] at q0 q1 q2 q3 q4 q5 q6 q7 hbE ⊢
      refine bodyPost_ret (by simp [results, Tryz.results66, go_sem, q0, q1, q2, q3, q4, q5, q6, q7]; try rfl) rfl ?_
      exact ⟨by rw [← HLt.out, HrN.out]; rfl, hbE⟩
    · obtain ⟨k, hk⟩ : ∃ k, t / 16 = k := ⟨_, rfl⟩
      obtain ⟨s, hs⟩ : ∃ s, t % 16 = s := ⟨_, rfl⟩
      have hts : t = 16 * k + s := by omega
      have hs16 : s < 16 := by omega
      have hk8 : k < 8 := by omega
      have hbx := bit_of N k s hs16
      rw [← hts] at hbx
      obtain ⟨bit, hbit⟩ : ∃ bit, N / 2 ^ t % 2 = bit := ⟨_, rfl⟩
      rw [hbit] at hbx
      obtain ⟨d1, d2, d3⟩ := div_bit N n t bit hn0 hbit.symm
      have hrl := Nat.mod_lt (N / 2 ^ (t + 1)) hn0
      have cx : wr.cell? ⟨w.heap.size, k, none⟩ = some (.int .u32 ((N / 65536 ^ k % 65536 : Nat) : Int)) := by
        rw [← HX.out k hk8]
        exact (hKx.cell k).trans (cell8 x0 x1 x2 x3 x4 x5 x6 x7 k hk8)
      obtain ⟨xk, hxk⟩ : ∃ xk, N / 65536 ^ k % 65536 = xk := ⟨_, rfl⟩
      rw [hxk] at cx hbx
      have hxl : xk < 65536 := by omega
      have hkL : k < L.length := by omega
      obtain ⟨o1, o2⟩ := digit_or L k s _ hs16 hkL hLb (by rw [hLv, hts])
      have co : wr.cell? ⟨w.heap.size + 1 + 1, k, none⟩ = some (.int .u32 ((L[k] : Nat) : Int)) := (hK.cell k).trans (by simp [hkL])
      have fo : wr.frozen? ⟨w.heap.size + 1 + 1, k, none⟩ = false := hK.frozen k
      have hv := fun d => val_set L k (L[k] + d) hkL d rfl
      have hpw := pow_bit t
      rw [hk, hs] at hpw
      have hvs := hv (2 ^ s)
      rw [Nat.mul_comm (2 ^ s), hpw] at hvs
      obtain ⟨z, hz⟩ : ∃ z, L[k] = z := ⟨_, rfl⟩
      rw [hz] at o1 o2 co hvs
      obtain ⟨p, hp⟩ : ∃ p, 2 ^ s = p := ⟨_, rfl⟩
      have hpI : (2 : Int) ^ s = (p : Int) := by rw [← hp]; exact (Int.natCast_pow 2 s).symm
      rw [hp] at o1 o2 hbx hvs
      have hp16 : p < 65536 := by omega
      have hp0 : 0 < p := by rw [← hp]; exact Nat.two_pow_pos s
      obtain ⟨r, hr⟩ : ∃ r, N / 2 ^ (t + 1) % n = r := ⟨_, rfl⟩
      rw [hr] at d2 d3 hrl ⊢
      obtain ⟨y, hy⟩ : ∃ y, z + p = y := ⟨_, rfl⟩
      rw [hy] at o1 o2 hvs
      have hbl : bit < 2 := by omega
      have j1 : ((t + 1 : Nat) : Int) - 1 = (t : Int) := by omega
      rw [j1]
      have i1 : (t : Int) / 16 = (k : Int) := by omega
      have i2 : (t : Int) % 16 = (s : Int) := by omega
      obtain ⟨xq, hxq⟩ : ∃ xq, xk / p = xq := ⟨_, rfl⟩
      rw [hxq] at hbx
      have hxql : xq ≤ xk := by rw [← hxq]; exact Nat.div_le_self _ _
      have i3 : (xk : Int) / (p : Int) = (xq : Int) := by rw [← hxq]; rfl
      have i9 : (xq : Int) % 2 = (bit : Int) := by omega
      have i10 : (xq : Int).tmod 2 = (bit : Int) := by rw [← hbx]; rfl
      have i11 : IntKind.u64.wrap (xq : Int) = (xq : Int) := by rw [IntKind.wrap_u64]; omega
      have i4 : bits .or .u32 (z : Int) (p : Int) = (y : Int) := by rw [u32_or_nat z p (by omega) (by omega), o1]
      have i5 : IntKind.u32.wrap (p : Int) = (p : Int) := by rw [IntKind.wrap_u32]; omega
      have i6 : min s 32 = s := by omega
      have i7 : (t : Int).tdiv 16 = (k : Int) := by rw [← hk]; rfl
      have i8 : (t : Int).tmod 16 = (s : Int) := by rw [← hs]; rfl
      have HD1 := Lib.hid d2
      have HD2 := Lib.hid d3
      have HVs := Lib.hid hvs
      have HLv := Lib.hid hLv
      have HLb := Lib.hid hLb
      have HLl := Lib.hid hLl
      have HK := Lib.hid hK
      have HKx := Lib.hid hKx
      have HK4 := Lib.hid hK4
      clear hxq hxql d1 d2 d3 hvs hLv hLb hLl hK hKx hK4 hv hr hy hz hxk hk hs hts hbx hbit hpw hp o1 j1
      by_cases htop : 9223372036854775808 ≤ r
      · obtain ⟨a, ha⟩ : ∃ a, 2 * r - 18446744073709551616 = a := ⟨_, rfl⟩
        have q1 : IntKind.u64.wrap ((r : Int) * 2) = (a : Int) := by rw [IntKind.wrap_u64]; omega
        have q2 := or_bit (a / 2) a bit hbl (by omega) (by omega)
        obtain ⟨v, hv⟩ : ∃ v, a + bit = v := ⟨_, rfl⟩
        rw [hv] at q2
        obtain ⟨v', hv'⟩ : ∃ v', 2 * r + bit - n = v' := ⟨_, rfl⟩
        have q3 : IntKind.u64.wrap ((v : Int) - (n : Int)) = (v' : Int) := by rw [IntKind.wrap_u64]; omega
        have t1 : (9223372036854775808 : Int) ≤ (r : Int) := by omega
        have HE := Lib.hid (HD2.out (by omega))
        have HV' : Hid (2 * r + bit - n = v') := Lib.hid hv'
        clear HD1 HD2 ha hv htop hv'
        go_wp2_with fail
        go_region
        have HK := Lib.hid ((HK.out.set_ k (.int .u32 (y : Int))).drew)
        rw [set_u32] at HK
        have HKx := Lib.hid ((HKx.out.far (p := ⟨w.heap.size + 1 + 1, k, none⟩) (by show w.heap.size ≠ w.heap.size + 1 + 1; omega) (.int .u32 (y : Int))).drew)
        have HK4 := Lib.hid ((HK4.out.far (p := ⟨w.heap.size + 1 + 1, k, none⟩) (by simp) (.int .u32 (y : Int))).drew)
        have hbw := (hbw.setCell (p := ⟨w.heap.size + 1 + 1, k, none⟩) (by show w.heap.size ≤ w.heap.size + 1 + 1; omega) (.int .u32 (y : Int))).drew
        have HLb' : Hid (∀ u ∈ L.set k y, u < 65536) := Lib.hid (by
          intro u hu
          rcases List.mem_or_eq_of_mem_set hu with h | h
          · exact HLb.out u h
          · subst h; exact o2)
        go_wp2_with fail
        go_roundw
        case rel => exact ⟨t, L.set k y, by omega, by rw [HE.out.1, HV'.out], rfl, by rw [List.length_set, HLl.out], HLb'.out, by rw [HVs.out, HLv.out, HE.out.2], HK.out, HKx.out, HK4.out, hbw⟩
        case measure => simp [intOf]; try omega
      · have q2 := or_bit r (r * 2) bit hbl rfl (by omega)
        obtain ⟨v, hv⟩ : ∃ v, r * 2 + bit = v := ⟨_, rfl⟩
        rw [hv, Int.natCast_mul] at q2
        replace q2 : bits .or .u64 ((r : Int) * 2) (bit : Int) = (v : Int) := q2
        have t1 : ¬ (9223372036854775808 : Int) ≤ (r : Int) := by omega
        by_cases hge : n ≤ v
        · obtain ⟨v', hv'⟩ : ∃ v', v - n = v' := ⟨_, rfl⟩
          have q3 : (v : Int) - (n : Int) = (v' : Int) := by omega
          have t2 : (n : Int) ≤ (v : Int) := by omega
          have HE := Lib.hid (HD2.out (by omega))
          have HV' : Hid (2 * r + bit - n = v') := Lib.hid (by omega)
          clear HD1 HD2 hge htop
          go_wp2_with fail
          go_region
          have HK := Lib.hid ((HK.out.set_ k (.int .u32 (y : Int))).drew)
          rw [set_u32] at HK
          have HKx := Lib.hid ((HKx.out.far (p := ⟨w.heap.size + 1 + 1, k, none⟩) (by show w.heap.size ≠ w.heap.size + 1 + 1; omega) (.int .u32 (y : Int))).drew)
          have HK4 := Lib.hid ((HK4.out.far (p := ⟨w.heap.size + 1 + 1, k, none⟩) (by simp) (.int .u32 (y : Int))).drew)
          have hbw := (hbw.setCell (p := ⟨w.heap.size + 1 + 1, k, none⟩) (by show w.heap.size ≤ w.heap.size + 1 + 1; omega) (.int .u32 (y : Int))).drew
          have HLb' : Hid (∀ u ∈ L.set k y, u < 65536) := Lib.hid (by
            intro u hu
            rcases List.mem_or_eq_of_mem_set hu with h | h
            · exact HLb.out u h
            · subst h; exact o2)
          go_wp2_with fail
          go_roundw
          case rel => exact ⟨t, L.set k y, by omega, by rw [HE.out.1, HV'.out], rfl, by rw [List.length_set, HLl.out], HLb'.out, by rw [HVs.out, HLv.out, HE.out.2], HK.out, HKx.out, HK4.out, hbw⟩
          case measure => simp [intOf]; try omega
        · have t2 : ¬ (n : Int) ≤ (v : Int) := by omega
          have HE := Lib.hid (HD1.out (by omega))
          have HV' : Hid (2 * r + bit = v) := Lib.hid (by omega)
          clear HD1 HD2 hge htop hv
          go_wp2_with fail
          go_roundw
          case rel => exact ⟨t, L, by omega, by rw [HE.out.1, HV'.out], rfl, HLl.out, HLb.out, by rw [HLv.out, HE.out.2], HK.out, HKx.out, HK4.out, hbw⟩
          case measure => simp [intOf]; try omega
end Go.Proofs.YtpbfipeinblfgaaGreatDoor
namespace Go.Proofs.YtpbfipeinblfgaaGreatDoor
open Go.RowKit

/-- Sums digit by digit, with what is carried on. -/
def addD : List Nat → List Nat → Nat → List Nat × Nat
  | a :: l, b :: m, o => ((a + b + o) % 65536 :: (addD l m ((a + b + o) / 65536)).1, (addD l m ((a + b + o) / 65536)).2)
  | _, _, o => ([], o)
theorem addD_val (l m : List Nat) (o : Nat) (h : l.length = m.length) : valR (addD l m o).1 + 65536 ^ l.length * (addD l m o).2 = valR l + valR m + o := by
  induction l generalizing m o with
  | nil =>
    rcases m with _ | ⟨b, m⟩
    · simp [addD, valR]
    · simp at h
  | cons a l ih =>
    rcases m with _ | ⟨b, m⟩
    · simp at h
    · have := ih m ((a + b + o) / 65536) (by simpa using h)
      simp only [addD, valR, List.length_cons, Nat.pow_succ]
      rw [Nat.mul_right_comm]
      generalize valR (addD l m ((a + b + o) / 65536)).1 = v at *
      generalize 65536 ^ l.length * (addD l m ((a + b + o) / 65536)).2 = w at *
      omega
theorem addD_lt (l m : List Nat) (o : Nat) : ∀ u ∈ (addD l m o).1, u < 65536 := by
  induction l generalizing m o with
  | nil => intro u hu; simp [addD] at hu
  | cons a l ih =>
    rcases m with _ | ⟨b, m⟩
    · intro u hu; simp [addD] at hu
    · intro u hu
      simp only [addD] at hu
      rcases List.mem_cons.1 hu with rfl | h
      · exact Nat.mod_lt _ (by decide)
      · exact ih m _ u h
theorem addD_len (l m : List Nat) (o : Nat) (h : l.length = m.length) : (addD l m o).1.length = l.length := by
  induction l generalizing m o with
  | nil => simp [addD]
  | cons a l ih =>
    rcases m with _ | ⟨b, m⟩
    · simp at h
    · simp only [addD, List.length_cons]
      rw [ih m _ (by simpa using h)]

theorem beq_nat (n : Nat) : ((n : Int) == 0) = decide (n = 0) := by
  by_cases h : n = 0
  · subst h; rfl
  · rw [decide_eq_false h, beq_eq_false_iff_ne]
    omega

set_option maxHeartbeats 8000000 in
set_option maxRecDepth 20000 in
theorem RefAdd_raw (a0 a1 a2 a3 a4 a5 a6 a7 b0 b1 b2 b3 b4 b5 b6 b7 : Nat) (ha : ∀ u ∈ [a0, a1, a2, a3, a4, a5, a6, a7], u < 65536) (hb : ∀ u ∈ [b0, b1, b2, b3, b4, b5, b6, b7], u < 65536) (w : World) :
    Calls Tryz.prog 63 #[bgv [a0, a1, a2, a3, a4, a5, a6, a7], bgv [b0, b1, b2, b3, b4, b5, b6, b7]] w fun e w' =>
      e = .returned (.tuple #[bgv (addD [a0, a1, a2, a3, a4, a5, a6, a7] [b0, b1, b2, b3, b4, b5, b6, b7] 0).1, .bool (decide ((addD [a0, a1, a2, a3, a4, a5, a6, a7] [b0, b1, b2, b3, b4, b5, b6, b7] 0).2 = 0))]) ∧ Below w.heap.size w w' := by
  have h0 := ha a0 (by simp); have h1 := ha a1 (by simp); have h2 := ha a2 (by simp); have h3 := ha a3 (by simp); have h4 := ha a4 (by simp); have h5 := ha a5 (by simp); have h6 := ha a6 (by simp); have h7 := ha a7 (by simp)
  have g0 := hb b0 (by simp); have g1 := hb b1 (by simp); have g2 := hb b2 (by simp); have g3 := hb b3 (by simp); have g4 := hb b4 (by simp); have g5 := hb b5 (by simp); have g6 := hb b6 (by simp); have g7 := hb b7 (by simp)
  clear ha hb
  simp only [bgv, List.map_cons, List.map_nil]
  go_enter Tryz.func63, Tryz.ntmps63
  go_wp2
  refine wp_loop_rounds 9 ?_
  iterate 8
    rw [rounds_succ]
    go_wp2
    go_quiet (fail)
    go_wp2
  rw [rounds_succ]
  go_wp2
  go_returns
  refine ⟨?_, ?_⟩
  · rw [← beq_nat]
    simp only [addD, List.map_cons, List.map_nil, Nat.add_zero, Int.natCast_emod, Int.natCast_ediv, Int.natCast_add, Int.cast_ofNat_Int]
  · repeat' first
      | (with_reducible exact Below.refl _ _)
      | (with_reducible refine Below.setCell ?_ ?_ _)
      | (with_reducible refine below_drewN ?_ _)
      | (with_reducible refine Below.alloc ?_ ?_ _)
      | (simp; done)
      | (simp; omega)

/-- The sum of two numbers, and whether it fits. -/
theorem RefAdd_any (x y : Nat) (hx : x < 340282366920938463463374607431768211456) (hy : y < 340282366920938463463374607431768211456) (w : World) :
    Calls Tryz.prog 63 #[bgv (digsR 8 x), bgv (digsR 8 y)] w fun e w' =>
      e = .returned (.tuple #[bgv (digsR 8 ((x + y) % 340282366920938463463374607431768211456)), .bool (decide (x + y < 340282366920938463463374607431768211456))]) ∧ Below w.heap.size w w' := by
  have vx := val_digsR 8 x hx
  have vy := val_digsR 8 y hy
  have lx := digs_lt 8 x
  have ly := digs_lt 8 y
  obtain ⟨a0, a1, a2, a3, a4, a5, a6, a7, ex⟩ := eight (digsR 8 x) (digs_length 8 x)
  obtain ⟨b0, b1, b2, b3, b4, b5, b6, b7, ey⟩ := eight (digsR 8 y) (digs_length 8 y)
  rw [ex] at vx lx ⊢
  rw [ey] at vy ly ⊢
  have hv := addD_val [a0, a1, a2, a3, a4, a5, a6, a7] [b0, b1, b2, b3, b4, b5, b6, b7] 0 rfl
  have hl := addD_lt [a0, a1, a2, a3, a4, a5, a6, a7] [b0, b1, b2, b3, b4, b5, b6, b7] 0
  have hn := addD_len [a0, a1, a2, a3, a4, a5, a6, a7] [b0, b1, b2, b3, b4, b5, b6, b7] 0 rfl
  have hr := RefAdd_raw a0 a1 a2 a3 a4 a5 a6 a7 b0 b1 b2 b3 b4 b5 b6 b7 lx ly w
  rw [vx, vy] at hv
  obtain ⟨r, hre⟩ : ∃ r, addD [a0, a1, a2, a3, a4, a5, a6, a7] [b0, b1, b2, b3, b4, b5, b6, b7] 0 = r := ⟨_, rfl⟩
  rw [hre] at hv hl hn hr
  have hlt := val_ltR r.1 hl
  rw [hn] at hlt
  simp only [List.length_cons, List.length_nil, Nat.zero_add, Nat.reduceAdd, Nat.reducePow] at hlt hv
  have e1 : (x + y) % 340282366920938463463374607431768211456 = valR r.1 := by omega
  have e2 : decide (r.2 = 0) = decide (x + y < 340282366920938463463374607431768211456) := by
    apply decide_eq_decide.2
    omega
  have e3 : digsR 8 (valR r.1) = r.1 := by
    have h := digs_valR r.1 hl
    rw [hn] at h
    exact h
  rw [e2] at hr
  rw [e1, e3]
  exact hr
end Go.Proofs.YtpbfipeinblfgaaGreatDoor
namespace Go.Proofs.YtpbfipeinblfgaaGreatDoor
open Go.RowKit

theorem eightc {W W' : World} {g : Nat} {t : TypeId} {c0 c1 c2 c3 c4 c5 c6 c7 : Value} (h : Blk W g t #[c0, c1, c2, c3, c4, c5, c6, c7]) (hb : Below W.heap.size W W') :
    W'.cell? ⟨g, 0, none⟩ = some c0 ∧ W'.cell? ⟨g, 1, none⟩ = some c1 ∧ W'.cell? ⟨g, 2, none⟩ = some c2 ∧ W'.cell? ⟨g, 3, none⟩ = some c3 ∧ W'.cell? ⟨g, 4, none⟩ = some c4 ∧ W'.cell? ⟨g, 5, none⟩ = some c5 ∧ W'.cell? ⟨g, 6, none⟩ = some c6 ∧ W'.cell? ⟨g, 7, none⟩ = some c7 := by
  have k := h.below hb h.lt
  exact ⟨k.cell 0, k.cell 1, k.cell 2, k.cell 3, k.cell 4, k.cell 5, k.cell 6, k.cell 7⟩
theorem two_eight {W W' : World} {g g' : Nat} {t t' : TypeId} {a b c0 c1 c2 c3 c4 c5 c6 c7 : Value} (h' : Blk W g' t' #[a, b]) (h : Blk W g t #[c0, c1, c2, c3, c4, c5, c6, c7]) (hb : Below W.heap.size W W') :
    W'.cell? ⟨g', 0, none⟩ = some a ∧ W'.cell? ⟨g', 1, none⟩ = some b ∧ W'.cell? ⟨g, 0, none⟩ = some c0 ∧ W'.cell? ⟨g, 1, none⟩ = some c1 ∧ W'.cell? ⟨g, 2, none⟩ = some c2 ∧ W'.cell? ⟨g, 3, none⟩ = some c3 ∧ W'.cell? ⟨g, 4, none⟩ = some c4 ∧ W'.cell? ⟨g, 5, none⟩ = some c5 ∧ W'.cell? ⟨g, 6, none⟩ = some c6 ∧ W'.cell? ⟨g, 7, none⟩ = some c7 := by
  have k := h.below hb h.lt
  have k' := h'.below hb h'.lt
  exact ⟨k'.cell 0, k'.cell 1, k.cell 0, k.cell 1, k.cell 2, k.cell 3, k.cell 4, k.cell 5, k.cell 6, k.cell 7⟩
set_option maxRecDepth 20000 in
set_option maxHeartbeats 8000000 in
theorem RDays_any {P p d c U : Nat} {th : Bool} (hP : P ≤ 1000000000000) (hp : p ≤ 1000000) (hd : d ≤ 100000) (hU0 : 360000000 ≤ U) (hU1 : U ≤ 365000000) (hc : c < U) (hU : ∀ W, Calls Tryz.prog 67 #[rr p th] W (Ret (.int .u64 (U : Int)) W)) (w : World) :
    Calls Tryz.prog 35 #[rr p th, .int .i64 (P : Int), .int .i64 (d : Int), .int .u64 (c : Int)] w (Ret (.tuple #[.int .i64 (((P * p * d + c) / U : Nat) : Int), .int .u64 (((P * p * d + c) % U : Nat) : Int)]) w) := by
  have hX := pp_le hP hp
  have hpd := Nat.mul_le_mul hp hd
  obtain ⟨e, he⟩ : ∃ e, p * d = e := ⟨_, rfl⟩
  have hS := pcs_le hX hd (show c < 18446744073709551616 by omega)
  have hQ := pcs_div hX hd hU0 hc
  rw [Nat.mul_assoc, he] at hS hQ ⊢
  rw [he] at hpd
  have hM := fun W => RefMul_any P e (by omega) (by omega) W
  have hO := fun W => Of_any 0 c (by omega) (by omega) W
  rw [Nat.zero_mul, Nat.zero_add] at hO
  have hA := fun W => RefAdd_any (P * e) c (by omega) (by omega) W
  rw [Nat.mod_eq_of_lt hS, decide_eq_true hS] at hA
  obtain ⟨S, hSe⟩ : ∃ S, P * e + c = S := ⟨_, rfl⟩
  obtain ⟨T, hT⟩ : ∃ T, P * e = T := ⟨_, rfl⟩
  rw [hT] at hM hA
  rw [← hT, hSe] at hA
  rw [hSe] at hS hQ ⊢
  rw [hT] at hA
  have hD := fun W => RefDiv_any S U hS (by omega) (by omega) W
  obtain ⟨q, hq⟩ : ∃ q, S / U = q := ⟨_, rfl⟩
  obtain ⟨s, hs⟩ : ∃ s, S % U = s := ⟨_, rfl⟩
  rw [hq, hs] at hD ⊢
  rw [hq] at hQ
  have hF := fun W => Word_any q (by omega) false W
  obtain ⟨x0, x1, x2, x3, x4, x5, x6, x7, ex⟩ := eight (digsR 8 S) (digs_length 8 S)
  obtain ⟨y0, y1, y2, y3, y4, y5, y6, y7, ey⟩ := eight (digsR 8 q) (digs_length 8 q)
  obtain ⟨t0, t1, t2, t3, t4, t5, t6, t7, et⟩ := eight (digsR 8 T) (digs_length 8 T)
  obtain ⟨o0, o1, o2, o3, o4, o5, o6, o7, eo⟩ := eight (digsR 8 c) (digs_length 8 c)
  rw [ex] at hA hD
  rw [ey] at hD hF
  rw [et] at hM hA
  rw [eo] at hO hA
  simp only [bgv, List.map_cons, List.map_nil, Bool.false_eq_true, if_false] at hM hA hD hF hO
  rw [show q % 18446744073709551616 = q by omega] at hF
  have i1 : (p : Int) * (d : Int) = (e : Int) := by rw [← he]; simp
  have i2 : IntKind.u64.wrap (e : Int) = (e : Int) := by rw [IntKind.wrap_u64]; omega
  have i3 : IntKind.u64.wrap (d : Int) = (d : Int) := by rw [IntKind.wrap_u64]; omega
  have i4 : IntKind.u64.wrap (P : Int) = (P : Int) := by rw [IntKind.wrap_u64]; omega
  have i5 : IntKind.u64.wrap (p : Int) = (p : Int) := by rw [IntKind.wrap_u64]; omega
  have i6 : IntKind.i64.wrap (q : Int) = (q : Int) := by rw [IntKind.wrap_i64]; omega
  unfold rr at hU ⊢
  clear hP hp hd hU0 hU1 hc hX hpd he hS hQ hSe hT hq hs ex ey et eo
  go_enter Tryz.func35, Tryz.ntmps35
  have HQ0 := Lib.hid (Blk.new w 71 #[.int .u32 (p : Int), .bool th])
  have HB0 := Lib.hid (b_alloc w (.cells #[.int .u32 (p : Int), .bool th] 71))
  go_wp2_with fail
  refine (hM _).mono ?_
  rintro e w1 ⟨rfl, hb1⟩
  have HQ1_0 := Lib.hid (HQ0.out.below hb1 HQ0.out.lt)
  have HB1 := Lib.hid (HB0.out.trans (hb1.mono HB0.out.size))
  clear hb1
  have c1_0_0 := HQ1_0.out.cell 0
  have c1_0_1 := HQ1_0.out.cell 1
  have z1_0 := HQ1_0.out.lt
  simp at c1_0_0 c1_0_1
  go_wp2_with fail
  refine (hO _).mono ?_
  rintro e w2 ⟨rfl, hb2⟩
  have HQ2_0 := Lib.hid (HQ1_0.out.below hb2 HQ1_0.out.lt)
  have HB2 := Lib.hid (HB1.out.trans (hb2.mono HB1.out.size))
  clear hb2 c1_0_0 c1_0_1 z1_0
  have c2_0_0 := HQ2_0.out.cell 0
  have c2_0_1 := HQ2_0.out.cell 1
  have z2_0 := HQ2_0.out.lt
  simp at c2_0_0 c2_0_1
  go_wp2_with fail
  refine (hA _).mono ?_
  rintro e w3 ⟨rfl, hb3⟩
  have HQ3_0 := Lib.hid (HQ2_0.out.below hb3 HQ2_0.out.lt)
  have HB3 := Lib.hid (HB2.out.trans (hb3.mono HB2.out.size))
  clear hb3 c2_0_0 c2_0_1 z2_0
  have c3_0_0 := HQ3_0.out.cell 0
  have c3_0_1 := HQ3_0.out.cell 1
  have z3_0 := HQ3_0.out.lt
  simp at c3_0_0 c3_0_1
  have HQ4_0 := Lib.hid (HQ3_0.out.alloc (.cells #[.int .u32 (x0 : Int), .int .u32 (x1 : Int), .int .u32 (x2 : Int), .int .u32 (x3 : Int), .int .u32 (x4 : Int), .int .u32 (x5 : Int), .int .u32 (x6 : Int), .int .u32 (x7 : Int)] 133))
  have HQ4_1 := Lib.hid (Blk.new w3 133 #[.int .u32 (x0 : Int), .int .u32 (x1 : Int), .int .u32 (x2 : Int), .int .u32 (x3 : Int), .int .u32 (x4 : Int), .int .u32 (x5 : Int), .int .u32 (x6 : Int), .int .u32 (x7 : Int)])
  have HB4 := Lib.hid (HB3.out.alloc HB3.out.size (.cells #[.int .u32 (x0 : Int), .int .u32 (x1 : Int), .int .u32 (x2 : Int), .int .u32 (x3 : Int), .int .u32 (x4 : Int), .int .u32 (x5 : Int), .int .u32 (x6 : Int), .int .u32 (x7 : Int)] 133))
  go_wp2_with fail
  obtain ⟨G, hG⟩ : ∃ G, w3.heap.size = G := ⟨_, rfl⟩
  obtain ⟨W7, hW7⟩ : ∃ W, (w3.alloc (.cells #[.int .u32 (x0 : Int), .int .u32 (x1 : Int), .int .u32 (x2 : Int), .int .u32 (x3 : Int), .int .u32 (x4 : Int), .int .u32 (x5 : Int), .int .u32 (x6 : Int), .int .u32 (x7 : Int)] 133)) = W := ⟨_, rfl⟩
  have R7 : Hid (Blk W7 w.heap.size 71 #[.int .u32 (p : Int), .bool th]) := Lib.hid (by rw [← hW7]; exact HQ4_0.out)
  have N7 : Hid (Blk W7 G 133 #[.int .u32 (x0 : Int), .int .u32 (x1 : Int), .int .u32 (x2 : Int), .int .u32 (x3 : Int), .int .u32 (x4 : Int), .int .u32 (x5 : Int), .int .u32 (x6 : Int), .int .u32 (x7 : Int)]) := Lib.hid (by rw [← hW7, ← hG]; exact HQ4_1.out)
  have B7 : Hid (Below w.heap.size w W7) := Lib.hid (by rw [← hW7]; exact HB4.out)
  rw [hW7, hG]
  clear hW7 hG HQ4_0 HQ4_1 HB4 HB1 HB2 HB3 HB0 HQ0 HQ1_0 HQ2_0 HQ3_0 hM hO hA
  go_cut [12, 13] from 29 to 35 (fun y z wx => ∃ g, y = .pointer (some ⟨g, 0, none⟩) ∧ z = .int .u64 (s : Int) ∧ Blk wx g 133 #[.int .u32 (y0 : Int), .int .u32 (y1 : Int), .int .u32 (y2 : Int), .int .u32 (y3 : Int), .int .u32 (y4 : Int), .int .u32 (y5 : Int), .int .u32 (y6 : Int), .int .u32 (y7 : Int)] ∧ Below W7.heap.size W7 wx)
  case first =>
    have hr7 := Below.refl W7.heap.size W7
    have hs7 : W7.heap.size ≤ W7.heap.size := Nat.le_refl _
    go_region_held3 (fun W => W.cell? ⟨w.heap.size, 0, none⟩ = some (.int .u32 (p : Int)) ∧ W.cell? ⟨w.heap.size, 1, none⟩ = some (.bool th) ∧ W.cell? ⟨G, 0, none⟩ = some (.int .u32 (x0 : Int)) ∧ W.cell? ⟨G, 1, none⟩ = some (.int .u32 (x1 : Int)) ∧ W.cell? ⟨G, 2, none⟩ = some (.int .u32 (x2 : Int)) ∧ W.cell? ⟨G, 3, none⟩ = some (.int .u32 (x3 : Int)) ∧ W.cell? ⟨G, 4, none⟩ = some (.int .u32 (x4 : Int)) ∧ W.cell? ⟨G, 5, none⟩ = some (.int .u32 (x5 : Int)) ∧ W.cell? ⟨G, 6, none⟩ = some (.int .u32 (x6 : Int)) ∧ W.cell? ⟨G, 7, none⟩ = some (.int .u32 (x7 : Int))) ((refine two_eight R7.out N7.out ?_; go_grown))
      (first
        | (go_at_call 67; go_must (refine (hU _).mono ?_); rintro e w8 ⟨rfl, hb8⟩; have hb78 : Below W7.heap.size W7 w8 := (by (refine Below.trans ?_ (hb8.mono ?_)) <;> go_grown); have hs8 := hb78.size; (try (have Z8 : Hid (Blk w8 W7.heap.size 133 #[.int .u32 0, .int .u32 0, .int .u32 0, .int .u32 0, .int .u32 0, .int .u32 0, .int .u32 0, .int .u32 0]) := Lib.hid (by first | exact (Blk.new W7 _ _).below hb8 (by simp) | exact ((Blk.new W7 _ _).drew).below hb8 (by simp)))); clear hb8)
        | (go_at_call 66; go_must (refine (hD _).mono ?_); rintro e w9 ⟨rfl, hb9⟩; have hb79 : Below W7.heap.size W7 w9 := (by (refine Below.trans ?_ (hb9.mono ?_)) <;> go_grown); have hs9 := hb79.size; (first | (have Z9 : Hid (Blk w9 W7.heap.size 133 #[.int .u32 0, .int .u32 0, .int .u32 0, .int .u32 0, .int .u32 0, .int .u32 0, .int .u32 0, .int .u32 0]) := Lib.hid (by first | exact Z8.out.below hb9 Z8.out.lt | exact Z8.out.drew.below hb9 Z8.out.lt)) | (have Z9 : Hid (Blk w9 w8.heap.size 133 #[.int .u32 0, .int .u32 0, .int .u32 0, .int .u32 0, .int .u32 0, .int .u32 0, .int .u32 0, .int .u32 0]) := Lib.hid (by first | exact (Blk.new w8 _ _).below hb9 (by simp) | exact ((Blk.new w8 _ _).drew).below hb9 (by simp))) | skip); (try (obtain ⟨m0, m1, m2, m3, m4, m5, m6, m7⟩ := eightc Z9.out (Below.refl _ _); have g0 := Z9.out.frozen 0; have g1 := Z9.out.frozen 1; have g2 := Z9.out.frozen 2; have g3 := Z9.out.frozen 3; have g4 := Z9.out.frozen 4; have g5 := Z9.out.frozen 5; have g6 := Z9.out.frozen 6; have g7 := Z9.out.frozen 7)); clear hb9))
    all_goals
      go_wp2_with fail
      go_meet
      case rel =>
        refine ⟨_, rfl, rfl, ?_, ?_⟩
        · first
            | (with_reducible exact Blk.new w9 _ _)
            | exact ((((((((Z9.out.set_ 0 (.int .u32 (y0 : Int))).set_ 1 (.int .u32 (y1 : Int))).set_ 2 (.int .u32 (y2 : Int))).set_ 3 (.int .u32 (y3 : Int))).set_ 4 (.int .u32 (y4 : Int))).set_ 5 (.int .u32 (y5 : Int))).set_ 6 (.int .u32 (y6 : Int))).set_ 7 (.int .u32 (y7 : Int)))
        · go_grown
  case rest =>
    obtain ⟨g, rfl, rfl, hR8, hb78⟩ := hcut
    have B8 := Lib.hid (B7.out.trans (hb78.mono B7.out.size))
    obtain ⟨m0, m1, m2, m3, m4, m5, m6, m7⟩ := eightc hR8 (Below.refl _ _)
    clear hb78
    go_wp2_with fail
    refine (hF _).mono ?_
    rintro e w10 ⟨rfl, hb10⟩
    have B10 := Lib.hid (B8.out.trans (hb10.mono B8.out.size))
    clear hb10 m0 m1 m2 m3 m4 m5 m6 m7
    go_wp2_with fail
    go_ret2
    exact ⟨rfl, B10.out⟩
end Go.Proofs.YtpbfipeinblfgaaGreatDoor
