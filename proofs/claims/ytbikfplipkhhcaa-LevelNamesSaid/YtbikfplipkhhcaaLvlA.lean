/-
  level: a part, a month, what may be. Conditions: the numbers' kinds.
-/
import Derived.Test.YtbikfplipkhhcaaMon
namespace Go.Proofs.Ytbikfplipkhhcaa
open Go.RowKit

set_option maxHeartbeats 1000000 in
theorem Least_any (a b : Int) (w : World) :
    Calls Try.prog 25 #[.int .i64 a, .int .i64 b] w fun e w' => e = .returned (.int .i64 (min a b)) ∧ w = w' := by
  by_cases h : a ≤ b
  · have hm : min a b = a := by omega
    rw [hm]
    go_enter Try.func25, Try.ntmps25
    go_wp2
    all_goals first
      | (go_ret; exact ⟨rfl, rfl⟩)
      | (exfalso; omega)
  · have hm : min a b = b := by omega
    rw [hm]
    go_enter Try.func25, Try.ntmps25
    go_wp2
    all_goals first
      | (go_ret; exact ⟨rfl, rfl⟩)
      | (exfalso; omega)
set_option maxRecDepth 20000 in
set_option maxHeartbeats 4000000 in
theorem part_any {P n : Nat} (hP : P ≤ 1000000000000) (hn0 : 0 < n) (hn : n ≤ 480) (w : World) :
    Calls Try.prog 19 #[.int .i64 (P : Int), .int .i64 (n : Int)] w (Ret (.int .i64 ((prt P n : Nat) : Int)) w) := by
  obtain ⟨s, hs⟩ : ∃ s, P + n - 1 = s := ⟨_, rfl⟩
  obtain ⟨q, hq⟩ : ∃ q, s / n = q := ⟨_, rfl⟩
  have hpe : prt P n = q := by unfold prt; rw [hs, hq]
  rw [hpe]
  have i1 : (P : Int) + (n : Int) - 1 = (s : Int) := by omega
  have i2 : (s : Int).tdiv (n : Int) = (q : Int) := by rw [← hq]; exact Int.ofNat_tdiv s n
  have hql : q ≤ s := by rw [← hq]; exact Nat.div_le_self _ _
  have hsl : s ≤ 1000000000480 := by omega
  have i3 : ¬ (n : Int) = 0 := by omega
  clear hs hq hpe
  go_enter Try.func19, Try.ntmps19
  go_wp2_with fail
  go_ret
  exact ⟨by first | rfl | simp, Below.refl _ _⟩
theorem set3 {w : World} {g : Nat} {T : TypeId} {a b c : Value} (h : Blk w g T #[a, b, c]) (x y z : Value) :
    Blk (((w.setCell ⟨g, 0, none⟩ x).setCell ⟨g, 1, none⟩ y).setCell ⟨g, 2, none⟩ z) g T #[x, y, z] := ((h.set_ 0 x).set_ 1 y).set_ 2 z
theorem below_set3 {w w' : World} {B g : Nat} (h : Below B w w') (hg : B ≤ g) (x y z : Value) : Below B w (((w'.setCell ⟨g, 0, none⟩ x).setCell ⟨g, 1, none⟩ y).setCell ⟨g, 2, none⟩ z) :=
  ((h.setCell hg _).setCell hg _).setCell hg _
/-- A month. -/
def rowV (i o l : Int) : Value := .agg #[.int .i64 i, .int .i64 o, .int .i64 l]
set_option maxRecDepth 20000 in
theorem mfin {w W : World} {T : Array Value} {x y z : Int} {v : Value} (hB : Below w.heap.size w W) (hQ : Blk W (w.heap.size + 1) 38 #[.int .i64 x, .int .i64 y, .int .i64 z]) (h6 : T[6]? = some (.pointer (some ⟨w.heap.size + 1, 0, none⟩))) (h7 : T[7]? = some v) :
    bodyPost Try.prog Try.f17 (Ret (.tuple #[rowV x y z, v]) w) Exit.ret { tmps := T, defers := [] } W := by
  have c0 := hQ.cell 0
  have c1 := hQ.cell 1
  have c2 := hQ.cell 2
  simp at c0 c1 c2
  unfold rowV
  refine bodyPost_ret (v := .tuple #[.agg #[.int .i64 x, .int .i64 y, .int .i64 z], v]) ?_ rfl ⟨rfl, hB⟩
  simp [results, Try.results17, go_sem, h6, h7, c0, c1, c2, Result.andThen]
set_option maxRecDepth 20000 in
set_option maxHeartbeats 4000000 in
theorem month_any {Q p b : Nat} {y : Int} (hQ : Q ≤ 1000000000000) (hr : rateB p b) (hy0 : 0 ≤ y) (hy : y ≤ 9223372036854775807) (w : World) :
    Calls Try.prog 17 #[.int .i64 (Q : Int), rv p b, .int .i64 y] w (Ret (.tuple #[rowV ((mi p Q : Nat) : Int) (min y ((Q : Int) + (mi p Q : Nat)) - (mi p Q : Nat)) ((Q : Int) - (min y ((Q : Int) + (mi p Q : Nat)) - (mi p Q : Nat))), .nilIface]) w) := by
  have hM := fun W => Month_yes hQ hr W
  replace hM : ∀ W, Calls Try.prog 15 #[rv p b, .int .i64 (Q : Int)] W (Ret (.tuple #[.int .i64 ((mi p Q : Nat) : Int), .nilIface]) W) := hM
  have hb := mi_bd hQ hr.1
  obtain ⟨m, hm⟩ : ∃ m, mi p Q = m := ⟨_, rfl⟩
  rw [hm] at hM hb ⊢
  have hL := fun W => Least_any y ((Q : Int) + (m : Int)) W
  obtain ⟨o, ho⟩ : ∃ o, min y ((Q : Int) + (m : Int)) = o := ⟨_, rfl⟩
  rw [ho] at hL ⊢
  have ho1 : 0 ≤ o := by omega
  have ho2 : o ≤ (Q : Int) + (m : Int) := by omega
  have i1 : IntKind.i64.wrap ((Q : Int) + (m : Int)) = (Q : Int) + (m : Int) := by rw [IntKind.wrap_i64]; omega
  have i2 : IntKind.i64.wrap (o - (m : Int)) = o - (m : Int) := by rw [IntKind.wrap_i64]; omega
  have i3 : IntKind.i64.wrap ((Q : Int) - (o - (m : Int))) = (Q : Int) - (o - (m : Int)) := by rw [IntKind.wrap_i64]; omega
  unfold rv at hM ⊢
  clear hr hb hm ho hy0 hy hQ ho1 ho2
  go_enter Try.func17, Try.ntmps17
  have HQ0 := Lib.hid (Blk.new w 25 #[.int .u32 (p : Int), .int .u8 (b : Int)])
  have HB0 := Lib.hid (b_alloc w (.cells #[.int .u32 (p : Int), .int .u8 (b : Int)] 25))
  have HQ1_0 := Lib.hid (HQ0.out.alloc (.cells #[.int .i64 0, .int .i64 0, .int .i64 0] 38))
  have HQ1_1 : Hid (Blk ((w.alloc (.cells #[.int .u32 (p : Int), .int .u8 (b : Int)] 25)).alloc (.cells #[.int .i64 0, .int .i64 0, .int .i64 0] 38)) (w.heap.size + 1) 38 #[.int .i64 0, .int .i64 0, .int .i64 0]) := Lib.hid (by
    have h := Blk.new (w.alloc (.cells #[.int .u32 (p : Int), .int .u8 (b : Int)] 25)) 38 #[.int .i64 0, .int .i64 0, .int .i64 0]
    rw [show (w.alloc (.cells #[.int .u32 (p : Int), .int .u8 (b : Int)] 25)).heap.size = w.heap.size + 1 by simp] at h
    exact h)
  have HB1 := Lib.hid (HB0.out.alloc HB0.out.size (.cells #[.int .i64 0, .int .i64 0, .int .i64 0] 38))
  go_wp2_with fail
  refine (hM _).mono ?_
  rintro e w2 ⟨rfl, hb2⟩
  have HQ2_0 := Lib.hid (HQ1_0.out.below hb2 HQ1_0.out.lt)
  have HQ2_1 := Lib.hid (HQ1_1.out.below hb2 HQ1_1.out.lt)
  have HB2 := Lib.hid (HB1.out.trans (hb2.mono HB1.out.size))
  clear hb2
  have c2_0_0 := HQ2_0.out.cell 0
  have c2_0_1 := HQ2_0.out.cell 1
  have z2_0 := HQ2_0.out.lt
  have c2_1_0 := HQ2_1.out.cell 0
  have f2_1_0 := HQ2_1.out.frozen 0
  have c2_1_1 := HQ2_1.out.cell 1
  have f2_1_1 := HQ2_1.out.frozen 1
  have c2_1_2 := HQ2_1.out.cell 2
  have f2_1_2 := HQ2_1.out.frozen 2
  have z2_1 := HQ2_1.out.lt
  try simp at c2_0_0 c2_0_1 c2_1_0 f2_1_0 c2_1_1 f2_1_1 c2_1_2 f2_1_2
  go_wp2_with fail
  refine (hL _).mono ?_
  rintro e w99 ⟨rfl, rfl⟩
  go_wp2_with fail
  exact mfin (below_set3 HB2.out (Nat.le_succ _) _ _ _) (set3 HQ2_1.out _ _ _) rfl rfl
set_option maxRecDepth 20000 in
set_option maxHeartbeats 4000000 in
theorem ltakes_yes {P p b n : Nat} (hr : rateB p b) (hP0 : 1 ≤ P) (hP : P ≤ 1000000000000) (hn0 : 1 ≤ n) (hn : n ≤ 480) (w : World) :
    Calls Try.prog 18 #[.int .i64 (P : Int), rv p b, .int .i64 (n : Int)] w (Ret (.bool true) w) := by
  have hR := fun W => YR_yes hr W
  clear hr
  unfold rv at hR ⊢
  go_enter Try.func18, Try.ntmps18
  have HQ0 := Lib.hid (Blk.new w 25 #[.int .u32 (p : Int), .int .u8 (b : Int)])
  have HB0 := Lib.hid (b_alloc w (.cells #[.int .u32 (p : Int), .int .u8 (b : Int)] 25))
  go_wp2_with fail
  refine (hR _).mono ?_
  rintro e w1 ⟨rfl, hb1⟩
  have HQ1_0 := Lib.hid (HQ0.out.below hb1 HQ0.out.lt)
  have HB1 := Lib.hid (HB0.out.trans (hb1.mono HB0.out.size))
  clear hb1
  have c1_0_0 := HQ1_0.out.cell 0
  have c1_0_1 := HQ1_0.out.cell 1
  have z1_0 := HQ1_0.out.lt
  try simp at c1_0_0 c1_0_1
  go_wp2_with fail
  go_ret
  exact ⟨by first | rfl | (simp; omega), HB1.out⟩
/-- What may be. -/
def lvB (p b : Nat) (P n : Int) : Prop := rateB p b ∧ 1 ≤ P ∧ P ≤ 1000000000000 ∧ 1 ≤ n ∧ n ≤ 480
instance (p b : Nat) (P n : Int) : Decidable (lvB p b P n) := inferInstanceAs (Decidable (_ ∧ _))
set_option maxRecDepth 20000 in
set_option maxHeartbeats 4000000 in
theorem ltakes_no {p b : Nat} {P n : Int} (h : ¬ lvB p b P n) (w : World) :
    Calls Try.prog 18 #[.int .i64 P, rv p b, .int .i64 n] w (Ret (.bool false) w) := by
  by_cases hr : rateB p b
  · have hR := fun W => YR_yes hr W
    unfold rv at hR ⊢
    rcases (show P < 1 ∨ (1 ≤ P ∧ 1000000000000 < P) ∨ (1 ≤ P ∧ P ≤ 1000000000000 ∧ n < 1) ∨ (1 ≤ P ∧ P ≤ 1000000000000 ∧ 1 ≤ n ∧ 480 < n) by have h' : ¬ (1 ≤ P ∧ P ≤ 1000000000000 ∧ 1 ≤ n ∧ n ≤ 480) := fun e => h ⟨hr, e⟩; omega) with h1 | ⟨h1, h2⟩ | ⟨h1, h2, h3⟩ | ⟨h1, h2, h3, h4⟩
    · clear h hr
      go_enter Try.func18, Try.ntmps18
      have HQ0 := Lib.hid (Blk.new w 25 #[.int .u32 (p : Int), .int .u8 (b : Int)])
      have HB0 := Lib.hid (b_alloc w (.cells #[.int .u32 (p : Int), .int .u8 (b : Int)] 25))
      go_wp2_with fail
      refine (hR _).mono ?_
      rintro e w1 ⟨rfl, hb1⟩
      have HQ1_0 := Lib.hid (HQ0.out.below hb1 HQ0.out.lt)
      have HB1 := Lib.hid (HB0.out.trans (hb1.mono HB0.out.size))
      clear hb1
      have c1_0_0 := HQ1_0.out.cell 0
      have c1_0_1 := HQ1_0.out.cell 1
      have z1_0 := HQ1_0.out.lt
      try simp at c1_0_0 c1_0_1
      go_wp2_with fail
      go_ret
      exact ⟨by first | rfl | (simp; omega), HB1.out⟩
    · clear h hr
      go_enter Try.func18, Try.ntmps18
      have HQ0 := Lib.hid (Blk.new w 25 #[.int .u32 (p : Int), .int .u8 (b : Int)])
      have HB0 := Lib.hid (b_alloc w (.cells #[.int .u32 (p : Int), .int .u8 (b : Int)] 25))
      go_wp2_with fail
      refine (hR _).mono ?_
      rintro e w1 ⟨rfl, hb1⟩
      have HQ1_0 := Lib.hid (HQ0.out.below hb1 HQ0.out.lt)
      have HB1 := Lib.hid (HB0.out.trans (hb1.mono HB0.out.size))
      clear hb1
      have c1_0_0 := HQ1_0.out.cell 0
      have c1_0_1 := HQ1_0.out.cell 1
      have z1_0 := HQ1_0.out.lt
      try simp at c1_0_0 c1_0_1
      go_wp2_with fail
      go_ret
      exact ⟨by first | rfl | (simp; omega), HB1.out⟩
    · clear h hr
      go_enter Try.func18, Try.ntmps18
      have HQ0 := Lib.hid (Blk.new w 25 #[.int .u32 (p : Int), .int .u8 (b : Int)])
      have HB0 := Lib.hid (b_alloc w (.cells #[.int .u32 (p : Int), .int .u8 (b : Int)] 25))
      go_wp2_with fail
      refine (hR _).mono ?_
      rintro e w1 ⟨rfl, hb1⟩
      have HQ1_0 := Lib.hid (HQ0.out.below hb1 HQ0.out.lt)
      have HB1 := Lib.hid (HB0.out.trans (hb1.mono HB0.out.size))
      clear hb1
      have c1_0_0 := HQ1_0.out.cell 0
      have c1_0_1 := HQ1_0.out.cell 1
      have z1_0 := HQ1_0.out.lt
      try simp at c1_0_0 c1_0_1
      go_wp2_with fail
      go_ret
      exact ⟨by first | rfl | (simp; omega), HB1.out⟩
    · clear h hr
      go_enter Try.func18, Try.ntmps18
      have HQ0 := Lib.hid (Blk.new w 25 #[.int .u32 (p : Int), .int .u8 (b : Int)])
      have HB0 := Lib.hid (b_alloc w (.cells #[.int .u32 (p : Int), .int .u8 (b : Int)] 25))
      go_wp2_with fail
      refine (hR _).mono ?_
      rintro e w1 ⟨rfl, hb1⟩
      have HQ1_0 := Lib.hid (HQ0.out.below hb1 HQ0.out.lt)
      have HB1 := Lib.hid (HB0.out.trans (hb1.mono HB0.out.size))
      clear hb1
      have c1_0_0 := HQ1_0.out.cell 0
      have c1_0_1 := HQ1_0.out.cell 1
      have z1_0 := HQ1_0.out.lt
      try simp at c1_0_0 c1_0_1
      go_wp2_with fail
      go_ret
      exact ⟨by first | rfl | (simp; omega), HB1.out⟩
  · have hR := fun W => YR_no hr W
    unfold rv at hR ⊢
    clear h hr
    go_enter Try.func18, Try.ntmps18
    have HQ0 := Lib.hid (Blk.new w 25 #[.int .u32 (p : Int), .int .u8 (b : Int)])
    have HB0 := Lib.hid (b_alloc w (.cells #[.int .u32 (p : Int), .int .u8 (b : Int)] 25))
    go_wp2_with fail
    refine (hR _).mono ?_
    rintro e w1 ⟨rfl, hb1⟩
    have HQ1_0 := Lib.hid (HQ0.out.below hb1 HQ0.out.lt)
    have HB1 := Lib.hid (HB0.out.trans (hb1.mono HB0.out.size))
    clear hb1
    have c1_0_0 := HQ1_0.out.cell 0
    have c1_0_1 := HQ1_0.out.cell 1
    have z1_0 := HQ1_0.out.lt
    try simp at c1_0_0 c1_0_1
    go_wp2_with fail
    go_ret
    exact ⟨by first | rfl | (simp; omega), HB1.out⟩
end Go.Proofs.Ytbikfplipkhhcaa
