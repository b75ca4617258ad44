/-
  A date's Months where it is none or beyond; the reference's Months; the document's example. Condition: the months' lengths are laid.
-/
import Derived.Test.YtkhjmbemjndcoaaGreatDoorDateG
import Derived.Deep.RegionHeld3
namespace Go.Proofs.YtkhjmbemjndcoaaGreatDoor
open Go.RowKit

set_option maxRecDepth 20000 in
set_option maxHeartbeats 2000000 in
theorem Months_arg (y m d n : Int) (h : rightB y m d = false) (w : World) (hw : Lens w) :
    Calls Tryz.prog 19 #[.agg #[.int .i64 y, .int .i64 m, .int .i64 d], .int .i64 n] w fun e w' => e = .returned (.tuple #[.agg #[.int .i64 0, .int .i64 0, .int .i64 0], .iface 35 (.int .i64 1)]) ∧ Below w.heap.size w w' := by
  go_enter Tryz.func19, Tryz.ntmps19
  go_wp2_with fail
  obtain ⟨W1, hW1⟩ : ∃ W, (w.alloc (.cells #[.int .i64 y, .int .i64 m, .int .i64 d] 48)).alloc (.cells #[.int .i64 0, .int .i64 0, .int .i64 0] 48) = W := ⟨_, rfl⟩
  rw [hW1]
  obtain ⟨hb1, hka, hkb⟩ := two_boxes hW1
  clear hW1
  have hR := CRight_any y m d W1 (hw.below hb1)
  rw [h] at hR
  refine hR.mono ?_
  rintro e w2 ⟨rfl, hb2⟩
  have hkb2 := hkb.below hb2 hkb.lt
  have HB2 := Lib.hid (hb1.trans (hb2.mono hb1.size))
  have g0 := hkb2.cell 0
  have g1 := hkb2.cell 1
  have g2 := hkb2.cell 2
  have f0 := hkb2.frozen 0
  have f1 := hkb2.frozen 1
  have f2 := hkb2.frozen 2
  simp at g0 g1 g2
  obtain ⟨s0, s1, s2⟩ := set3 hkb2 (.int .i64 0) (.int .i64 0) (.int .i64 0)
  clear hR hb2 hb1 hka hkb h hw hkb2
  go_wp2_with fail
  exact bodyPost_ret (v := .tuple #[.agg #[.int .i64 0, .int .i64 0, .int .i64 0], .iface 35 (.int .i64 1)]) (by simp [results, Tryz.results19, go_sem, s0, s1, s2, Result.andThen]) rfl ⟨rfl, below3 HB2.out (by omega) _ _ _⟩

set_option maxRecDepth 20000 in
set_option maxHeartbeats 2000000 in
theorem Months_over (y m d n : Int) (h : rightB y m d = true) (t : mon y m n < 0 ∨ 119988 ≤ mon y m n) (w : World) (hw : Lens w) :
    Calls Tryz.prog 19 #[.agg #[.int .i64 y, .int .i64 m, .int .i64 d], .int .i64 n] w fun e w' => e = .returned (.tuple #[.agg #[.int .i64 0, .int .i64 0, .int .i64 0], .iface 35 (.int .i64 12)]) ∧ Below w.heap.size w w' := by
  obtain ⟨y1, y2, m1, m2, d1, d2⟩ := right_in h
  unfold mon at t
  go_enter Tryz.func19, Tryz.ntmps19
  go_wp2_with fail
  obtain ⟨W1, hW1⟩ : ∃ W, (w.alloc (.cells #[.int .i64 y, .int .i64 m, .int .i64 d] 48)).alloc (.cells #[.int .i64 0, .int .i64 0, .int .i64 0] 48) = W := ⟨_, rfl⟩
  rw [hW1]
  obtain ⟨hb1, hka, hkb⟩ := two_boxes hW1
  clear hW1
  have hR := CRight_any y m d W1 (hw.below hb1)
  rw [h] at hR
  refine hR.mono ?_
  rintro e w2 ⟨rfl, hb2⟩
  have hka2 := hka.below hb2 hka.lt
  have hkb2 := hkb.below hb2 hkb.lt
  have HB2 := Lib.hid (hb1.trans (hb2.mono hb1.size))
  have c0 := hka2.cell 0
  have c1 := hka2.cell 1
  have g0 := hkb2.cell 0
  have g1 := hkb2.cell 1
  have g2 := hkb2.cell 2
  have f0 := hkb2.frozen 0
  have f1 := hkb2.frozen 1
  have f2 := hkb2.frozen 2
  simp at g0 g1 g2 c0 c1
  obtain ⟨s0, s1, s2⟩ := set3 hkb2 (.int .i64 0) (.int .i64 0) (.int .i64 0)
  clear hR hb2 hb1 hka hkb h hw hkb2 hka2
  by_cases ht : n < -(12 * (y - 1) + m - 1)
  · clear t
    go_wp2_with fail
    exact bodyPost_ret (v := .tuple #[.agg #[.int .i64 0, .int .i64 0, .int .i64 0], .iface 35 (.int .i64 12)]) (by simp [results, Tryz.results19, go_sem, s0, s1, s2, Result.andThen]) rfl ⟨rfl, below3 HB2.out (by omega) _ _ _⟩
  · have ht2 : 119988 - (12 * (y - 1) + m - 1) ≤ n := by omega
    clear t
    go_wp2_with fail
    exact bodyPost_ret (v := .tuple #[.agg #[.int .i64 0, .int .i64 0, .int .i64 0], .iface 35 (.int .i64 12)]) (by simp [results, Tryz.results19, go_sem, s0, s1, s2, Result.andThen]) rfl ⟨rfl, below3 HB2.out (by omega) _ _ _⟩

theorem keep3 {W : World} {g : Nat} {q : Addr} {v x y z : Value} (h : W.cell? q = some v) (hq : q.block ≠ g) : (((W.setCell ⟨g, 0, none⟩ x).setCell ⟨g, 1, none⟩ y).setCell ⟨g, 2, none⟩ z).cell? q = some v := by
  rw [World.cell?_setCell_other _ _ _ _ (fun e => hq (by subst e; rfl)), World.cell?_setCell_other _ _ _ _ (fun e => hq (by subst e; rfl)), World.cell?_setCell_other _ _ _ _ (fun e => hq (by subst e; rfl))]
  exact h

end Go.Proofs.YtkhjmbemjndcoaaGreatDoor
