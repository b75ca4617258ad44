/-
  A date's Months; the reference's. Condition: the months' lengths are laid.
-/
import Derived.Test.YtkhjmbemjndcoaaGreatDoorDateF
import Derived.StillTailTactics
namespace Go.Proofs.YtkhjmbemjndcoaaGreatDoor
open Go.RowKit

theorem two_boxes {w W1 : World} {T U : TypeId} {a b c x y z : Value} (h : (w.alloc (.cells #[a, b, c] T)).alloc (.cells #[x, y, z] U) = W1) :
    Below w.heap.size w W1 ∧ Blk W1 w.heap.size T #[a, b, c] ∧ Blk W1 (w.heap.size + 1) U #[x, y, z] := by
  subst h
  refine ⟨(below_alloc w _).trans ((below_alloc _ _).mono (by simp)), (Blk.new w _ _).alloc _, ?_⟩
  have := Blk.new (w.alloc (.cells #[a, b, c] T)) U #[x, y, z]
  rw [World.size_alloc] at this
  exact this

theorem same_sym {P : Program} {f : FuncId} {args : Array Value} {W : World} {v : Value} (h : Calls P f args W fun e w' => e = .returned v ∧ W = w') : Calls P f args W fun e w'' => e = .returned v ∧ w'' = W :=
  h.mono fun _ _ ⟨a, b⟩ => ⟨a, b.symm⟩

set_option maxRecDepth 20000 in
set_option maxHeartbeats 2000000 in
theorem Months_ok (y m d n : Int) (h : rightB y m d = true) (t0 : 0 ≤ mon y m n) (t1 : mon y m n < 119988) (w : World) (hw : Lens w) :
    Calls Tryz.prog 19 #[.agg #[.int .i64 y, .int .i64 m, .int .i64 d], .int .i64 n] w fun e w' => e = .returned (.tuple #[.agg #[.int .i64 (mY (mon y m n)), .int .i64 (mM (mon y m n)), .int .i64 (mD (mon y m n) d)], .nilIface]) ∧ Below w.heap.size w w' := by
  obtain ⟨y1, y2, m1, m2, d1, d2⟩ := right_in h
  have ld := mlen_bd y m
  obtain ⟨q1, q2, q3, q4⟩ := mon_in t0 t1
  have hY : (12 * (y - 1) + m - 1 + n) / 12 + 1 = mY (mon y m n) := by unfold mY mon; omega
  have hM : (12 * (y - 1) + m - 1 + n) % 12 + 1 = mM (mon y m n) := by unfold mM mon; omega
  have hD : min d (mlen (mY (mon y m n)) (mM (mon y m n))) = mD (mon y m n) d := rfl
  have s0 : 0 ≤ 12 * (y - 1) + m - 1 + n := by unfold mon at t0; omega
  have s1 : 12 * (y - 1) + m - 1 + n < 119988 := by unfold mon at t1; omega
  generalize mY (mon y m n) = y' at hY hM hD q1 q2 ⊢
  generalize mM (mon y m n) = m' at hM hD q3 q4 ⊢
  generalize mD (mon y m n) d = d' at hD ⊢
  have lm := mlen_bd y' m'
  have HD := Lib.hid hD
  have HY := Lib.hid hY
  have HM := Lib.hid hM
  clear t0 t1 hD hY hM
  have HW := Lib.hid hw
  clear hw
  go_enter Tryz.func19, Tryz.ntmps19
  go_wp2_with fail
  obtain ⟨W1, hW1⟩ : ∃ W, (w.alloc (.cells #[.int .i64 y, .int .i64 m, .int .i64 d] 48)).alloc (.cells #[.int .i64 0, .int .i64 0, .int .i64 0] 48) = W := ⟨_, rfl⟩
  rw [hW1]
  obtain ⟨hb1, hka, hkb⟩ := two_boxes hW1
  clear hW1
  have hR := CRight_any y m d W1 (HW.out.below hb1)
  rw [h] at hR
  refine hR.mono ?_
  rintro e w2 ⟨rfl, hb2⟩
  have hka2 := hka.below hb2 hka.lt
  have hkb2 := hkb.below hb2 hkb.lt
  have HB2 := Lib.hid (hb1.trans (hb2.mono hb1.size))
  have hl2 := HW.out.below HB2.out
  have c0 := hka2.cell 0
  have c1 := hka2.cell 1
  have c2 := hka2.cell 2
  simp at c0 c1 c2
  clear hR hb2 hb1 hka hkb h
  have i1 : ¬ n < -(12 * (y - 1) + m - 1) := by omega
  have i2 : ¬ 119988 - (12 * (y - 1) + m - 1) ≤ n := by omega
  have HA := Lib.hid hka2
  have HC := Lib.hid hkb2
  clear hka2 hkb2
  go_wp2_with fail
  rw [HY.out, HM.out]
  obtain ⟨w3, hw3⟩ : ∃ W, w2.drew = W := ⟨_, rfl⟩
  have HL : Hid _ := Lib.hid (same_sym (Length_any y' m' w2.drew hl2))
  rw [hw3] at HL
  have e2 : w3.cell? ⟨w.heap.size, 2, none⟩ = some (.int .i64 d) := by rw [← hw3]; exact c2
  have kb : Blk w3 (w.heap.size + 1) 48 #[.int .i64 0, .int .i64 0, .int .i64 0] := by rw [← hw3]; exact HC.out
  have hb3 : Below w.heap.size w w3 := by rw [← hw3]; exact HB2.out.drew
  have HKB := Lib.hid kb
  have HB3 := Lib.hid hb3
  clear c0 c1 c2 kb hb3 hl2 i1 i2 HA HC HB2
  have kb := HKB.out
  have g0 := kb.cell 0
  have g1 := kb.cell 1
  have g2 := kb.cell 2
  have f0 := kb.frozen 0
  have f1 := kb.frozen 1
  have f2 := kb.frozen 2
  simp at g0 g1 g2
  by_cases hmn : d ≤ mlen y' m'
  · have hd' : d = d' := by rw [← HD.out]; exact (Int.min_eq_left hmn).symm
    obtain ⟨s0, s1, s2⟩ := set3 kb (.int .i64 y') (.int .i64 m') (.int .i64 d)
    have HD' := Lib.hid hd'
    clear hd' kb
    refine wp_region_still_tail 9 (by kernel_rfl) (by kernel_rfl) ?_
    simp only [List.take_succ_cons, List.take_zero, List.drop_succ_cons, List.drop_zero]
    change wpStill _ _ w2.drew _ _ _
    rw [hw3]
    change wpStill _ _ w3 (fun a' => wpList _ _ _ _ a' w2.drew) _ _
    rw [hw3]
    clear hw3
    iterate 6 still_step
    still_call HL.out
    still_step
    still_step
    refine wpStill_nil ?_
    go_wp2_with fail
    exact bodyPost_ret (v := .tuple #[.agg #[.int .i64 y', .int .i64 m', .int .i64 d], .nilIface]) (by simp [results, Tryz.results19, go_sem, s0, s1, s2, Result.andThen]) rfl ⟨by rw [HD'.out], below3 HB3.out (by omega) _ _ _⟩
  · have hd' : mlen y' m' = d' := by rw [← HD.out]; exact (Int.min_eq_right (by omega)).symm
    rw [hd'] at HL hmn lm
    obtain ⟨s0, s1, s2⟩ := set3 kb (.int .i64 y') (.int .i64 m') (.int .i64 d')
    clear hd' kb HD
    refine wp_region_still_tail 9 (by kernel_rfl) (by kernel_rfl) ?_
    simp only [List.take_succ_cons, List.take_zero, List.drop_succ_cons, List.drop_zero]
    change wpStill _ _ w2.drew _ _ _
    rw [hw3]
    change wpStill _ _ w3 (fun a' => wpList _ _ _ _ a' w2.drew) _ _
    rw [hw3]
    clear hw3
    iterate 6 still_step
    still_call HL.out
    still_step
    still_step
    refine wpStill_nil ?_
    go_wp2_with fail
    exact bodyPost_ret (v := .tuple #[.agg #[.int .i64 y', .int .i64 m', .int .i64 d'], .nilIface]) (by simp [results, Tryz.results19, go_sem, s0, s1, s2, Result.andThen]) rfl ⟨rfl, below3 HB3.out (by omega) _ _ _⟩
end Go.Proofs.YtkhjmbemjndcoaaGreatDoor
