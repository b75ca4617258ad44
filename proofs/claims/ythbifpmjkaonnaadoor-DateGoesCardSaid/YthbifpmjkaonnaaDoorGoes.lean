/-
  DateGoes: the walk. Conditions: the day's kind; the months' lengths are laid.
-/
import Derived.Test.YthbifpmjkaonnaaDoorDateH
namespace Go.Proofs.YthbifpmjkaonnaaDoor
open Go.RowKit

theorem last_yes {y m d : Int} (h : rightB y m d = true) (e : d = mlen y m) : lastB y m d = true := by
  unfold lastB
  rw [h, e]
  simp
theorem last_no {y m d : Int} (e : d ≠ mlen y m) : lastB y m d = false := by
  unfold lastB
  rw [beq_eq_false_iff_ne.2 e, Bool.and_false]

set_option maxRecDepth 20000 in
set_option maxHeartbeats 2000000 in
theorem Goes_any (n : Int) (hn : -2147483648 ≤ n ∧ n ≤ 2147483647) (w : World) (hw : Lens w) : Calls Tryd.prog 8 #[.int .i32 n] w fun e w' => e = .returned (.bool true) ∧ Below w.heap.size w w' := by
  by_cases h : 0 ≤ n ∧ n < 3652058
  · obtain ⟨h0, h1⟩ := h
    obtain ⟨y1, y2, m1, m2, d1, d2, d3⟩ := civ_in n h0 (by omega)
    have hr := (civ_right n h0 (by omega)).1
    have hnx := civ_next n h0 h1
    have hA := fun W (hW : Lens W) => DCivil_any n W h0 (by omega) hW
    have hB := fun W (hW : Lens W) => DCivil_any (n + 1) W (by omega) (by omega) hW
    have hLs := fun W (hW : Lens W) => CLast_any (cY n) (cM n) (cD n) W hW
    generalize cY n = Y at *
    generalize cM n = M at *
    generalize cD n = D at *
    have HW := Lib.hid hw
    clear hw
    by_cases hl : D = mlen Y M
    · rw [last_yes hr hl] at hLs
      have hnx2 : cY (n + 1) = mY (12 * (Y - 1) + M) ∧ cM (n + 1) = mM (12 * (Y - 1) + M) ∧ cD (n + 1) = 1 := by
        rcases hnx with h | h | h
        · exact absurd hl (by omega)
        · obtain ⟨-, h2, h3, h4, h5⟩ := h
          rw [h3, h4, h5]
          unfold mY mM
          omega
        · obtain ⟨-, h2, h3, h4, h5, h6⟩ := h
          rw [h4, h5, h6]
          unfold mY mM
          omega
      rw [hnx2.1, hnx2.2.1, hnx2.2.2] at hB
      have hN := fun W => Next_fwd Y M (by omega) m1 m2 W
      generalize mY (12 * (Y - 1) + M) = Y' at hB hN
      generalize mM (12 * (Y - 1) + M) = M' at hB hN
      clear hnx hnx2 hl hr
      go_enter Tryd.func8, Tryd.ntmps8
      go_wp2_with fail
      refine (awake5 _ HW.out).mono ?_
      rintro e w1 ⟨rfl, hb1⟩
      have HB1 := Lib.hid hb1
      clear hb1
      go_wp2_with fail
      refine (hA _ (HW.out.below HB1.out)).mono ?_
      rintro e w2 ⟨rfl, hb2⟩
      have HB2 := Lib.hid (HB1.out.trans (hb2.mono HB1.out.size))
      clear hb2
      go_wp2_with fail
      have hk2 := Blk.new w2 40 #[.int .i64 Y, .int .i64 M, .int .i64 D]
      have hb2a := HB2.out.alloc HB2.out.size (.cells #[.int .i64 Y, .int .i64 M, .int .i64 D] 40)
      refine (hB _ (HW.out.below hb2a)).mono ?_
      rintro e w3 ⟨rfl, hb3⟩
      have hk3 := hk2.below hb3 hk2.lt
      have HB3 := Lib.hid (hb2a.trans (hb3.mono hb2a.size))
      have ca0 := hk3.cell 0
      have ca1 := hk3.cell 1
      have ca2 := hk3.cell 2
      have hz := hk3.lt
      simp at ca0 ca1 ca2
      clear hb3 hk2 hk3 hb2a hA hB
      go_wp2_with fail
      have hk3 := Blk.new w3 40 #[.int .i64 Y', .int .i64 M', .int .i64 1]
      have hb3a := HB3.out.alloc HB3.out.size (.cells #[.int .i64 Y', .int .i64 M', .int .i64 1] 40)
      refine (hLs _ (HW.out.below hb3a)).mono ?_
      rintro e w4 ⟨rfl, hb4⟩
      have hk4 := hk3.below hb4 hk3.lt
      have HB4 := Lib.hid (hb3a.trans (hb4.mono hb3a.size))
      have cb0 := hk4.cell 0
      have cb1 := hk4.cell 1
      have cb2 := hk4.cell 2
      have hz4 := hk4.lt
      have ea0 : w4.cell? ⟨w2.heap.size, 0, none⟩ = some (.int .i64 Y) := by rw [hb4.cell (p := ⟨w2.heap.size, 0, none⟩) (by simp; omega), World.cell?_alloc_lt _ _ _ (by simpa using hz)]; exact ca0
      have ea1 : w4.cell? ⟨w2.heap.size, 1, none⟩ = some (.int .i64 M) := by rw [hb4.cell (p := ⟨w2.heap.size, 1, none⟩) (by simp; omega), World.cell?_alloc_lt _ _ _ (by simpa using hz)]; exact ca1
      have ea2 : w4.cell? ⟨w2.heap.size, 2, none⟩ = some (.int .i64 D) := by rw [hb4.cell (p := ⟨w2.heap.size, 2, none⟩) (by simp; omega), World.cell?_alloc_lt _ _ _ (by simpa using hz)]; exact ca2
      simp at cb0 cb1 cb2
      clear hb4 hk3 hk4 hb3a hLs ca0 ca1 ca2
      go_wp2_with fail
      refine (hN _).mono ?_
      rintro e w5 ⟨rfl, rfl⟩
      go_wp2_with fail
      go_ret
      exact ⟨by rfl, HB4.out⟩
    · rw [last_no hl] at hLs
      have hnx2 : cY (n + 1) = Y ∧ cM (n + 1) = M ∧ cD (n + 1) = D + 1 := by
        rcases hnx with h | h | h
        · exact h.2
        · exact absurd h.1 hl
        · exact absurd h.1 hl
      rw [hnx2.1, hnx2.2.1, hnx2.2.2] at hB
      clear hnx hnx2 hl hr
      go_enter Tryd.func8, Tryd.ntmps8
      go_wp2_with fail
      refine (awake5 _ HW.out).mono ?_
      rintro e w1 ⟨rfl, hb1⟩
      have HB1 := Lib.hid hb1
      clear hb1
      go_wp2_with fail
      refine (hA _ (HW.out.below HB1.out)).mono ?_
      rintro e w2 ⟨rfl, hb2⟩
      have HB2 := Lib.hid (HB1.out.trans (hb2.mono HB1.out.size))
      clear hb2
      go_wp2_with fail
      have hk2 := Blk.new w2 40 #[.int .i64 Y, .int .i64 M, .int .i64 D]
      have hb2a := HB2.out.alloc HB2.out.size (.cells #[.int .i64 Y, .int .i64 M, .int .i64 D] 40)
      refine (hB _ (HW.out.below hb2a)).mono ?_
      rintro e w3 ⟨rfl, hb3⟩
      have hk3 := hk2.below hb3 hk2.lt
      have HB3 := Lib.hid (hb2a.trans (hb3.mono hb2a.size))
      have ca0 := hk3.cell 0
      have ca1 := hk3.cell 1
      have ca2 := hk3.cell 2
      have hz := hk3.lt
      simp at ca0 ca1 ca2
      clear hb3 hk2 hk3 hb2a hA hB
      go_wp2_with fail
      have hk3 := Blk.new w3 40 #[.int .i64 Y, .int .i64 M, .int .i64 (D + 1)]
      have hb3a := HB3.out.alloc HB3.out.size (.cells #[.int .i64 Y, .int .i64 M, .int .i64 (D + 1)] 40)
      refine (hLs _ (HW.out.below hb3a)).mono ?_
      rintro e w4 ⟨rfl, hb4⟩
      have hk4 := hk3.below hb4 hk3.lt
      have HB4 := Lib.hid (hb3a.trans (hb4.mono hb3a.size))
      have cb0 := hk4.cell 0
      have cb1 := hk4.cell 1
      have cb2 := hk4.cell 2
      have hz4 := hk4.lt
      have ea0 : w4.cell? ⟨w2.heap.size, 0, none⟩ = some (.int .i64 Y) := by rw [hb4.cell (p := ⟨w2.heap.size, 0, none⟩) (by simp; omega), World.cell?_alloc_lt _ _ _ (by simpa using hz)]; exact ca0
      have ea1 : w4.cell? ⟨w2.heap.size, 1, none⟩ = some (.int .i64 M) := by rw [hb4.cell (p := ⟨w2.heap.size, 1, none⟩) (by simp; omega), World.cell?_alloc_lt _ _ _ (by simpa using hz)]; exact ca1
      have ea2 : w4.cell? ⟨w2.heap.size, 2, none⟩ = some (.int .i64 D) := by rw [hb4.cell (p := ⟨w2.heap.size, 2, none⟩) (by simp; omega), World.cell?_alloc_lt _ _ _ (by simpa using hz)]; exact ca2
      simp at cb0 cb1 cb2
      clear hb4 hk3 hk4 hb3a hLs ca0 ca1 ca2
      have hk1 := fun W => Week_any (n + 1) (by omega) (by omega) W
      have hk0 := fun W => Week_any n h0 (by omega) W
      have e7 : (n + 1) % 7 = (n % 7 + 1) % 7 := by omega
      obtain ⟨a, ea⟩ : ∃ a, n % 7 = a := ⟨_, rfl⟩
      have a0 : 0 ≤ a := by omega
      have a1 : a < 7 := by omega
      rw [ea] at e7 hk0
      rw [e7] at hk1
      clear e7 ea
      go_wp2_with fail
      refine (hk1 _).mono ?_
      rintro e w5 ⟨rfl, rfl⟩
      go_wp2_with fail
      refine (hk0 _).mono ?_
      rintro e w6 ⟨rfl, rfl⟩
      go_wp2_with fail
      go_ret
      exact ⟨by simp, HB4.out⟩
  · by_cases h0 : 0 ≤ n
    · have h1 : 3652058 ≤ n := by omega
      clear h
      go_enter Tryd.func8, Tryd.ntmps8
      go_wp2_with fail
      refine (awake5 _ hw).mono ?_
      rintro e w1 ⟨rfl, hb1⟩
      go_wp2_with fail
      go_ret
      exact ⟨rfl, hb1⟩
    · clear h
      go_enter Tryd.func8, Tryd.ntmps8
      go_wp2_with fail
      refine (awake5 _ hw).mono ?_
      rintro e w1 ⟨rfl, hb1⟩
      go_wp2_with fail
      go_ret
      exact ⟨rfl, hb1⟩
end Go.Proofs.YthbifpmjkaonnaaDoor
