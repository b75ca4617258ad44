/-
  DateOrders: the walk. Conditions: the days' kinds; the months' lengths and strconv's powers of ten are laid.
-/
import Derived.Test.YthbifpmjkaonnaaDoorTextB
import Derived.Test.YthbifpmjkaonnaaDoorSpanM
import Derived.Test.YthbifpmjkaonnaaDoorOrdT
namespace Go.Proofs.YthbifpmjkaonnaaDoor
open Go.RowKit

theorem dayB_trueO {d : Int} (h0 : 0 ≤ d) (h1 : d ≤ 3652058) (W : World) : Calls Tryd.prog 23 #[.int .i32 d] W fun e w' => e = .returned (.bool true) ∧ W = w' := by
  have := DRight_any d W
  rw [day_yes h0 h1] at this
  exact this
theorem dayB_falseO {d : Int} (h : d < 0 ∨ 3652058 < d) (W : World) : Calls Tryd.prog 23 #[.int .i32 d] W fun e w' => e = .returned (.bool false) ∧ W = w' := by
  have := DRight_any d W
  rw [day_no h] at this
  exact this
theorem day_less (a b : Int) (a0 : 0 ≤ a) (a1 : a ≤ 3652058) (b0 : 0 ≤ b) (b1 : b ≤ 3652058) : Op.bytesLess (dayText a).toList (dayText b).toList = decide (a < b) := by
  obtain ⟨y1, y2, m1, m2, d1, d2, d3⟩ := civ_in a a0 a1
  obtain ⟨x1, x2, u1, u2, v1, v2, v3⟩ := civ_in b b0 b1
  have h := civ_lt a0 a1 b0 b1
  unfold dayText
  rw [textS_list, textS_list, less_text _ _ _ _ _ _ (by omega) (by omega) (by omega) (by omega) (by omega) (by omega), Bool.eq_iff_iff]
  simp
  rw [h]
  omega
set_option maxRecDepth 20000 in
set_option maxHeartbeats 4000000 in
theorem OrdD_in (a b : Int) (a0 : 0 ≤ a) (a1 : a ≤ 3652058) (b0 : 0 ≤ b) (b1 : b ≤ 3652058) (w : World) (hw : Lens w) (hp : Pows w) :
    Calls Tryd.prog 9 #[.int .i32 a, .int .i32 b] w fun e w' => e = .returned (.bool true) ∧ Below w.heap.size w w' := by
  have rA := fun W => dayB_trueO a0 a1 W
  have rB := fun W => dayB_trueO b0 b1 W
  have cA := fun W (hW : Lens W) => DCivil_any a W a0 a1 hW
  have cB := fun W (hW : Lens W) => DCivil_any b W b0 b1 hW
  have tA := fun W (hW : Lens W) (hP : Pows W) => DText_any a a0 a1 W hW hP
  have tB := fun W (hW : Lens W) (hP : Pows W) => DText_any b b0 b1 W hW hP
  have hlt := civ_lt a0 a1 b0 b1
  have hls := day_less a b a0 a1 b0 b1
  generalize cY a = Y at *
  generalize cM a = M at *
  generalize cD a = D at *
  generalize cY b = Y' at *
  generalize cM b = M' at *
  generalize cD b = D' at *
  generalize dayText a = S at *
  generalize dayText b = S' at *
  have HLS := Lib.hid hls
  clear hls
  have HW := Lib.hid hw
  have HP := Lib.hid hp
  clear hw hp
  have hc : (a < b ∧ (Y < Y' ∨ Y = Y' ∧ M < M' ∨ Y = Y' ∧ M = M' ∧ D < D')) ∨ (b ≤ a ∧ (Y' < Y ∨ Y = Y' ∧ M' < M ∨ Y = Y' ∧ M = M' ∧ D' ≤ D)) := by omega
  clear hlt
  rcases hc with ⟨hab, hc | ⟨rfl, hc⟩ | ⟨rfl, rfl, hc⟩⟩ | ⟨hab, hc | ⟨rfl, hc⟩ | ⟨rfl, rfl, hc⟩⟩
  · go_enter Tryd.func9, Tryd.ntmps9
    go_wp2_with fail
    refine (awake5 _ HW.out).mono ?_
    rintro e w1 ⟨rfl, hb1⟩
    have HB1 := Lib.hid hb1
    clear hb1
    go_wp2_with fail
    refine (rA _).mono ?_
    rintro e w9 ⟨rfl, rfl⟩
    go_wp2_with fail
    refine (rB _).mono ?_
    rintro e w9 ⟨rfl, rfl⟩
    go_wp2_with fail
    refine (cA _ (HW.out.below HB1.out)).mono ?_
    rintro e w2 ⟨rfl, hb2⟩
    have hb2' := HB1.out.trans (hb2.mono HB1.out.size)
    have hk2 := Blk.new w2 40 #[.int .i64 Y, .int .i64 M, .int .i64 D]
    have HB2 := Lib.hid (hb2'.alloc hb2'.size (.cells #[.int .i64 Y, .int .i64 M, .int .i64 D] 40))
    clear hb2 hb2'
    go_wp2_with fail
    refine (cB _ (HW.out.below HB2.out)).mono ?_
    rintro e w3 ⟨rfl, hb3⟩
    have hk3 := hk2.below hb3 hk2.lt
    have HB3 := Lib.hid (HB2.out.trans (hb3.mono HB2.out.size))
    have c0 := hk3.cell 0
    have c1 := hk3.cell 1
    have c2 := hk3.cell 2
    have z := hk3.lt
    simp at c0 c1 c2
    clear hb3 hk2 hk3
    go_wp2_with fail
    have hb3a := HB3.out.alloc HB3.out.size (.cells #[.int .i64 Y', .int .i64 M', .int .i64 D'] 40)
    refine (tA _ (HW.out.below hb3a) (HP.out.below hb3a)).mono ?_
    rintro e w4 ⟨rfl, hb4⟩
    have HB4 := Lib.hid (hb3a.trans (hb4.mono hb3a.size))
    clear hb4 hb3a
    go_wp2_with fail
    refine (tB _ (HW.out.below HB4.out) (HP.out.below HB4.out)).mono ?_
    rintro e w5 ⟨rfl, hb5⟩
    have HB5 := Lib.hid (HB4.out.trans (hb5.mono HB4.out.size))
    clear hb5
    go_wp2_with fail
    go_ret
    exact ⟨ret_bool (by rw [HLS.out]; simp <;> omega), HB5.out⟩
  · go_enter Tryd.func9, Tryd.ntmps9
    go_wp2_with fail
    refine (awake5 _ HW.out).mono ?_
    rintro e w1 ⟨rfl, hb1⟩
    have HB1 := Lib.hid hb1
    clear hb1
    go_wp2_with fail
    refine (rA _).mono ?_
    rintro e w9 ⟨rfl, rfl⟩
    go_wp2_with fail
    refine (rB _).mono ?_
    rintro e w9 ⟨rfl, rfl⟩
    go_wp2_with fail
    refine (cA _ (HW.out.below HB1.out)).mono ?_
    rintro e w2 ⟨rfl, hb2⟩
    have hb2' := HB1.out.trans (hb2.mono HB1.out.size)
    have hk2 := Blk.new w2 40 #[.int .i64 Y, .int .i64 M, .int .i64 D]
    have HB2 := Lib.hid (hb2'.alloc hb2'.size (.cells #[.int .i64 Y, .int .i64 M, .int .i64 D] 40))
    clear hb2 hb2'
    go_wp2_with fail
    refine (cB _ (HW.out.below HB2.out)).mono ?_
    rintro e w3 ⟨rfl, hb3⟩
    have hk3 := hk2.below hb3 hk2.lt
    have HB3 := Lib.hid (HB2.out.trans (hb3.mono HB2.out.size))
    have c0 := hk3.cell 0
    have c1 := hk3.cell 1
    have c2 := hk3.cell 2
    have z := hk3.lt
    simp at c0 c1 c2
    clear hb3 hk2 hk3
    go_wp2_with fail
    have hb3a := HB3.out.alloc HB3.out.size (.cells #[.int .i64 Y, .int .i64 M', .int .i64 D'] 40)
    refine (tA _ (HW.out.below hb3a) (HP.out.below hb3a)).mono ?_
    rintro e w4 ⟨rfl, hb4⟩
    have HB4 := Lib.hid (hb3a.trans (hb4.mono hb3a.size))
    clear hb4 hb3a
    go_wp2_with fail
    refine (tB _ (HW.out.below HB4.out) (HP.out.below HB4.out)).mono ?_
    rintro e w5 ⟨rfl, hb5⟩
    have HB5 := Lib.hid (HB4.out.trans (hb5.mono HB4.out.size))
    clear hb5
    go_wp2_with fail
    go_ret
    exact ⟨ret_bool (by rw [HLS.out]; simp <;> omega), HB5.out⟩
  · go_enter Tryd.func9, Tryd.ntmps9
    go_wp2_with fail
    refine (awake5 _ HW.out).mono ?_
    rintro e w1 ⟨rfl, hb1⟩
    have HB1 := Lib.hid hb1
    clear hb1
    go_wp2_with fail
    refine (rA _).mono ?_
    rintro e w9 ⟨rfl, rfl⟩
    go_wp2_with fail
    refine (rB _).mono ?_
    rintro e w9 ⟨rfl, rfl⟩
    go_wp2_with fail
    refine (cA _ (HW.out.below HB1.out)).mono ?_
    rintro e w2 ⟨rfl, hb2⟩
    have hb2' := HB1.out.trans (hb2.mono HB1.out.size)
    have hk2 := Blk.new w2 40 #[.int .i64 Y, .int .i64 M, .int .i64 D]
    have HB2 := Lib.hid (hb2'.alloc hb2'.size (.cells #[.int .i64 Y, .int .i64 M, .int .i64 D] 40))
    clear hb2 hb2'
    go_wp2_with fail
    refine (cB _ (HW.out.below HB2.out)).mono ?_
    rintro e w3 ⟨rfl, hb3⟩
    have hk3 := hk2.below hb3 hk2.lt
    have HB3 := Lib.hid (HB2.out.trans (hb3.mono HB2.out.size))
    have c0 := hk3.cell 0
    have c1 := hk3.cell 1
    have c2 := hk3.cell 2
    have z := hk3.lt
    simp at c0 c1 c2
    clear hb3 hk2 hk3
    go_wp2_with fail
    have hb3a := HB3.out.alloc HB3.out.size (.cells #[.int .i64 Y, .int .i64 M, .int .i64 D'] 40)
    refine (tA _ (HW.out.below hb3a) (HP.out.below hb3a)).mono ?_
    rintro e w4 ⟨rfl, hb4⟩
    have HB4 := Lib.hid (hb3a.trans (hb4.mono hb3a.size))
    clear hb4 hb3a
    go_wp2_with fail
    refine (tB _ (HW.out.below HB4.out) (HP.out.below HB4.out)).mono ?_
    rintro e w5 ⟨rfl, hb5⟩
    have HB5 := Lib.hid (HB4.out.trans (hb5.mono HB4.out.size))
    clear hb5
    go_wp2_with fail
    go_ret
    exact ⟨ret_bool (by rw [HLS.out]; simp <;> omega), HB5.out⟩
  · go_enter Tryd.func9, Tryd.ntmps9
    go_wp2_with fail
    refine (awake5 _ HW.out).mono ?_
    rintro e w1 ⟨rfl, hb1⟩
    have HB1 := Lib.hid hb1
    clear hb1
    go_wp2_with fail
    refine (rA _).mono ?_
    rintro e w9 ⟨rfl, rfl⟩
    go_wp2_with fail
    refine (rB _).mono ?_
    rintro e w9 ⟨rfl, rfl⟩
    go_wp2_with fail
    refine (cA _ (HW.out.below HB1.out)).mono ?_
    rintro e w2 ⟨rfl, hb2⟩
    have hb2' := HB1.out.trans (hb2.mono HB1.out.size)
    have hk2 := Blk.new w2 40 #[.int .i64 Y, .int .i64 M, .int .i64 D]
    have HB2 := Lib.hid (hb2'.alloc hb2'.size (.cells #[.int .i64 Y, .int .i64 M, .int .i64 D] 40))
    clear hb2 hb2'
    go_wp2_with fail
    refine (cB _ (HW.out.below HB2.out)).mono ?_
    rintro e w3 ⟨rfl, hb3⟩
    have hk3 := hk2.below hb3 hk2.lt
    have HB3 := Lib.hid (HB2.out.trans (hb3.mono HB2.out.size))
    have c0 := hk3.cell 0
    have c1 := hk3.cell 1
    have c2 := hk3.cell 2
    have z := hk3.lt
    simp at c0 c1 c2
    clear hb3 hk2 hk3
    go_wp2_with fail
    have hb3a := HB3.out.alloc HB3.out.size (.cells #[.int .i64 Y', .int .i64 M', .int .i64 D'] 40)
    refine (tA _ (HW.out.below hb3a) (HP.out.below hb3a)).mono ?_
    rintro e w4 ⟨rfl, hb4⟩
    have HB4 := Lib.hid (hb3a.trans (hb4.mono hb3a.size))
    clear hb4 hb3a
    go_wp2_with fail
    refine (tB _ (HW.out.below HB4.out) (HP.out.below HB4.out)).mono ?_
    rintro e w5 ⟨rfl, hb5⟩
    have HB5 := Lib.hid (HB4.out.trans (hb5.mono HB4.out.size))
    clear hb5
    go_wp2_with fail
    go_ret
    exact ⟨ret_bool (by rw [HLS.out]; simp <;> omega), HB5.out⟩
  · go_enter Tryd.func9, Tryd.ntmps9
    go_wp2_with fail
    refine (awake5 _ HW.out).mono ?_
    rintro e w1 ⟨rfl, hb1⟩
    have HB1 := Lib.hid hb1
    clear hb1
    go_wp2_with fail
    refine (rA _).mono ?_
    rintro e w9 ⟨rfl, rfl⟩
    go_wp2_with fail
    refine (rB _).mono ?_
    rintro e w9 ⟨rfl, rfl⟩
    go_wp2_with fail
    refine (cA _ (HW.out.below HB1.out)).mono ?_
    rintro e w2 ⟨rfl, hb2⟩
    have hb2' := HB1.out.trans (hb2.mono HB1.out.size)
    have hk2 := Blk.new w2 40 #[.int .i64 Y, .int .i64 M, .int .i64 D]
    have HB2 := Lib.hid (hb2'.alloc hb2'.size (.cells #[.int .i64 Y, .int .i64 M, .int .i64 D] 40))
    clear hb2 hb2'
    go_wp2_with fail
    refine (cB _ (HW.out.below HB2.out)).mono ?_
    rintro e w3 ⟨rfl, hb3⟩
    have hk3 := hk2.below hb3 hk2.lt
    have HB3 := Lib.hid (HB2.out.trans (hb3.mono HB2.out.size))
    have c0 := hk3.cell 0
    have c1 := hk3.cell 1
    have c2 := hk3.cell 2
    have z := hk3.lt
    simp at c0 c1 c2
    clear hb3 hk2 hk3
    go_wp2_with fail
    have hb3a := HB3.out.alloc HB3.out.size (.cells #[.int .i64 Y, .int .i64 M', .int .i64 D'] 40)
    refine (tA _ (HW.out.below hb3a) (HP.out.below hb3a)).mono ?_
    rintro e w4 ⟨rfl, hb4⟩
    have HB4 := Lib.hid (hb3a.trans (hb4.mono hb3a.size))
    clear hb4 hb3a
    go_wp2_with fail
    refine (tB _ (HW.out.below HB4.out) (HP.out.below HB4.out)).mono ?_
    rintro e w5 ⟨rfl, hb5⟩
    have HB5 := Lib.hid (HB4.out.trans (hb5.mono HB4.out.size))
    clear hb5
    go_wp2_with fail
    go_ret
    exact ⟨ret_bool (by rw [HLS.out]; simp <;> omega), HB5.out⟩
  · go_enter Tryd.func9, Tryd.ntmps9
    go_wp2_with fail
    refine (awake5 _ HW.out).mono ?_
    rintro e w1 ⟨rfl, hb1⟩
    have HB1 := Lib.hid hb1
    clear hb1
    go_wp2_with fail
    refine (rA _).mono ?_
    rintro e w9 ⟨rfl, rfl⟩
    go_wp2_with fail
    refine (rB _).mono ?_
    rintro e w9 ⟨rfl, rfl⟩
    go_wp2_with fail
    refine (cA _ (HW.out.below HB1.out)).mono ?_
    rintro e w2 ⟨rfl, hb2⟩
    have hb2' := HB1.out.trans (hb2.mono HB1.out.size)
    have hk2 := Blk.new w2 40 #[.int .i64 Y, .int .i64 M, .int .i64 D]
    have HB2 := Lib.hid (hb2'.alloc hb2'.size (.cells #[.int .i64 Y, .int .i64 M, .int .i64 D] 40))
    clear hb2 hb2'
    go_wp2_with fail
    refine (cB _ (HW.out.below HB2.out)).mono ?_
    rintro e w3 ⟨rfl, hb3⟩
    have hk3 := hk2.below hb3 hk2.lt
    have HB3 := Lib.hid (HB2.out.trans (hb3.mono HB2.out.size))
    have c0 := hk3.cell 0
    have c1 := hk3.cell 1
    have c2 := hk3.cell 2
    have z := hk3.lt
    simp at c0 c1 c2
    clear hb3 hk2 hk3
    go_wp2_with fail
    have hb3a := HB3.out.alloc HB3.out.size (.cells #[.int .i64 Y, .int .i64 M, .int .i64 D'] 40)
    refine (tA _ (HW.out.below hb3a) (HP.out.below hb3a)).mono ?_
    rintro e w4 ⟨rfl, hb4⟩
    have HB4 := Lib.hid (hb3a.trans (hb4.mono hb3a.size))
    clear hb4 hb3a
    go_wp2_with fail
    refine (tB _ (HW.out.below HB4.out) (HP.out.below HB4.out)).mono ?_
    rintro e w5 ⟨rfl, hb5⟩
    have HB5 := Lib.hid (HB4.out.trans (hb5.mono HB4.out.size))
    clear hb5
    go_wp2_with fail
    go_ret
    exact ⟨ret_bool (by rw [HLS.out]; simp <;> omega), HB5.out⟩

theorem OrdD_any (a b : Int) (w : World) (hw : Lens w) (hp : Pows w) :
    Calls Tryd.prog 9 #[.int .i32 a, .int .i32 b] w fun e w' => e = .returned (.bool true) ∧ Below w.heap.size w w' := by
  by_cases ha : a < 0 ∨ 3652058 < a
  · have rA := fun W => dayB_falseO ha W
    clear ha
    go_enter Tryd.func9, Tryd.ntmps9
    go_wp2_with fail
    refine (awake5 _ hw).mono ?_
    rintro e w1 ⟨rfl, hb1⟩
    go_wp2_with fail
    refine (rA _).mono ?_
    rintro e w9 ⟨rfl, rfl⟩
    go_wp2_with fail
    go_ret
    exact ⟨rfl, hb1⟩
  · have rA := fun W => dayB_trueO (show 0 ≤ a by omega) (show a ≤ 3652058 by omega) W
    by_cases hb : b < 0 ∨ 3652058 < b
    · have rB := fun W => dayB_falseO hb W
      clear ha hb
      go_enter Tryd.func9, Tryd.ntmps9
      go_wp2_with fail
      refine (awake5 _ hw).mono ?_
      rintro e w1 ⟨rfl, hb1⟩
      go_wp2_with fail
      refine (rA _).mono ?_
      rintro e w9 ⟨rfl, rfl⟩
      go_wp2_with fail
      refine (rB _).mono ?_
      rintro e w9 ⟨rfl, rfl⟩
      go_wp2_with fail
      go_ret
      exact ⟨rfl, hb1⟩
    · exact OrdD_in a b (by omega) (by omega) (by omega) (by omega) w hw hp
end Go.Proofs.YthbifpmjkaonnaaDoor
