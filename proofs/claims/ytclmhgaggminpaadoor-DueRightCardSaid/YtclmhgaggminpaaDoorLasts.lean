/-
  DueLasts: the walk. Conditions: the months' lengths and strconv's powers of ten are laid.
-/
import Derived.Test.YtclmhgaggminpaaDoorDueA
import Derived.Test.YtclmhgaggminpaaDoorTextB
namespace Go.Proofs.YtclmhgaggminpaaDoor
open Go.RowKit

theorem text0228 : dayText 738578 = ⟨#[50, 48, 50, 51, 45, 48, 50, 45, 50, 56]⟩ := by kernel_rfl
theorem text0331 : dayText 738609 = ⟨#[50, 48, 50, 51, 45, 48, 51, 45, 51, 49]⟩ := by kernel_rfl
theorem plain0331 : plainD 738578 1 = 738609 := by kernel_rfl
theorem pT0331 : pT 738578 1 = 24266 := by kernel_rfl

set_option maxRecDepth 20000 in
set_option maxHeartbeats 1000000 in
theorem awake7 (w : World) (hw : Lens w) (hp : Pows w) : Calls Tryd.prog 7 #[] w fun e w' => e = .returned (.bool true) ∧ Below w.heap.size w w' := by
  have hR := Read_text 738578 (by decide) (by decide) w hw hp
  rw [text0228] at hR
  have hD := fun W (hW : Lens W) => Plain_ok 738578 1 (by decide) (by decide) (by decide) (by decide) (by rw [pT0331]; decide) W hW
  rw [plain0331] at hD
  have hT := fun W (hW : Lens W) (hP : Pows W) => DText_any 738609 (by decide) (by decide) W hW hP
  rw [text0331] at hT
  have HW := Lib.hid hw
  have HP := Lib.hid hp
  clear hw hp
  go_enter Tryd.func7, Tryd.ntmps7
  go_wp2_with fail
  refine hR.mono ?_
  rintro e w1 ⟨rfl, hb1⟩
  go_wp2_with fail
  refine (hD _ (HW.out.below hb1)).mono ?_
  rintro e w2 ⟨rfl, hb2⟩
  have hb2' := hb1.trans (hb2.mono hb1.size)
  clear hb1 hb2
  go_wp2_with fail
  refine (hT _ (HW.out.below hb2') (HP.out.below hb2')).mono ?_
  rintro e w3 ⟨rfl, hb3⟩
  go_wp2_with fail
  go_ret
  exact ⟨rfl, hb2'.trans (hb3.mono hb2'.size)⟩

set_option maxRecDepth 20000 in
set_option maxHeartbeats 1000000 in
theorem Lasts_err (n : Int) (k : Nat) (hk : k < 65536) (h : n < 0 ∨ 3652058 < n) (w : World) (hw : Lens w) (hp : Pows w) :
    Calls Tryd.prog 5 #[.int .i32 n, .int .u16 (k : Int)] w fun e w' => e = .returned (.bool true) ∧ Below w.heap.size w w' := by
  obtain ⟨K, hK⟩ : ∃ K : Nat, k % 481 = K := ⟨_, rfl⟩
  have hK1 : K ≤ 480 := by omega
  have hK2 : (k : Int) % 481 = (K : Int) := by omega
  have hA := fun W => Plain_arg n K (by omega) W
  have hB := fun W => DCivil_no n h W
  have HW := Lib.hid hw
  have HP := Lib.hid hp
  clear hw hp hK h
  go_enter Tryd.func5, Tryd.ntmps5
  go_wp2_with fail
  refine (awake7 _ HW.out HP.out).mono ?_
  rintro e w1 ⟨rfl, hb1⟩
  have HB1 := Lib.hid hb1
  clear hb1
  go_wp2_with fail
  refine (hA _).mono ?_
  rintro e w2 ⟨rfl, hb2⟩
  have HB2 := Lib.hid (HB1.out.trans (hb2.mono HB1.out.size))
  clear hb2
  go_wp2_with fail
  refine (hB _).mono ?_
  rintro e w3 ⟨rfl, hb3⟩
  have HB3 := Lib.hid (HB2.out.trans (hb3.mono HB2.out.size))
  clear hb3
  go_wp2_with fail
  go_ret
  exact ⟨rfl, HB3.out.alloc HB3.out.size _⟩

set_option maxRecDepth 20000 in
set_option maxHeartbeats 1000000 in
theorem Lasts_over (n : Int) (k : Nat) (hk : k < 65536) (h0 : 0 ≤ n) (h1 : n ≤ 3652058) (ht : 119988 ≤ pT n ((k % 481 : Nat) : Int)) (w : World) (hw : Lens w) (hp : Pows w) :
    Calls Tryd.prog 5 #[.int .i32 n, .int .u16 (k : Int)] w fun e w' => e = .returned (.bool true) ∧ Below w.heap.size w w' := by
  obtain ⟨K, hK⟩ : ∃ K : Nat, k % 481 = K := ⟨_, rfl⟩
  have hK1 : K ≤ 480 := by omega
  have hK2 : (k : Int) % 481 = (K : Int) := by omega
  rw [hK] at ht
  have hA := fun W (hW : Lens W) => Plain_over n K h0 h1 (by omega) (by omega) ht W hW
  have hB := fun W (hW : Lens W) => DCivil_any n W h0 h1 hW
  have HW := Lib.hid hw
  have HP := Lib.hid hp
  clear hw hp hK ht
  generalize cY n = Y at hB
  generalize cM n = M at hB
  generalize cD n = D at hB
  go_enter Tryd.func5, Tryd.ntmps5
  go_wp2_with fail
  refine (awake7 _ HW.out HP.out).mono ?_
  rintro e w1 ⟨rfl, hb1⟩
  have HB1 := Lib.hid hb1
  clear hb1
  go_wp2_with fail
  refine (hA _ (HW.out.below HB1.out)).mono ?_
  rintro e w2 ⟨rfl, hb2⟩
  have HB2 := Lib.hid (HB1.out.trans (hb2.mono HB1.out.size))
  clear hb2
  go_wp2_with fail
  refine (hB _ (HW.out.below HB2.out)).mono ?_
  rintro e w3 ⟨rfl, hb3⟩
  have HB3 := Lib.hid (HB2.out.trans (hb3.mono HB2.out.size))
  clear hb3
  go_wp2_with fail
  go_ret
  exact ⟨rfl, HB3.out.alloc HB3.out.size _⟩

set_option maxRecDepth 20000 in
set_option maxHeartbeats 2000000 in
theorem Lasts_ok (n : Int) (k : Nat) (hk : k < 65536) (h0 : 0 ≤ n) (h1 : n ≤ 3652058) (ht : pT n ((k % 481 : Nat) : Int) < 119988) (w : World) (hw : Lens w) (hp : Pows w) :
    Calls Tryd.prog 5 #[.int .i32 n, .int .u16 (k : Int)] w fun e w' => e = .returned (.bool true) ∧ Below w.heap.size w w' := by
  obtain ⟨K, hK⟩ : ∃ K : Nat, k % 481 = K := ⟨_, rfl⟩
  have hK1 : K ≤ 480 := by omega
  have hK2 : (k : Int) % 481 = (K : Int) := by omega
  rw [hK] at ht
  have k0 : (0 : Int) ≤ (K : Int) := by omega
  obtain ⟨p0, p1, e1, e2, e3⟩ := plain_in h0 h1 k0 ht
  have hr1 := pD_right h0 h1 k0 ht
  have hr0 := (civ_right n h0 h1).1
  have hm := mlen_mon (pT_lo h0 h1 k0) ht
  have hA := fun W (hW : Lens W) => Plain_ok n K h0 h1 (by omega) (by omega) ht W hW
  have hB := fun W (hW : Lens W) => DCivil_any n W h0 h1 hW
  have hC := fun W (hW : Lens W) => DCivil_any (plainD n K) W p0 p1 hW
  rw [e1, e2, e3] at hC
  have hD := fun W (hW : Lens W) => CLast_any (cY n) (cM n) (cD n) W hW
  have hE := fun W (hW : Lens W) => CLast_any (mY (pT n K)) (mM (pT n K)) (pD n K) W hW
  have q1 : lastB (cY n) (cM n) (cD n) = decide (cD n = mlen (cY n) (cM n)) := by
    unfold lastB
    rw [hr0, Bool.true_and]
    rfl
  have q2 : lastB (mY (pT n K)) (mM (pT n K)) (pD n K) = decide (pD n K = mlen (mY (pT n K)) (mM (pT n K))) := by
    unfold lastB
    rw [hr1, Bool.true_and]
    rfl
  rw [q1] at hD
  rw [q2] at hE
  obtain ⟨_, _, _, _, d1, d2, d3⟩ := civ_in n h0 h1
  have hcase : (cD n = mlen (cY n) (cM n) ∧ pD n K = mlen (mY (pT n K)) (mM (pT n K))) ∨ (¬ cD n = mlen (cY n) (cM n) ∧ cD n ≤ 28 ∧ pD n K = cD n) ∨ (¬ cD n = mlen (cY n) (cM n) ∧ 28 < cD n ∧ pD n K = cD n) ∨
      (¬ cD n = mlen (cY n) (cM n) ∧ 28 < cD n ∧ pD n K < cD n ∧ pD n K = mlen (mY (pT n K)) (mM (pT n K))) := by
    by_cases h : cD n = mlen (cY n) (cM n)
    · exact .inl ⟨h, plain_last h⟩
    · have := plain_mid (k := K) h
      omega
  have hp1 : 1 ≤ pD n K ∧ pD n K ≤ 31 := by omega
  generalize plainD n K = N at hA hC
  generalize mlen (mY (pT n K)) (mM (pT n K)) = L1 at *
  generalize mlen (cY n) (cM n) = L at *
  generalize mY (pT n K) = Y1 at hC hE
  generalize mM (pT n K) = M1 at hC hE
  generalize pD n K = D2 at *
  generalize cY n = Y at hB hD
  generalize cM n = M at hB hD
  generalize cD n = D at *
  have HW := Lib.hid hw
  have HP := Lib.hid hp
  clear hw hp hK ht hr1 hr0 q1 q2 e1 e2 e3 hm
  rcases hcase with ⟨ha, hb⟩ | ⟨ha, hb, hc⟩ | ⟨ha, hb, hc⟩ | ⟨ha, hb, hc, hd⟩
  · rw [decide_eq_true ha] at hD
    rw [decide_eq_true hb] at hE
    clear ha hb
    go_enter Tryd.func5, Tryd.ntmps5
    go_wp2_with fail
    refine (awake7 _ HW.out HP.out).mono ?_
    rintro e w1 ⟨rfl, hb1⟩
    have HB1 := Lib.hid hb1
    clear hb1
    go_wp2_with fail
    refine (hA _ (HW.out.below HB1.out)).mono ?_
    rintro e w2 ⟨rfl, hb2⟩
    have HB2 := Lib.hid (HB1.out.trans (hb2.mono HB1.out.size))
    clear hb2
    go_wp2_with fail
    refine (hB _ (HW.out.below HB2.out)).mono ?_
    rintro e w3 ⟨rfl, hb3⟩
    have hk3 := Blk.new w3 39 #[.int .i64 Y, .int .i64 M, .int .i64 D]
    have hb3' := HB2.out.trans (hb3.mono HB2.out.size)
    have HB3 := Lib.hid (hb3'.alloc hb3'.size (.cells #[.int .i64 Y, .int .i64 M, .int .i64 D] 39))
    clear hb3 hb3'
    go_wp2_with fail
    refine (hC _ (HW.out.below HB3.out)).mono ?_
    rintro e w4 ⟨rfl, hb4⟩
    have hk4 := (hk3.below hb4 hk3.lt).alloc (.cells #[.int .i64 Y1, .int .i64 M1, .int .i64 D2] 39)
    have hb4' := HB3.out.trans (hb4.mono HB3.out.size)
    have HB4 := Lib.hid (hb4'.alloc hb4'.size (.cells #[.int .i64 Y1, .int .i64 M1, .int .i64 D2] 39))
    have hj4 := Blk.new w4 39 #[.int .i64 Y1, .int .i64 M1, .int .i64 D2]
    have c0 := hk4.cell 0
    have c1 := hk4.cell 1
    have c2 := hk4.cell 2
    simp at c0 c1 c2
    clear hb4 hb4' hk3
    go_wp2_with fail
    refine (hD _ (HW.out.below HB4.out)).mono ?_
    rintro e w5 ⟨rfl, hb5⟩
    have hk5 := hk4.below hb5 hk4.lt
    have hj5 := hj4.below hb5 hj4.lt
    have HB5 := Lib.hid (HB4.out.trans (hb5.mono HB4.out.size))
    clear hb5 hj4 hk4 c0 c1 c2
    have c2 := hk5.cell 2
    have g0 := hj5.cell 0
    have g1 := hj5.cell 1
    have g2 := hj5.cell 2
    simp at g0 g1 g2 c2
    clear hj5 hk5
    go_wp2_with fail
    refine (hE _ (HW.out.below HB5.out)).mono ?_
    rintro e w6 ⟨rfl, hb6⟩
    have HB6 := Lib.hid (HB5.out.trans (hb6.mono HB5.out.size))
    clear hb6
    go_wp2_with fail
    go_ret
    exact ⟨rfl, HB6.out⟩
  · rw [decide_eq_false ha] at hD
    subst hc
    clear ha
    go_enter Tryd.func5, Tryd.ntmps5
    go_wp2_with fail
    refine (awake7 _ HW.out HP.out).mono ?_
    rintro e w1 ⟨rfl, hb1⟩
    have HB1 := Lib.hid hb1
    clear hb1
    go_wp2_with fail
    refine (hA _ (HW.out.below HB1.out)).mono ?_
    rintro e w2 ⟨rfl, hb2⟩
    have HB2 := Lib.hid (HB1.out.trans (hb2.mono HB1.out.size))
    clear hb2
    go_wp2_with fail
    refine (hB _ (HW.out.below HB2.out)).mono ?_
    rintro e w3 ⟨rfl, hb3⟩
    have hk3 := Blk.new w3 39 #[.int .i64 Y, .int .i64 M, .int .i64 D2]
    have hb3' := HB2.out.trans (hb3.mono HB2.out.size)
    have HB3 := Lib.hid (hb3'.alloc hb3'.size (.cells #[.int .i64 Y, .int .i64 M, .int .i64 D2] 39))
    clear hb3 hb3'
    go_wp2_with fail
    refine (hC _ (HW.out.below HB3.out)).mono ?_
    rintro e w4 ⟨rfl, hb4⟩
    have hk4 := (hk3.below hb4 hk3.lt).alloc (.cells #[.int .i64 Y1, .int .i64 M1, .int .i64 D2] 39)
    have hb4' := HB3.out.trans (hb4.mono HB3.out.size)
    have HB4 := Lib.hid (hb4'.alloc hb4'.size (.cells #[.int .i64 Y1, .int .i64 M1, .int .i64 D2] 39))
    have hj4 := Blk.new w4 39 #[.int .i64 Y1, .int .i64 M1, .int .i64 D2]
    have c0 := hk4.cell 0
    have c1 := hk4.cell 1
    have c2 := hk4.cell 2
    simp at c0 c1 c2
    clear hb4 hb4' hk3
    go_wp2_with fail
    refine (hD _ (HW.out.below HB4.out)).mono ?_
    rintro e w5 ⟨rfl, hb5⟩
    have hk5 := hk4.below hb5 hk4.lt
    have hj5 := hj4.below hb5 hj4.lt
    have HB5 := Lib.hid (HB4.out.trans (hb5.mono HB4.out.size))
    clear hb5 hj4 hk4 c0 c1 c2
    have c2 := hk5.cell 2
    have g0 := hj5.cell 0
    have g1 := hj5.cell 1
    have g2 := hj5.cell 2
    simp at g0 g1 g2 c2
    clear hj5 hk5
    go_wp2_with fail
    go_ret
    exact ⟨rfl, HB5.out⟩
  · rw [decide_eq_false ha] at hD
    subst hc
    clear ha
    have hb' : ¬ D2 ≤ 28 := by omega
    go_enter Tryd.func5, Tryd.ntmps5
    go_wp2_with fail
    refine (awake7 _ HW.out HP.out).mono ?_
    rintro e w1 ⟨rfl, hb1⟩
    have HB1 := Lib.hid hb1
    clear hb1
    go_wp2_with fail
    refine (hA _ (HW.out.below HB1.out)).mono ?_
    rintro e w2 ⟨rfl, hb2⟩
    have HB2 := Lib.hid (HB1.out.trans (hb2.mono HB1.out.size))
    clear hb2
    go_wp2_with fail
    refine (hB _ (HW.out.below HB2.out)).mono ?_
    rintro e w3 ⟨rfl, hb3⟩
    have hk3 := Blk.new w3 39 #[.int .i64 Y, .int .i64 M, .int .i64 D2]
    have hb3' := HB2.out.trans (hb3.mono HB2.out.size)
    have HB3 := Lib.hid (hb3'.alloc hb3'.size (.cells #[.int .i64 Y, .int .i64 M, .int .i64 D2] 39))
    clear hb3 hb3'
    go_wp2_with fail
    refine (hC _ (HW.out.below HB3.out)).mono ?_
    rintro e w4 ⟨rfl, hb4⟩
    have hk4 := (hk3.below hb4 hk3.lt).alloc (.cells #[.int .i64 Y1, .int .i64 M1, .int .i64 D2] 39)
    have hb4' := HB3.out.trans (hb4.mono HB3.out.size)
    have HB4 := Lib.hid (hb4'.alloc hb4'.size (.cells #[.int .i64 Y1, .int .i64 M1, .int .i64 D2] 39))
    have hj4 := Blk.new w4 39 #[.int .i64 Y1, .int .i64 M1, .int .i64 D2]
    have c0 := hk4.cell 0
    have c1 := hk4.cell 1
    have c2 := hk4.cell 2
    simp at c0 c1 c2
    clear hb4 hb4' hk3
    go_wp2_with fail
    refine (hD _ (HW.out.below HB4.out)).mono ?_
    rintro e w5 ⟨rfl, hb5⟩
    have hk5 := hk4.below hb5 hk4.lt
    have hj5 := hj4.below hb5 hj4.lt
    have HB5 := Lib.hid (HB4.out.trans (hb5.mono HB4.out.size))
    clear hb5 hj4 hk4 c0 c1 c2
    have c2 := hk5.cell 2
    have g0 := hj5.cell 0
    have g1 := hj5.cell 1
    have g2 := hj5.cell 2
    simp at g0 g1 g2 c2
    clear hj5 hk5
    go_wp2_with fail
    go_ret
    exact ⟨rfl, HB5.out⟩
  · rw [decide_eq_false ha] at hD
    rw [decide_eq_true hd] at hE
    clear ha hd
    have hb' : ¬ D ≤ 28 := by omega
    have hne : (D2 == D) = false := by rw [beq_eq_false_iff_ne]; omega
    have hne2 : ¬ D2 = D := by omega
    go_enter Tryd.func5, Tryd.ntmps5
    go_wp2_with fail
    refine (awake7 _ HW.out HP.out).mono ?_
    rintro e w1 ⟨rfl, hb1⟩
    have HB1 := Lib.hid hb1
    clear hb1
    go_wp2_with fail
    refine (hA _ (HW.out.below HB1.out)).mono ?_
    rintro e w2 ⟨rfl, hb2⟩
    have HB2 := Lib.hid (HB1.out.trans (hb2.mono HB1.out.size))
    clear hb2
    go_wp2_with fail
    refine (hB _ (HW.out.below HB2.out)).mono ?_
    rintro e w3 ⟨rfl, hb3⟩
    have hk3 := Blk.new w3 39 #[.int .i64 Y, .int .i64 M, .int .i64 D]
    have hb3' := HB2.out.trans (hb3.mono HB2.out.size)
    have HB3 := Lib.hid (hb3'.alloc hb3'.size (.cells #[.int .i64 Y, .int .i64 M, .int .i64 D] 39))
    clear hb3 hb3'
    go_wp2_with fail
    refine (hC _ (HW.out.below HB3.out)).mono ?_
    rintro e w4 ⟨rfl, hb4⟩
    have hk4 := (hk3.below hb4 hk3.lt).alloc (.cells #[.int .i64 Y1, .int .i64 M1, .int .i64 D2] 39)
    have hb4' := HB3.out.trans (hb4.mono HB3.out.size)
    have HB4 := Lib.hid (hb4'.alloc hb4'.size (.cells #[.int .i64 Y1, .int .i64 M1, .int .i64 D2] 39))
    have hj4 := Blk.new w4 39 #[.int .i64 Y1, .int .i64 M1, .int .i64 D2]
    have c0 := hk4.cell 0
    have c1 := hk4.cell 1
    have c2 := hk4.cell 2
    simp at c0 c1 c2
    clear hb4 hb4' hk3
    go_wp2_with fail
    refine (hD _ (HW.out.below HB4.out)).mono ?_
    rintro e w5 ⟨rfl, hb5⟩
    have hk5 := hk4.below hb5 hk4.lt
    have hj5 := hj4.below hb5 hj4.lt
    have HB5 := Lib.hid (HB4.out.trans (hb5.mono HB4.out.size))
    clear hb5 hj4 hk4 c0 c1 c2
    have c2 := hk5.cell 2
    have g0 := hj5.cell 0
    have g1 := hj5.cell 1
    have g2 := hj5.cell 2
    simp at g0 g1 g2 c2
    clear hj5 hk5
    go_wp2_with fail
    have hlt2 := block_lt_of_cell c2
    have hlt3 := block_lt_of_cell g2
    refine (hE _ (HW.out.below HB5.out)).mono ?_
    rintro e w6 ⟨rfl, hb6⟩
    have HB6 := Lib.hid (HB5.out.trans (hb6.mono HB5.out.size))
    have x2 := (hb6.cell (p := ⟨w3.heap.size, 2, none⟩) hlt2).trans c2
    have y2 := (hb6.cell (p := ⟨w4.heap.size, 2, none⟩) hlt3).trans g2
    clear hb6 hlt2 hlt3 c2 g0 g1 g2
    go_wp2_with fail
    go_ret
    exact ⟨rfl, HB6.out⟩

theorem Lasts_any (n : Int) (k : Nat) (hk : k < 65536) (w : World) (hw : Lens w) (hp : Pows w) :
    Calls Tryd.prog 5 #[.int .i32 n, .int .u16 (k : Int)] w fun e w' => e = .returned (.bool true) ∧ Below w.heap.size w w' := by
  by_cases h : n < 0 ∨ 3652058 < n
  · exact Lasts_err n k hk h w hw hp
  · by_cases ht : pT n ((k % 481 : Nat) : Int) < 119988
    · exact Lasts_ok n k hk (by omega) (by omega) ht w hw hp
    · exact Lasts_over n k hk (by omega) (by omega) (by omega) w hw hp
end Go.Proofs.YtclmhgaggminpaaDoor
