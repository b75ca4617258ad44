/-
  due.Plain. Condition: the months' lengths are laid.
-/
import Derived.Test.YtkhjmbemjndcoaaGreatDoorDueM
import Derived.Test.YtkhjmbemjndcoaaGreatDoorDateH
namespace Go.Proofs.YtkhjmbemjndcoaaGreatDoor
open Go.RowKit

set_option maxRecDepth 20000 in
set_option maxHeartbeats 1000000 in
theorem Plain_arg (n k : Int) (h : n < 0 ∨ 3652058 < n ∨ k < 0 ∨ 480 < k) (w : World) :
    Calls Tryz.prog 8 #[.int .i32 n, .int .i64 k] w fun e w' => e = .returned (.tuple #[.int .i32 0, .iface 35 (.int .i64 1)]) ∧ Below w.heap.size w w' := by
  by_cases k0 : k < 0
  · clear h
    go_enter Tryz.func8, Tryz.ntmps8
    go_wp2_with fail
    go_ret2
    exact ⟨rfl, Below.refl _ _⟩
  by_cases k1 : 480 < k
  · clear h
    go_enter Tryz.func8, Tryz.ntmps8
    go_wp2_with fail
    go_ret2
    exact ⟨rfl, Below.refl _ _⟩
  have hn : n < 0 ∨ 3652058 < n := by omega
  have hN := fun W => DCivil_no n hn W
  clear h hn
  go_enter Tryz.func8, Tryz.ntmps8
  go_wp2_with fail
  refine (hN _).mono ?_
  rintro e w1 ⟨rfl, hb1⟩
  clear hN
  go_wp2_with fail
  go_ret2
  exact ⟨rfl, hb1.alloc hb1.size _⟩

set_option maxRecDepth 20000 in
set_option maxHeartbeats 1000000 in
theorem Plain_over (n k : Int) (h0 : 0 ≤ n) (h1 : n ≤ 3652058) (k0 : 0 ≤ k) (k1 : k ≤ 480) (ht : 119988 ≤ pT n k) (w : World) (hw : Lens w) :
    Calls Tryz.prog 8 #[.int .i32 n, .int .i64 k] w fun e w' => e = .returned (.tuple #[.int .i32 0, .iface 35 (.int .i64 12)]) ∧ Below w.heap.size w w' := by
  have hA := fun W (hW : Lens W) => DCivil_any n W h0 h1 hW
  have hB := fun W (hW : Lens W) => Months_over (cY n) (cM n) (cD n) k (civ_right n h0 h1).1 (.inr ht) W hW
  have n0 : ¬ k < 0 := by omega
  have n1 : ¬ 480 < k := by omega
  generalize cY n = Y at hA hB
  generalize cM n = M at hA hB
  generalize cD n = D at hA hB
  have HW := Lib.hid hw
  clear hw ht
  go_enter Tryz.func8, Tryz.ntmps8
  go_wp2_with fail
  refine (hA _ HW.out).mono ?_
  rintro e w1 ⟨rfl, hb1⟩
  have HB1 := Lib.hid (hb1.alloc hb1.size (.cells #[.int .i64 Y, .int .i64 M, .int .i64 D] 48))
  clear hb1 hA
  go_wp2_with fail
  refine (hB _ (HW.out.below HB1.out)).mono ?_
  rintro e w2 ⟨rfl, hb2⟩
  have HB2 := Lib.hid (HB1.out.trans (hb2.mono HB1.out.size))
  clear hb2 hB
  go_wp2_with fail
  go_ret2
  exact ⟨rfl, HB2.out.alloc HB2.out.size _⟩

set_option maxRecDepth 20000 in
set_option maxHeartbeats 2000000 in
theorem Plain_ok (n k : Int) (h0 : 0 ≤ n) (h1 : n ≤ 3652058) (k0 : 0 ≤ k) (k1 : k ≤ 480) (ht : pT n k < 119988) (w : World) (hw : Lens w) :
    Calls Tryz.prog 8 #[.int .i32 n, .int .i64 k] w fun e w' => e = .returned (.tuple #[.int .i32 (plainD n k), .nilIface]) ∧ Below w.heap.size w w' := by
  have hA := fun W (hW : Lens W) => DCivil_any n W h0 h1 hW
  have hcr := (civ_right n h0 h1).1
  have hB := fun W (hW : Lens W) => Months_ok (cY n) (cM n) (cD n) k hcr (pT_lo h0 h1 k0) ht W hW
  have hC := fun W (hW : Lens W) => CLast_any (cY n) (cM n) (cD n) W hW
  have hD := fun W (hW : Lens W) => CNum_yes _ _ _ (pD_right h0 h1 k0 ht) W hW
  obtain ⟨q1, q2, q3, q4⟩ := mon_in (pT_lo h0 h1 k0) ht
  have n0 : ¬ k < 0 := by omega
  have n1 : ¬ 480 < k := by omega
  have hE := fun W (hW : Lens W) => Length_any (mY (pT n k)) (mM (pT n k)) W hW
  have hP : plainD n k = num (mY (pT n k)) (mM (pT n k)) (pD n k) := rfl
  rw [← hP] at hD
  have hl : lastB (cY n) (cM n) (cD n) = decide (cD n = mlen (cY n) (cM n)) := by
    unfold lastB
    rw [hcr, Bool.true_and]
    rfl
  have hm : mD (mon (cY n) (cM n) k) (cD n) = mD (pT n k) (cD n) := rfl
  have hm1 : mY (mon (cY n) (cM n) k) = mY (pT n k) := rfl
  have hm2 : mM (mon (cY n) (cM n) k) = mM (pT n k) := rfl
  rw [hl] at hC
  rw [hm, hm1, hm2] at hB
  clear hm hm1 hm2 hl hP hcr
  have hx : cD n = mlen (cY n) (cM n) → pD n k = mlen (mY (pT n k)) (mM (pT n k)) := plain_last
  have hy : ¬ cD n = mlen (cY n) (cM n) → pD n k = mD (pT n k) (cD n) := plain_mid
  generalize plainD n k = N at hD ⊢
  generalize mD (pT n k) (cD n) = D1 at hB hy
  generalize mlen (mY (pT n k)) (mM (pT n k)) = L1 at hE hx
  generalize mY (pT n k) = Y1 at *
  generalize mM (pT n k) = M1 at *
  generalize pD n k = D2 at *
  generalize mlen (cY n) (cM n) = L at *
  generalize cY n = Y at hA hB hC
  generalize cM n = M at hA hB hC
  generalize cD n = D at *
  have HW := Lib.hid hw
  clear hw ht
  by_cases hl : D = L
  · obtain rfl := hx hl
    rw [decide_eq_true hl] at hC
    clear hx hy hl
    go_enter Tryz.func8, Tryz.ntmps8
    go_wp2_with fail
    refine (hA _ HW.out).mono ?_
    rintro e w1 ⟨rfl, hb1⟩
    have hk1 := Blk.new w1 48 #[.int .i64 Y, .int .i64 M, .int .i64 D]
    have HB1 := Lib.hid (hb1.alloc hb1.size (.cells #[.int .i64 Y, .int .i64 M, .int .i64 D] 48))
    clear hb1 hA
    go_wp2_with fail
    refine (hB _ (HW.out.below HB1.out)).mono ?_
    rintro e w2 ⟨rfl, hb2⟩
    have HB2 := Lib.hid (HB1.out.trans (hb2.mono HB1.out.size))
    have hk2 := (hk1.below hb2 hk1.lt).alloc (.cells #[.int .i64 Y1, .int .i64 M1, .int .i64 D1] 48)
    have HB3 := Lib.hid (HB2.out.alloc HB2.out.size (.cells #[.int .i64 Y1, .int .i64 M1, .int .i64 D1] 48))
    have hj := Blk.new w2 48 #[.int .i64 Y1, .int .i64 M1, .int .i64 D1]
    have c0 := hk2.cell 0
    have c1 := hk2.cell 1
    have c2 := hk2.cell 2
    have z := hk2.lt
    simp at c0 c1 c2
    clear hb2 hB hk1 hk2
    go_wp2_with fail
    refine (hC _ (HW.out.below HB3.out)).mono ?_
    rintro e w3 ⟨rfl, hb3⟩
    have HB4 := Lib.hid (HB3.out.trans (hb3.mono HB3.out.size))
    have hj3 := hj.below hb3 hj.lt
    have g0 := hj3.cell 0
    have g1 := hj3.cell 1
    have g2 := hj3.cell 2
    have f2 := hj3.frozen 2
    simp at g0 g1 g2
    have HJ := Lib.hid hj3
    clear hb3 hC c0 c1 c2 hj hj3
    go_wp2_with fail
    refine (hE _ (HW.out.below HB4.out)).mono ?_
    rintro e w4 ⟨rfl, rfl⟩
    have hj5 := HJ.out.set_ 2 (.int .i64 D2)
    have HB5 := Lib.hid (HB4.out.setCell (p := ⟨w2.heap.size, 2, none⟩) HB2.out.size (.int .i64 D2))
    obtain ⟨w5, hw5⟩ : ∃ W, w3.setCell ⟨w2.heap.size, 2, none⟩ (.int .i64 D2) = W := ⟨_, rfl⟩
    rw [hw5] at hj5 HB5
    have HW5 := Lib.hid hw5
    have k0 := hj5.cell 0
    have k1 := hj5.cell 1
    have k2 := hj5.cell 2
    simp at k0 k1 k2
    clear hw5 hj5 hE
    go_wp2_with fail
    rw [HW5.out]
    go_wp2_with fail
    refine (hD _ (HW.out.below HB5.out)).mono ?_
    rintro e w4 ⟨rfl, hb4⟩
    go_wp2_with fail
    go_ret2
    exact ⟨rfl, HB5.out.trans (hb4.mono HB5.out.size)⟩
  · have e := hy hl
    subst e
    rw [decide_eq_false hl] at hC
    clear hx hy hl
    go_enter Tryz.func8, Tryz.ntmps8
    go_wp2_with fail
    refine (hA _ HW.out).mono ?_
    rintro e w1 ⟨rfl, hb1⟩
    have hk1 := Blk.new w1 48 #[.int .i64 Y, .int .i64 M, .int .i64 D]
    have HB1 := Lib.hid (hb1.alloc hb1.size (.cells #[.int .i64 Y, .int .i64 M, .int .i64 D] 48))
    clear hb1 hA
    go_wp2_with fail
    refine (hB _ (HW.out.below HB1.out)).mono ?_
    rintro e w2 ⟨rfl, hb2⟩
    have HB2 := Lib.hid (HB1.out.trans (hb2.mono HB1.out.size))
    have hk2 := (hk1.below hb2 hk1.lt).alloc (.cells #[.int .i64 Y1, .int .i64 M1, .int .i64 D2] 48)
    have HB3 := Lib.hid (HB2.out.alloc HB2.out.size (.cells #[.int .i64 Y1, .int .i64 M1, .int .i64 D2] 48))
    have hj := Blk.new w2 48 #[.int .i64 Y1, .int .i64 M1, .int .i64 D2]
    have c0 := hk2.cell 0
    have c1 := hk2.cell 1
    have c2 := hk2.cell 2
    have z := hk2.lt
    simp at c0 c1 c2
    clear hb2 hB hk1 hk2
    go_wp2_with fail
    refine (hC _ (HW.out.below HB3.out)).mono ?_
    rintro e w3 ⟨rfl, hb3⟩
    have HB4 := Lib.hid (HB3.out.trans (hb3.mono HB3.out.size))
    have hj3 := hj.below hb3 hj.lt
    have g0 := hj3.cell 0
    have g1 := hj3.cell 1
    have g2 := hj3.cell 2
    simp at g0 g1 g2
    clear hb3 hC c0 c1 c2 hj hj3
    go_wp2_with fail
    refine (hD _ (HW.out.below HB4.out)).mono ?_
    rintro e w4 ⟨rfl, hb4⟩
    go_wp2_with fail
    go_ret2
    exact ⟨rfl, HB4.out.trans (hb4.mono HB4.out.size)⟩
end Go.Proofs.YtkhjmbemjndcoaaGreatDoor
