/-
  CoinReckons' walk, way by way. Conditions: the numbers' kinds; errors.errorType is laid.
-/
import Derived.Test.YthbifpmjkaonnaaGreatDoorCoinA
import Derived.Test.YthbifpmjkaonnaaGreatDoorCodeC
namespace Go.Proofs.YthbifpmjkaonnaaGreatDoor
open Go.RowKit Go.Lib

set_option maxHeartbeats 4000000 in
set_option maxRecDepth 20000 in
theorem Reck_111 (a b : Int) (ha : Fits a) (hb : Fits b) (hA :  Fits (a + b)) (hS :  Fits (a - b)) (hN :  Fits (0 - a)) (w : World) (cW : Calls Tryz.prog 5 #[] w fun e w' => e = .returned (.bool true) ∧ Below w.heap.size w w') (hg : Laid w) :
    Calls Tryz.prog 3 #[.int .i64 a, .int .i64 b] w fun e w' => e = .returned (.bool true) ∧ Below w.heap.size w w' := by
  have cA := fun W => CoinAdd_any a b ha hb W
  have cS := fun W => CoinSub_any a b ha hb W
  have cN := fun W => CoinNeg_any a ha W
  have rA := fun W => RefCAdd_any a b ha hb W
  have rS := fun W => RefCSub_any a b ha hb W
  have cL := fun W => Least_any a b W
  have cT := fun W => Right_any a W
  simp only [hA, hS, hN, if_true, if_false] at cA cS cN rA rS
  have hz : a ≠ -9223372036854775808 := by unfold Fits at *; omega
  have hz1 : (a == -9223372036854775808) = false := by rw [beq_eq_false_iff_ne]; exact hz
  have hz2 : (a != -9223372036854775808) = true := by rw [bne_iff_ne]; exact hz
  have hw : wrap64 (-a) = -a := by unfold Fits at hN; unfold wrap64; omega
  have ha1 : -9223372036854775808 < a := by unfold Fits at *; omega
  have HG := Lib.hid hg
  clear hA hS hN ha hb hg
  go_enter Tryz.func3, Tryz.ntmps3
  go_wp2_with fail
  refine cW.mono ?_
  rintro e w1 ⟨rfl, hb1⟩
  have HG1 := Lib.hid (HG.out.below hb1)
  clear cW
  go_wp2_with fail
  refine (cA _).mono ?_
  rintro e w2 ⟨rfl, rfl⟩
  go_wp2_with fail
  refine (cS _).mono ?_
  rintro e w2 ⟨rfl, rfl⟩
  go_wp2_with fail
  refine (cN _).mono ?_
  rintro e w2 ⟨rfl, rfl⟩
  go_wp2_with fail
  refine (rA _).mono ?_
  rintro e w2 ⟨rfl, rfl⟩
  go_wp2_with fail
  refine (rS _).mono ?_
  rintro e w2 ⟨rfl, rfl⟩
  have HBB := Lib.hid (hb1)
  clear hb1
  go_wp2_with fail
  refine (cL _).mono ?_
  rintro e w9 ⟨rfl, rfl⟩
  go_wp2_with fail
  all_goals
    refine (cT _).mono ?_
    rintro e w9 ⟨rfl, rfl⟩
    go_wp2_with fail
  all_goals
    go_ret
    refine ⟨?_, HBB.out⟩
    first
      | rfl
      | (simp; done)
      | (simp; omega)

set_option maxHeartbeats 4000000 in
set_option maxRecDepth 20000 in
theorem Reck_101 (a b : Int) (ha : Fits a) (hb : Fits b) (hA :  Fits (a + b)) (hS : ¬ Fits (a - b)) (hN :  Fits (0 - a)) (w : World) (cW : Calls Tryz.prog 5 #[] w fun e w' => e = .returned (.bool true) ∧ Below w.heap.size w w') (hg : Laid w) :
    Calls Tryz.prog 3 #[.int .i64 a, .int .i64 b] w fun e w' => e = .returned (.bool true) ∧ Below w.heap.size w w' := by
  have cA := fun W => CoinAdd_any a b ha hb W
  have cS := fun W => CoinSub_any a b ha hb W
  have cN := fun W => CoinNeg_any a ha W
  have rA := fun W => RefCAdd_any a b ha hb W
  have rS := fun W => RefCSub_any a b ha hb W
  have cL := fun W => Least_any a b W
  have cT := fun W => Right_any a W
  simp only [hA, hS, hN, if_true, if_false] at cA cS cN rA rS
  have hz : a ≠ -9223372036854775808 := by unfold Fits at *; omega
  have hz1 : (a == -9223372036854775808) = false := by rw [beq_eq_false_iff_ne]; exact hz
  have hz2 : (a != -9223372036854775808) = true := by rw [bne_iff_ne]; exact hz
  have hw : wrap64 (-a) = -a := by unfold Fits at hN; unfold wrap64; omega
  have ha1 : -9223372036854775808 < a := by unfold Fits at *; omega
  have HG := Lib.hid hg
  clear hA hS hN ha hb hg
  go_enter Tryz.func3, Tryz.ntmps3
  go_wp2_with fail
  refine cW.mono ?_
  rintro e w1 ⟨rfl, hb1⟩
  have HG1 := Lib.hid (HG.out.below hb1)
  clear cW
  go_wp2_with fail
  refine (cA _).mono ?_
  rintro e w2 ⟨rfl, rfl⟩
  go_wp2_with fail
  refine (cS _).mono ?_
  rintro e w2 ⟨rfl, rfl⟩
  go_wp2_with fail
  refine (cN _).mono ?_
  rintro e w2 ⟨rfl, rfl⟩
  go_wp2_with fail
  refine (rA _).mono ?_
  rintro e w2 ⟨rfl, rfl⟩
  go_wp2_with fail
  refine (rS _).mono ?_
  rintro e w2 ⟨rfl, rfl⟩
  go_wp2_with fail
  refine (Code_errno 12 _ HG1.out).mono ?_
  rintro e w2 ⟨rfl, hb2⟩
  have HG2 := Lib.hid (HG1.out.below hb2)
  have HBB := Lib.hid ((hb1).trans (hb2.mono (hb1).size))
  clear hb1 hb2
  go_wp2_with fail
  refine (cL _).mono ?_
  rintro e w9 ⟨rfl, rfl⟩
  go_wp2_with fail
  all_goals
    refine (cT _).mono ?_
    rintro e w9 ⟨rfl, rfl⟩
    go_wp2_with fail
  all_goals
    go_ret
    refine ⟨?_, HBB.out⟩
    first
      | rfl
      | (simp; done)
      | (simp; omega)

set_option maxHeartbeats 4000000 in
set_option maxRecDepth 20000 in
theorem Reck_011 (a b : Int) (ha : Fits a) (hb : Fits b) (hA : ¬ Fits (a + b)) (hS :  Fits (a - b)) (hN :  Fits (0 - a)) (w : World) (cW : Calls Tryz.prog 5 #[] w fun e w' => e = .returned (.bool true) ∧ Below w.heap.size w w') (hg : Laid w) :
    Calls Tryz.prog 3 #[.int .i64 a, .int .i64 b] w fun e w' => e = .returned (.bool true) ∧ Below w.heap.size w w' := by
  have cA := fun W => CoinAdd_any a b ha hb W
  have cS := fun W => CoinSub_any a b ha hb W
  have cN := fun W => CoinNeg_any a ha W
  have rA := fun W => RefCAdd_any a b ha hb W
  have rS := fun W => RefCSub_any a b ha hb W
  have cL := fun W => Least_any a b W
  have cT := fun W => Right_any a W
  simp only [hA, hS, hN, if_true, if_false] at cA cS cN rA rS
  have hz : a ≠ -9223372036854775808 := by unfold Fits at *; omega
  have hz1 : (a == -9223372036854775808) = false := by rw [beq_eq_false_iff_ne]; exact hz
  have hz2 : (a != -9223372036854775808) = true := by rw [bne_iff_ne]; exact hz
  have hw : wrap64 (-a) = -a := by unfold Fits at hN; unfold wrap64; omega
  have ha1 : -9223372036854775808 < a := by unfold Fits at *; omega
  have HG := Lib.hid hg
  clear hA hS hN ha hb hg
  go_enter Tryz.func3, Tryz.ntmps3
  go_wp2_with fail
  refine cW.mono ?_
  rintro e w1 ⟨rfl, hb1⟩
  have HG1 := Lib.hid (HG.out.below hb1)
  clear cW
  go_wp2_with fail
  refine (cA _).mono ?_
  rintro e w2 ⟨rfl, rfl⟩
  go_wp2_with fail
  refine (cS _).mono ?_
  rintro e w2 ⟨rfl, rfl⟩
  go_wp2_with fail
  refine (cN _).mono ?_
  rintro e w2 ⟨rfl, rfl⟩
  go_wp2_with fail
  refine (rA _).mono ?_
  rintro e w2 ⟨rfl, rfl⟩
  go_wp2_with fail
  refine (rS _).mono ?_
  rintro e w2 ⟨rfl, rfl⟩
  go_wp2_with fail
  refine (Code_errno 12 _ HG1.out).mono ?_
  rintro e w2 ⟨rfl, hb2⟩
  have HG2 := Lib.hid (HG1.out.below hb2)
  have HBB := Lib.hid ((hb1).trans (hb2.mono (hb1).size))
  clear hb1 hb2
  go_wp2_with fail
  refine (cL _).mono ?_
  rintro e w9 ⟨rfl, rfl⟩
  go_wp2_with fail
  all_goals
    refine (cT _).mono ?_
    rintro e w9 ⟨rfl, rfl⟩
    go_wp2_with fail
  all_goals
    go_ret
    refine ⟨?_, HBB.out⟩
    first
      | rfl
      | (simp; done)
      | (simp; omega)

set_option maxHeartbeats 4000000 in
set_option maxRecDepth 20000 in
theorem Reck_110 (a b : Int) (ha : Fits a) (hb : Fits b) (hA :  Fits (a + b)) (hS :  Fits (a - b)) (hN : ¬ Fits (0 - a)) (w : World) (cW : Calls Tryz.prog 5 #[] w fun e w' => e = .returned (.bool true) ∧ Below w.heap.size w w') (hg : Laid w) :
    Calls Tryz.prog 3 #[.int .i64 a, .int .i64 b] w fun e w' => e = .returned (.bool true) ∧ Below w.heap.size w w' := by
  have cA := fun W => CoinAdd_any a b ha hb W
  have cS := fun W => CoinSub_any a b ha hb W
  have cN := fun W => CoinNeg_any a ha W
  have rA := fun W => RefCAdd_any a b ha hb W
  have rS := fun W => RefCSub_any a b ha hb W
  have cL := fun W => Least_any a b W
  have cT := fun W => Right_any a W
  simp only [hA, hS, hN, if_true, if_false] at cA cS cN rA rS
  have hz : a = -9223372036854775808 := by unfold Fits at *; omega
  have ha1 : a ≤ -9223372036854775808 := by omega
  subst hz
  have HG := Lib.hid hg
  clear hA hS hN ha hb hg
  go_enter Tryz.func3, Tryz.ntmps3
  go_wp2_with fail
  refine cW.mono ?_
  rintro e w1 ⟨rfl, hb1⟩
  have HG1 := Lib.hid (HG.out.below hb1)
  clear cW
  go_wp2_with fail
  refine (cA _).mono ?_
  rintro e w2 ⟨rfl, rfl⟩
  go_wp2_with fail
  refine (cS _).mono ?_
  rintro e w2 ⟨rfl, rfl⟩
  go_wp2_with fail
  refine (cN _).mono ?_
  rintro e w2 ⟨rfl, rfl⟩
  go_wp2_with fail
  refine (rA _).mono ?_
  rintro e w2 ⟨rfl, rfl⟩
  go_wp2_with fail
  refine (rS _).mono ?_
  rintro e w2 ⟨rfl, rfl⟩
  go_wp2_with fail
  refine (Code_errno 12 _ HG1.out).mono ?_
  rintro e w2 ⟨rfl, hb2⟩
  have HG2 := Lib.hid (HG1.out.below hb2)
  have HBB := Lib.hid ((hb1).trans (hb2.mono (hb1).size))
  clear hb1 hb2
  go_wp2_with fail
  refine (cL _).mono ?_
  rintro e w9 ⟨rfl, rfl⟩
  go_wp2_with fail
  all_goals
    refine (cT _).mono ?_
    rintro e w9 ⟨rfl, rfl⟩
    go_wp2_with fail
  all_goals
    go_ret
    refine ⟨?_, HBB.out⟩
    first
      | rfl
      | (simp; done)
      | (simp; omega)

set_option maxHeartbeats 4000000 in
set_option maxRecDepth 20000 in
theorem Reck_100 (a b : Int) (ha : Fits a) (hb : Fits b) (hA :  Fits (a + b)) (hS : ¬ Fits (a - b)) (hN : ¬ Fits (0 - a)) (w : World) (cW : Calls Tryz.prog 5 #[] w fun e w' => e = .returned (.bool true) ∧ Below w.heap.size w w') (hg : Laid w) :
    Calls Tryz.prog 3 #[.int .i64 a, .int .i64 b] w fun e w' => e = .returned (.bool true) ∧ Below w.heap.size w w' := by
  have cA := fun W => CoinAdd_any a b ha hb W
  have cS := fun W => CoinSub_any a b ha hb W
  have cN := fun W => CoinNeg_any a ha W
  have rA := fun W => RefCAdd_any a b ha hb W
  have rS := fun W => RefCSub_any a b ha hb W
  have cL := fun W => Least_any a b W
  have cT := fun W => Right_any a W
  simp only [hA, hS, hN, if_true, if_false] at cA cS cN rA rS
  have hz : a = -9223372036854775808 := by unfold Fits at *; omega
  have ha1 : a ≤ -9223372036854775808 := by omega
  subst hz
  have HG := Lib.hid hg
  clear hA hS hN ha hb hg
  go_enter Tryz.func3, Tryz.ntmps3
  go_wp2_with fail
  refine cW.mono ?_
  rintro e w1 ⟨rfl, hb1⟩
  have HG1 := Lib.hid (HG.out.below hb1)
  clear cW
  go_wp2_with fail
  refine (cA _).mono ?_
  rintro e w2 ⟨rfl, rfl⟩
  go_wp2_with fail
  refine (cS _).mono ?_
  rintro e w2 ⟨rfl, rfl⟩
  go_wp2_with fail
  refine (cN _).mono ?_
  rintro e w2 ⟨rfl, rfl⟩
  go_wp2_with fail
  refine (rA _).mono ?_
  rintro e w2 ⟨rfl, rfl⟩
  go_wp2_with fail
  refine (rS _).mono ?_
  rintro e w2 ⟨rfl, rfl⟩
  go_wp2_with fail
  refine (Code_errno 12 _ HG1.out).mono ?_
  rintro e w2 ⟨rfl, hb2⟩
  have HG2 := Lib.hid (HG1.out.below hb2)
  go_wp2_with fail
  refine (Code_errno 12 _ HG2.out).mono ?_
  rintro e w3 ⟨rfl, hb3⟩
  have HG3 := Lib.hid (HG2.out.below hb3)
  have HBB := Lib.hid (((hb1).trans (hb2.mono (hb1).size)).trans (hb3.mono ((hb1).trans (hb2.mono (hb1).size)).size))
  clear hb1 hb2 hb3
  go_wp2_with fail
  refine (cL _).mono ?_
  rintro e w9 ⟨rfl, rfl⟩
  go_wp2_with fail
  all_goals
    refine (cT _).mono ?_
    rintro e w9 ⟨rfl, rfl⟩
    go_wp2_with fail
  all_goals
    go_ret
    refine ⟨?_, HBB.out⟩
    first
      | rfl
      | (simp; done)
      | (simp; omega)

set_option maxHeartbeats 4000000 in
set_option maxRecDepth 20000 in
theorem Reck_010 (a b : Int) (ha : Fits a) (hb : Fits b) (hA : ¬ Fits (a + b)) (hS :  Fits (a - b)) (hN : ¬ Fits (0 - a)) (w : World) (cW : Calls Tryz.prog 5 #[] w fun e w' => e = .returned (.bool true) ∧ Below w.heap.size w w') (hg : Laid w) :
    Calls Tryz.prog 3 #[.int .i64 a, .int .i64 b] w fun e w' => e = .returned (.bool true) ∧ Below w.heap.size w w' := by
  have cA := fun W => CoinAdd_any a b ha hb W
  have cS := fun W => CoinSub_any a b ha hb W
  have cN := fun W => CoinNeg_any a ha W
  have rA := fun W => RefCAdd_any a b ha hb W
  have rS := fun W => RefCSub_any a b ha hb W
  have cL := fun W => Least_any a b W
  have cT := fun W => Right_any a W
  simp only [hA, hS, hN, if_true, if_false] at cA cS cN rA rS
  have hz : a = -9223372036854775808 := by unfold Fits at *; omega
  have ha1 : a ≤ -9223372036854775808 := by omega
  subst hz
  have HG := Lib.hid hg
  clear hA hS hN ha hb hg
  go_enter Tryz.func3, Tryz.ntmps3
  go_wp2_with fail
  refine cW.mono ?_
  rintro e w1 ⟨rfl, hb1⟩
  have HG1 := Lib.hid (HG.out.below hb1)
  clear cW
  go_wp2_with fail
  refine (cA _).mono ?_
  rintro e w2 ⟨rfl, rfl⟩
  go_wp2_with fail
  refine (cS _).mono ?_
  rintro e w2 ⟨rfl, rfl⟩
  go_wp2_with fail
  refine (cN _).mono ?_
  rintro e w2 ⟨rfl, rfl⟩
  go_wp2_with fail
  refine (rA _).mono ?_
  rintro e w2 ⟨rfl, rfl⟩
  go_wp2_with fail
  refine (rS _).mono ?_
  rintro e w2 ⟨rfl, rfl⟩
  go_wp2_with fail
  refine (Code_errno 12 _ HG1.out).mono ?_
  rintro e w2 ⟨rfl, hb2⟩
  have HG2 := Lib.hid (HG1.out.below hb2)
  go_wp2_with fail
  refine (Code_errno 12 _ HG2.out).mono ?_
  rintro e w3 ⟨rfl, hb3⟩
  have HG3 := Lib.hid (HG2.out.below hb3)
  have HBB := Lib.hid (((hb1).trans (hb2.mono (hb1).size)).trans (hb3.mono ((hb1).trans (hb2.mono (hb1).size)).size))
  clear hb1 hb2 hb3
  go_wp2_with fail
  refine (cL _).mono ?_
  rintro e w9 ⟨rfl, rfl⟩
  go_wp2_with fail
  all_goals
    refine (cT _).mono ?_
    rintro e w9 ⟨rfl, rfl⟩
    go_wp2_with fail
  all_goals
    go_ret
    refine ⟨?_, HBB.out⟩
    first
      | rfl
      | (simp; done)
      | (simp; omega)

theorem CoinReckons_any (a b : Int) (ha : Fits a) (hb : Fits b) (w : World) (cW : Calls Tryz.prog 5 #[] w fun e w' => e = .returned (.bool true) ∧ Below w.heap.size w w') (hg : Laid w) :
    Calls Tryz.prog 3 #[.int .i64 a, .int .i64 b] w fun e w' => e = .returned (.bool true) ∧ Below w.heap.size w w' := by
  by_cases hA : Fits (a + b) <;> by_cases hS : Fits (a - b) <;> by_cases hN : Fits (0 - a)
  · exact Reck_111 a b ha hb hA hS hN w cW hg
  · exact Reck_110 a b ha hb hA hS hN w cW hg
  · exact Reck_101 a b ha hb hA hS hN w cW hg
  · exact Reck_100 a b ha hb hA hS hN w cW hg
  · exact Reck_011 a b ha hb hA hS hN w cW hg
  · exact Reck_010 a b ha hb hA hS hN w cW hg
  · exfalso
    unfold Fits at *
    omega
  · exfalso
    unfold Fits at *
    omega
end Go.Proofs.YthbifpmjkaonnaaGreatDoor
