/-
  CoinOrders: the walk. Conditions: the numbers' kinds; strconv's powers of ten are laid; the document's example holds.
-/
import Derived.Test.YtbfekonlgbolcacDoorCTxtM
import Derived.Test.YtbfekonlgbolcacDoorCoinA
namespace Go.Proofs.YtbfekonlgbolcacDoor
open Go.RowKit

set_option maxRecDepth 20000 in
set_option maxHeartbeats 4000000 in
theorem COrd_01 (a b : Int) (ha : Fits a) (hb : Fits b) (hf : Fits (a + b)) (hab : ¬ a = b) (w : World) (cW : Calls Tryd.prog 6 #[] w fun e w' => e = .returned (.bool true) ∧ Below w.heap.size w w') (hp : Pows w) :
    Calls Tryd.prog 5 #[.int .i64 a, .int .i64 b] w fun e w' => e = .returned (.bool true) ∧ Below w.heap.size w w' := by
  have hTA := fun W (hP : Pows W) => CText_any a ha W hP
  have hTB := fun W (hP : Pows W) => CText_any b hb W hP
  have hL1 := fun W => Least_any a b W
  have hL2 := fun W => Least_any b a W
  rw [Int.min_comm b a] at hL2
  obtain ⟨m, hm⟩ : ∃ m, min a b = m := ⟨_, rfl⟩
  rw [hm] at hL1 hL2
  have hA := fun W => CoinAdd_any a b ha hb W
  rw [if_pos hf] at hA
  have hS := fun W => CoinSub_any (a + b) b hf hb W
  rw [show a + b - b = a by omega, if_pos ha] at hS
  obtain ⟨s, hs⟩ : ∃ s, a + b = s := ⟨_, rfl⟩
  rw [hs] at hA hS
  have hne : ¬ textC a = textC b := fun h => hab (textC_inj h)
  obtain ⟨TA, hTA'⟩ : ∃ T, textC a = T := ⟨_, rfl⟩
  rw [hTA'] at hTA hne
  obtain ⟨TB, hTB'⟩ : ∃ T, textC b = T := ⟨_, rfl⟩
  rw [hTB'] at hTB hne
  have HP := Lib.hid hp
  clear ha hb hm hTA' hTB' hp hf hs
  have k1 : (a == b) = false := by rw [beq_eq_false_iff_ne]; exact hab
  have k3 : ¬ TA.toList = TB.toList := fun h => hne (by
    rw [ByteArray.toList_eq, ByteArray.toList_eq] at h
    exact ByteArray.ext (Array.toList_inj.1 h))
  have k2 : (TA.toList == TB.toList) = false := by rw [beq_eq_false_iff_ne]; exact k3
  go_enter Tryd.func5, Tryd.ntmps5
  go_wp2_with fail
  refine cW.mono ?_
  rintro e w1 ⟨rfl, hb1⟩
  have HB1 := Lib.hid hb1
  clear hb1 cW
  go_wp2_with fail
  refine (hA _).mono ?_
  rintro e w2 ⟨rfl, rfl⟩
  go_wp2_with fail
  refine (hS _).mono ?_
  rintro e w2 ⟨rfl, rfl⟩
  go_wp2_with fail
  refine (hTA _ (HP.out.below HB1.out)).mono ?_
  rintro e w3 ⟨rfl, hb3⟩
  have HB3 := Lib.hid (HB1.out.trans (hb3.mono HB1.out.size))
  clear hb3
  go_wp2_with fail
  refine (hTB _ (HP.out.below HB3.out)).mono ?_
  rintro e w4 ⟨rfl, hb4⟩
  have HB4 := Lib.hid (HB3.out.trans (hb4.mono HB3.out.size))
  clear hb4
  go_wp2_with fail
  refine (hL1 _).mono ?_
  rintro e w5 ⟨rfl, rfl⟩
  go_wp2_with fail
  refine (hL2 _).mono ?_
  rintro e w5 ⟨rfl, rfl⟩
  go_wp2_with fail
  go_ret
  exact ⟨by first | rfl | simp, HB4.out⟩
set_option maxRecDepth 20000 in
set_option maxHeartbeats 4000000 in
theorem COrd_00 (a b : Int) (ha : Fits a) (hb : Fits b) (hf : ¬ Fits (a + b)) (hab : ¬ a = b) (w : World) (cW : Calls Tryd.prog 6 #[] w fun e w' => e = .returned (.bool true) ∧ Below w.heap.size w w') (hp : Pows w) :
    Calls Tryd.prog 5 #[.int .i64 a, .int .i64 b] w fun e w' => e = .returned (.bool true) ∧ Below w.heap.size w w' := by
  have hTA := fun W (hP : Pows W) => CText_any a ha W hP
  have hTB := fun W (hP : Pows W) => CText_any b hb W hP
  have hL1 := fun W => Least_any a b W
  have hL2 := fun W => Least_any b a W
  rw [Int.min_comm b a] at hL2
  obtain ⟨m, hm⟩ : ∃ m, min a b = m := ⟨_, rfl⟩
  rw [hm] at hL1 hL2
  have hA := fun W => CoinAdd_any a b ha hb W
  rw [if_neg hf] at hA
  have hS0 := fun W => CoinSub_any 0 b (by unfold Fits; omega) hb W
  obtain ⟨d, f, hS⟩ : ∃ (d : Int) (f : Value), ∀ W, Calls Tryd.prog 14 #[.int .i64 0, .int .i64 b] W fun e w' => e = .returned (.tuple #[.int .i64 d, f]) ∧ w' = W := by
    by_cases h : Fits (0 - b)
    · rw [if_pos h] at hS0
      exact ⟨_, _, hS0⟩
    · rw [if_neg h] at hS0
      exact ⟨_, _, hS0⟩
  have hne : ¬ textC a = textC b := fun h => hab (textC_inj h)
  obtain ⟨TA, hTA'⟩ : ∃ T, textC a = T := ⟨_, rfl⟩
  rw [hTA'] at hTA hne
  obtain ⟨TB, hTB'⟩ : ∃ T, textC b = T := ⟨_, rfl⟩
  rw [hTB'] at hTB hne
  have HP := Lib.hid hp
  clear ha hb hm hTA' hTB' hp hf hS0
  have k1 : (a == b) = false := by rw [beq_eq_false_iff_ne]; exact hab
  have k3 : ¬ TA.toList = TB.toList := fun h => hne (by
    rw [ByteArray.toList_eq, ByteArray.toList_eq] at h
    exact ByteArray.ext (Array.toList_inj.1 h))
  have k2 : (TA.toList == TB.toList) = false := by rw [beq_eq_false_iff_ne]; exact k3
  go_enter Tryd.func5, Tryd.ntmps5
  go_wp2_with fail
  refine cW.mono ?_
  rintro e w1 ⟨rfl, hb1⟩
  have HB1 := Lib.hid hb1
  clear hb1 cW
  go_wp2_with fail
  refine (hA _).mono ?_
  rintro e w2 ⟨rfl, rfl⟩
  go_wp2_with fail
  refine (hS _).mono ?_
  rintro e w2 ⟨rfl, rfl⟩
  go_wp2_with fail
  refine (hTA _ (HP.out.below HB1.out)).mono ?_
  rintro e w3 ⟨rfl, hb3⟩
  have HB3 := Lib.hid (HB1.out.trans (hb3.mono HB1.out.size))
  clear hb3
  go_wp2_with fail
  refine (hTB _ (HP.out.below HB3.out)).mono ?_
  rintro e w4 ⟨rfl, hb4⟩
  have HB4 := Lib.hid (HB3.out.trans (hb4.mono HB3.out.size))
  clear hb4
  go_wp2_with fail
  refine (hL1 _).mono ?_
  rintro e w5 ⟨rfl, rfl⟩
  go_wp2_with fail
  refine (hL2 _).mono ?_
  rintro e w5 ⟨rfl, rfl⟩
  go_wp2_with fail
  go_ret
  exact ⟨by first | rfl | simp, HB4.out⟩
set_option maxRecDepth 20000 in
set_option maxHeartbeats 4000000 in
theorem COrd_11 (a b : Int) (ha : Fits a) (hb : Fits b) (hf : Fits (a + b)) (hab : a = b) (w : World) (cW : Calls Tryd.prog 6 #[] w fun e w' => e = .returned (.bool true) ∧ Below w.heap.size w w') (hp : Pows w) :
    Calls Tryd.prog 5 #[.int .i64 a, .int .i64 b] w fun e w' => e = .returned (.bool true) ∧ Below w.heap.size w w' := by
  have hTA := fun W (hP : Pows W) => CText_any a ha W hP
  have hTB := fun W (hP : Pows W) => CText_any b hb W hP
  have hL1 := fun W => Least_any a b W
  have hL2 := fun W => Least_any b a W
  rw [Int.min_comm b a] at hL2
  obtain ⟨m, hm⟩ : ∃ m, min a b = m := ⟨_, rfl⟩
  rw [hm] at hL1 hL2
  have hA := fun W => CoinAdd_any a b ha hb W
  rw [if_pos hf] at hA
  have hS := fun W => CoinSub_any (a + b) b hf hb W
  rw [show a + b - b = a by omega, if_pos ha] at hS
  obtain ⟨s, hs⟩ : ∃ s, a + b = s := ⟨_, rfl⟩
  rw [hs] at hA hS
  have hne : textC a = textC b := by rw [hab]
  obtain ⟨TA, hTA'⟩ : ∃ T, textC a = T := ⟨_, rfl⟩
  rw [hTA'] at hTA hne
  obtain ⟨TB, hTB'⟩ : ∃ T, textC b = T := ⟨_, rfl⟩
  rw [hTB'] at hTB hne
  have HP := Lib.hid hp
  clear ha hb hm hTA' hTB' hp hf hs
  subst hne
  subst hab
  go_enter Tryd.func5, Tryd.ntmps5
  go_wp2_with fail
  refine cW.mono ?_
  rintro e w1 ⟨rfl, hb1⟩
  have HB1 := Lib.hid hb1
  clear hb1 cW
  go_wp2_with fail
  refine (hA _).mono ?_
  rintro e w2 ⟨rfl, rfl⟩
  go_wp2_with fail
  refine (hS _).mono ?_
  rintro e w2 ⟨rfl, rfl⟩
  go_wp2_with fail
  refine (hTA _ (HP.out.below HB1.out)).mono ?_
  rintro e w3 ⟨rfl, hb3⟩
  have HB3 := Lib.hid (HB1.out.trans (hb3.mono HB1.out.size))
  clear hb3
  go_wp2_with fail
  refine (hTB _ (HP.out.below HB3.out)).mono ?_
  rintro e w4 ⟨rfl, hb4⟩
  have HB4 := Lib.hid (HB3.out.trans (hb4.mono HB3.out.size))
  clear hb4
  go_wp2_with fail
  refine (hL1 _).mono ?_
  rintro e w5 ⟨rfl, rfl⟩
  go_wp2_with fail
  refine (hL2 _).mono ?_
  rintro e w5 ⟨rfl, rfl⟩
  go_wp2_with fail
  go_ret
  exact ⟨by first | rfl | simp, HB4.out⟩
set_option maxRecDepth 20000 in
set_option maxHeartbeats 4000000 in
theorem COrd_10 (a b : Int) (ha : Fits a) (hb : Fits b) (hf : ¬ Fits (a + b)) (hab : a = b) (w : World) (cW : Calls Tryd.prog 6 #[] w fun e w' => e = .returned (.bool true) ∧ Below w.heap.size w w') (hp : Pows w) :
    Calls Tryd.prog 5 #[.int .i64 a, .int .i64 b] w fun e w' => e = .returned (.bool true) ∧ Below w.heap.size w w' := by
  have hTA := fun W (hP : Pows W) => CText_any a ha W hP
  have hTB := fun W (hP : Pows W) => CText_any b hb W hP
  have hL1 := fun W => Least_any a b W
  have hL2 := fun W => Least_any b a W
  rw [Int.min_comm b a] at hL2
  obtain ⟨m, hm⟩ : ∃ m, min a b = m := ⟨_, rfl⟩
  rw [hm] at hL1 hL2
  have hA := fun W => CoinAdd_any a b ha hb W
  rw [if_neg hf] at hA
  have hS0 := fun W => CoinSub_any 0 b (by unfold Fits; omega) hb W
  obtain ⟨d, f, hS⟩ : ∃ (d : Int) (f : Value), ∀ W, Calls Tryd.prog 14 #[.int .i64 0, .int .i64 b] W fun e w' => e = .returned (.tuple #[.int .i64 d, f]) ∧ w' = W := by
    by_cases h : Fits (0 - b)
    · rw [if_pos h] at hS0
      exact ⟨_, _, hS0⟩
    · rw [if_neg h] at hS0
      exact ⟨_, _, hS0⟩
  have hne : textC a = textC b := by rw [hab]
  obtain ⟨TA, hTA'⟩ : ∃ T, textC a = T := ⟨_, rfl⟩
  rw [hTA'] at hTA hne
  obtain ⟨TB, hTB'⟩ : ∃ T, textC b = T := ⟨_, rfl⟩
  rw [hTB'] at hTB hne
  have HP := Lib.hid hp
  clear ha hb hm hTA' hTB' hp hf hS0
  subst hne
  subst hab
  go_enter Tryd.func5, Tryd.ntmps5
  go_wp2_with fail
  refine cW.mono ?_
  rintro e w1 ⟨rfl, hb1⟩
  have HB1 := Lib.hid hb1
  clear hb1 cW
  go_wp2_with fail
  refine (hA _).mono ?_
  rintro e w2 ⟨rfl, rfl⟩
  go_wp2_with fail
  refine (hS _).mono ?_
  rintro e w2 ⟨rfl, rfl⟩
  go_wp2_with fail
  refine (hTA _ (HP.out.below HB1.out)).mono ?_
  rintro e w3 ⟨rfl, hb3⟩
  have HB3 := Lib.hid (HB1.out.trans (hb3.mono HB1.out.size))
  clear hb3
  go_wp2_with fail
  refine (hTB _ (HP.out.below HB3.out)).mono ?_
  rintro e w4 ⟨rfl, hb4⟩
  have HB4 := Lib.hid (HB3.out.trans (hb4.mono HB3.out.size))
  clear hb4
  go_wp2_with fail
  refine (hL1 _).mono ?_
  rintro e w5 ⟨rfl, rfl⟩
  go_wp2_with fail
  refine (hL2 _).mono ?_
  rintro e w5 ⟨rfl, rfl⟩
  go_wp2_with fail
  go_ret
  exact ⟨by first | rfl | simp, HB4.out⟩
theorem COrd_any (a b : Int) (ha : Fits a) (hb : Fits b) (w : World) (cW : Calls Tryd.prog 6 #[] w fun e w' => e = .returned (.bool true) ∧ Below w.heap.size w w') (hp : Pows w) :
    Calls Tryd.prog 5 #[.int .i64 a, .int .i64 b] w fun e w' => e = .returned (.bool true) ∧ Below w.heap.size w w' := by
  by_cases hf : Fits (a + b) <;> by_cases hab : a = b
  · exact COrd_11 a b ha hb hf hab w cW hp
  · exact COrd_01 a b ha hb hf hab w cW hp
  · exact COrd_10 a b ha hb hf hab w cW hp
  · exact COrd_00 a b ha hb hf hab w cW hp
end Go.Proofs.YtbfekonlgbolcacDoor
