/-
  span: Year; the references' Days and One; the document's example. Conditions: the months' lengths and strconv's powers of ten are laid.
-/
import Derived.Test.YthbifpmjkaonnaaDoorSpanB
namespace Go.Proofs.YthbifpmjkaonnaaDoor
open Go.RowKit

set_option maxHeartbeats 1000000 in
theorem Year_one (w : World) : Calls Tryd.prog 59 #[.int .u8 1] w fun e w' => e = .returned (.int .i64 365) ∧ w = w' := by
  go_enter Tryd.func59, Tryd.ntmps59
  go_wp2_with fail
  go_ret
  exact ⟨rfl, rfl⟩

def day228 : Int := 738578
theorem text228 : dayText day228 = ⟨#[50, 48, 50, 51, 45, 48, 50, 45, 50, 56]⟩ := by kernel_rfl
theorem days228 : daysB 2 day228 (day228 + 1) = 3 := by kernel_rfl

set_option maxRecDepth 20000 in
set_option maxHeartbeats 1000000 in
theorem awake6 (w : World) (hw : Lens w) (hp : Pows w) : Calls Tryd.prog 43 #[] w fun e w' => e = .returned (.bool true) ∧ Below w.heap.size w w' := by
  have hR := Read_text 738578 (by decide) (by decide) w hw hp
  have hT : dayText 738578 = ⟨#[50, 48, 50, 51, 45, 48, 50, 45, 50, 56]⟩ := text228
  rw [hT] at hR
  have hD := fun W (hW : Lens W) => Days_ok 2 738578 738579 (by decide) (by decide) (by decide) (by decide) W hW
  have hE : daysB 2 738578 738579 = 3 := days228
  rw [hE] at hD
  have HW := Lib.hid hw
  clear hT hE hw hp
  go_enter Tryd.func43, Tryd.ntmps43
  go_wp2_with fail
  refine hR.mono ?_
  rintro e w1 ⟨rfl, hb1⟩
  go_wp2_with fail
  refine (hD _ (HW.out.below hb1)).mono ?_
  rintro e w2 ⟨rfl, hb2⟩
  go_wp2_with fail
  refine (Year_one _).mono ?_
  rintro e w3 ⟨rfl, rfl⟩
  go_wp2_with fail
  go_ret
  exact ⟨rfl, hb1.trans (hb2.mono hb1.size)⟩

set_option maxRecDepth 20000 in
set_option maxHeartbeats 1000000 in
theorem RDays_act (n k : Int) (h0 : 0 ≤ n) (h : n ≤ k) (k1 : k ≤ 3652058) (w : World) :
    Calls Tryd.prog 46 #[.bool false, .int .i64 n, .int .i64 k] w fun e w' => e = .returned (.int .i64 (daysB 1 n k)) ∧ Below w.heap.size w w' := by
  have hd : daysB 1 n k = k - n := rfl
  rw [hd]
  clear hd
  go_enter Tryd.func46, Tryd.ntmps46
  go_wp2_with fail
  go_ret
  exact ⟨rfl, Below.refl _ _⟩
set_option maxRecDepth 20000 in
set_option maxHeartbeats 1000000 in
theorem RDays_thi (n k : Int) (h0 : 0 ≤ n) (h : n ≤ k) (k1 : k ≤ 3652058) (w : World) :
    Calls Tryd.prog 46 #[.bool true, .int .i64 n, .int .i64 k] w fun e w' => e = .returned (.int .i64 (daysB 2 n k)) ∧ Below w.heap.size w w' := by
  obtain ⟨y1, y2, m1, m2, d1, d2, d3⟩ := civ_in n h0 (by omega)
  obtain ⟨x1, x2, u1, u2, v1, v2, v3⟩ := civ_in k (by omega) k1
  have hA := fun W => RCivil_any n W h0 (by omega)
  have hB := fun W => RCivil_any k W (by omega) k1
  have hT : daysB 2 n k = 360 * (cY k - cY n) + 30 * (cM k - cM n) + (if min (cD n) 30 = 30 then min (cD k) 30 else cD k) - min (cD n) 30 := rfl
  generalize daysB 2 n k = T at *
  generalize cY n = Y at *
  generalize cM n = M at *
  generalize cD n = D at *
  generalize cY k = Y' at *
  generalize cM k = M' at *
  generalize cD k = D' at *
  rcases (show D = 31 ∨ D = 30 ∨ D < 30 by omega) with hD | hD | hD <;> rcases (show D' = 31 ∨ D' < 31 by omega) with hE | hE
  · have e : T = 360 * (Y' - Y) + 30 * (M' - M) + 30 - 30 := by rw [hT]; split <;> omega
    have HT := Lib.hid e
    clear e hT d2 v2
    subst hD
    subst hE
    go_enter Tryd.func46, Tryd.ntmps46
    go_wp2_with fail
    refine (hA _).mono ?_
    rintro e w1 ⟨rfl, hb1⟩
    go_wp2_with fail
    refine (hB _).mono ?_
    rintro e w2 ⟨rfl, hb2⟩
    have HB2 := Lib.hid (hb1.trans (hb2.mono hb1.size))
    clear hb1 hb2 hA hB
    go_wp2_with fail
    go_ret
    refine ⟨by rw [HT.out]; first | rfl | exact ret_int (by omega), ?_⟩
    have hz := HB2.out.size
    repeat (first | exact HB2.out | refine Below.alloc ?_ ?_ _ | refine Below.setCell ?_ ?_ _)
    all_goals (first | exact HB2.out | exact hz | exact Nat.le_succ_of_le hz | omega | (simp; omega))
  · have e : T = 360 * (Y' - Y) + 30 * (M' - M) + D' - 30 := by rw [hT]; split <;> omega
    have HT := Lib.hid e
    clear e hT d2 v2
    subst hD
    have hx1 : (D' == 31) = false := by rw [beq_eq_false_iff_ne]; omega
    have hx3 : ¬ D' = 31 := by omega
    go_enter Tryd.func46, Tryd.ntmps46
    go_wp2_with fail
    refine (hA _).mono ?_
    rintro e w1 ⟨rfl, hb1⟩
    go_wp2_with fail
    refine (hB _).mono ?_
    rintro e w2 ⟨rfl, hb2⟩
    have HB2 := Lib.hid (hb1.trans (hb2.mono hb1.size))
    clear hb1 hb2 hA hB
    go_wp2_with fail
    go_ret
    refine ⟨by rw [HT.out]; first | rfl | exact ret_int (by omega), ?_⟩
    have hz := HB2.out.size
    repeat (first | exact HB2.out | refine Below.alloc ?_ ?_ _ | refine Below.setCell ?_ ?_ _)
    all_goals (first | exact HB2.out | exact hz | exact Nat.le_succ_of_le hz | omega | (simp; omega))
  · have e : T = 360 * (Y' - Y) + 30 * (M' - M) + 30 - 30 := by rw [hT]; split <;> omega
    have HT := Lib.hid e
    clear e hT d2 v2
    subst hD
    subst hE
    go_enter Tryd.func46, Tryd.ntmps46
    go_wp2_with fail
    refine (hA _).mono ?_
    rintro e w1 ⟨rfl, hb1⟩
    go_wp2_with fail
    refine (hB _).mono ?_
    rintro e w2 ⟨rfl, hb2⟩
    have HB2 := Lib.hid (hb1.trans (hb2.mono hb1.size))
    clear hb1 hb2 hA hB
    go_wp2_with fail
    go_ret
    refine ⟨by rw [HT.out]; first | rfl | exact ret_int (by omega), ?_⟩
    have hz := HB2.out.size
    repeat (first | exact HB2.out | refine Below.alloc ?_ ?_ _ | refine Below.setCell ?_ ?_ _)
    all_goals (first | exact HB2.out | exact hz | exact Nat.le_succ_of_le hz | omega | (simp; omega))
  · have e : T = 360 * (Y' - Y) + 30 * (M' - M) + D' - 30 := by rw [hT]; split <;> omega
    have HT := Lib.hid e
    clear e hT d2 v2
    subst hD
    have hx1 : (D' == 31) = false := by rw [beq_eq_false_iff_ne]; omega
    have hx3 : ¬ D' = 31 := by omega
    go_enter Tryd.func46, Tryd.ntmps46
    go_wp2_with fail
    refine (hA _).mono ?_
    rintro e w1 ⟨rfl, hb1⟩
    go_wp2_with fail
    refine (hB _).mono ?_
    rintro e w2 ⟨rfl, hb2⟩
    have HB2 := Lib.hid (hb1.trans (hb2.mono hb1.size))
    clear hb1 hb2 hA hB
    go_wp2_with fail
    go_ret
    refine ⟨by rw [HT.out]; first | rfl | exact ret_int (by omega), ?_⟩
    have hz := HB2.out.size
    repeat (first | exact HB2.out | refine Below.alloc ?_ ?_ _ | refine Below.setCell ?_ ?_ _)
    all_goals (first | exact HB2.out | exact hz | exact Nat.le_succ_of_le hz | omega | (simp; omega))
  · have e : T = 360 * (Y' - Y) + 30 * (M' - M) + 31 - D := by rw [hT]; split <;> omega
    have HT := Lib.hid e
    clear e hT d2 v2
    have hne : (D == 30) = false := by rw [beq_eq_false_iff_ne]; omega
    have hne1 : (D == 31) = false := by rw [beq_eq_false_iff_ne]; omega
    have hne2 : ¬ D = 30 := by omega
    have hne3 : ¬ D = 31 := by omega
    subst hE
    go_enter Tryd.func46, Tryd.ntmps46
    go_wp2_with fail
    refine (hA _).mono ?_
    rintro e w1 ⟨rfl, hb1⟩
    go_wp2_with fail
    refine (hB _).mono ?_
    rintro e w2 ⟨rfl, hb2⟩
    have HB2 := Lib.hid (hb1.trans (hb2.mono hb1.size))
    clear hb1 hb2 hA hB
    go_wp2_with fail
    go_ret
    refine ⟨by rw [HT.out]; first | rfl | exact ret_int (by omega), ?_⟩
    have hz := HB2.out.size
    repeat (first | exact HB2.out | refine Below.alloc ?_ ?_ _ | refine Below.setCell ?_ ?_ _)
    all_goals (first | exact HB2.out | exact hz | exact Nat.le_succ_of_le hz | omega | (simp; omega))
  · have e : T = 360 * (Y' - Y) + 30 * (M' - M) + D' - D := by rw [hT]; split <;> omega
    have HT := Lib.hid e
    clear e hT d2 v2
    have hne : (D == 30) = false := by rw [beq_eq_false_iff_ne]; omega
    have hne1 : (D == 31) = false := by rw [beq_eq_false_iff_ne]; omega
    have hne2 : ¬ D = 30 := by omega
    have hne3 : ¬ D = 31 := by omega
    have hx1 : (D' == 31) = false := by rw [beq_eq_false_iff_ne]; omega
    have hx3 : ¬ D' = 31 := by omega
    go_enter Tryd.func46, Tryd.ntmps46
    go_wp2_with fail
    refine (hA _).mono ?_
    rintro e w1 ⟨rfl, hb1⟩
    go_wp2_with fail
    refine (hB _).mono ?_
    rintro e w2 ⟨rfl, hb2⟩
    have HB2 := Lib.hid (hb1.trans (hb2.mono hb1.size))
    clear hb1 hb2 hA hB
    go_wp2_with fail
    go_ret
    refine ⟨by rw [HT.out]; first | rfl | exact ret_int (by omega), ?_⟩
    have hz := HB2.out.size
    repeat (first | exact HB2.out | refine Below.alloc ?_ ?_ _ | refine Below.setCell ?_ ?_ _)
    all_goals (first | exact HB2.out | exact hz | exact Nat.le_succ_of_le hz | omega | (simp; omega))
set_option maxRecDepth 20000 in
set_option maxHeartbeats 1000000 in
theorem ROne_act (n : Int) (w : World) : Calls Tryd.prog 48 #[.bool false, .int .i64 n] w fun e w' => e = .returned (.int .i64 (accB 1 (n + 1) - accB 1 n)) ∧ Below w.heap.size w w' := by
  have hd : accB 1 (n + 1) - accB 1 n = 1 := by
    show (n + 1) - n = 1
    omega
  rw [hd]
  clear hd
  go_enter Tryd.func48, Tryd.ntmps48
  go_wp2_with fail
  go_ret
  exact ⟨rfl, Below.refl _ _⟩
set_option maxRecDepth 20000 in
set_option maxHeartbeats 1000000 in
theorem ROne_thi (n : Int) (h0 : 0 ≤ n) (h1 : n < 3652058) (w : World) : Calls Tryd.prog 48 #[.bool true, .int .i64 n] w fun e w' => e = .returned (.int .i64 (accB 2 (n + 1) - accB 2 n)) ∧ Below w.heap.size w w' := by
  have hd : accB 2 (n + 1) - accB 2 n = if cD n < mlen (cY n) (cM n) then 1 else 31 - mlen (cY n) (cM n) := acc_next n h0 h1
  obtain ⟨y1, y2, m1, m2, d1, d2, d3⟩ := civ_in n h0 (by omega)
  have hA := fun W => RCivil_any n W h0 (by omega)
  have hL := fun W => RLength_any (cY n) (cM n) W
  have lb := mlen_bd (cY n) (cM n)
  generalize accB 2 (n + 1) - accB 2 n = T at *
  generalize mlen (cY n) (cM n) = L at *
  generalize cY n = Y at *
  generalize cM n = M at *
  generalize cD n = D at *
  have HD := Lib.hid hd
  clear hd
  have body : ∀ R : Int, T = R → (D < L ∧ R = 1 ∨ L ≤ D ∧ L = 31 ∧ R = 0 ∨ L ≤ D ∧ L ≠ 31 ∧ R = 31 - L) → Calls Tryd.prog 48 #[.bool true, .int .i64 n] w fun e w' => e = .returned (.int .i64 T) ∧ Below w.heap.size w w' := by
    intro R hR hc
    rw [hR]
    rcases hc with ⟨h1, rfl⟩ | ⟨h1, h2, rfl⟩ | ⟨h1, h2, rfl⟩
    all_goals
      try subst h2
      try (have h3 : (L == 31) = false := by rw [beq_eq_false_iff_ne]; exact h2)
      clear HD hR
      go_enter Tryd.func48, Tryd.ntmps48
      go_wp2_with fail
      refine (hA _).mono ?_
      rintro e w1 ⟨rfl, hb1⟩
      go_wp2_with fail
      have hk1 := Blk.new w1 46 #[.int .i64 Y, .int .i64 M, .int .i64 D]
      have HB1 := Lib.hid (hb1.alloc hb1.size (.cells #[.int .i64 Y, .int .i64 M, .int .i64 D] 46))
      refine (hL _).mono ?_
      rintro e w2 ⟨rfl, hb2⟩
      have hk2 := hk1.below hb2 hk1.lt
      have HB2 := Lib.hid (HB1.out.trans (hb2.mono HB1.out.size))
      have c0 := hk2.cell 0
      have c1 := hk2.cell 1
      have c2 := hk2.cell 2
      simp at c0 c1 c2
      clear hb1 hb2 hk1 hk2 hA hL
      go_wp2_with fail
      go_ret
      exact ⟨rfl, HB2.out⟩
  by_cases hc : D < L
  · exact body 1 (by rw [HD.out, if_pos hc]) (Or.inl ⟨hc, rfl⟩)
  · by_cases h3 : L = 31
    · exact body 0 (by rw [HD.out, if_neg hc, h3]; rfl) (Or.inr (Or.inl ⟨by omega, h3, rfl⟩))
    · exact body (31 - L) (by rw [HD.out, if_neg hc]) (Or.inr (Or.inr ⟨by omega, h3, rfl⟩))
end Go.Proofs.YthbifpmjkaonnaaDoor
