/-
The references' Scale. No condition but the numbers' kinds.
span: Days, thirty, Year, One; the references' Days and One; the document's example. Conditions: the months' lengths and strconv's powers of ten are laid.
span: Days where it is an error, One, Year; the references' Days and One; the document's example. Conditions: the months' lengths and strconv's powers of ten are laid.
span: Year; the references' Days and One; the document's example. Conditions: the months' lengths and strconv's powers of ten are laid.
yield: Day, Month; the references'. Conditions: the numbers' kinds; the months' lengths are laid.
-/
import Derived.Test.YtpbfipeinblfgaaGreatDoorRefPQ9
import Derived.Test.YtpbfipeinblfgaaGreatDoorRefYQ9
import Derived.Test.YtpbfipeinblfgaaGreatDoorYldAQ9
import Derived.Test.YtpbfipeinblfgaaGreatDoorSpanMQ9
import Derived.Test.YtpbfipeinblfgaaGreatDoorTextBQ9
namespace Go.Proofs.YtpbfipeinblfgaaGreatDoor
open Go.RowKit

end Go.Proofs.YtpbfipeinblfgaaGreatDoor
namespace Go.Proofs.YtpbfipeinblfgaaGreatDoor
open Go.RowKit

theorem ret_two {k : IntKind} {a b : Int} {v : Value} (h : a = b) : Ending.returned (.tuple #[.int k a, v]) = .returned (.tuple #[.int k b, v]) := by rw [h]
theorem dayB_true {d : Int} (h0 : 0 ≤ d) (h1 : d ≤ 3652058) (W : World) : Calls Tryz.prog 29 #[.int .i32 d] W fun e w' => e = .returned (.bool true) ∧ W = w' := by
  have := DRight_any d W
  rw [day_yes h0 h1] at this
  exact this
theorem dayB_false {d : Int} (h : d < 0 ∨ 3652058 < d) (W : World) : Calls Tryz.prog 29 #[.int .i32 d] W fun e w' => e = .returned (.bool false) ∧ W = w' := by
  have := DRight_any d W
  rw [day_no h] at this
  exact this

set_option maxRecDepth 20000 in
set_option maxHeartbeats 1000000 in
theorem thirty_any (n k : Int) (h0 : 0 ≤ n) (h1 : n ≤ 3652058) (k0 : 0 ≤ k) (k1 : k ≤ 3652058) (w : World) (hw : Lens w) :
    Calls Tryz.prog 226 #[.int .i32 n, .int .i32 k] w fun e w' => e = .returned (.tuple #[.int .i64 (thirty n k), .nilIface]) ∧ Below w.heap.size w w' := by
  obtain ⟨y1, y2, m1, m2, d1, d2, d3⟩ := civ_in n h0 h1
  obtain ⟨x1, x2, u1, u2, v1, v2, v3⟩ := civ_in k k0 k1
  have hA := fun W (hW : Lens W) => DCivil_any n W h0 h1 hW
  have hB := fun W (hW : Lens W) => DCivil_any k W k0 k1 hW
  have hT : thirty n k = 360 * (cY k - cY n) + 30 * (cM k - cM n) + (if min (cD n) 30 = 30 then min (cD k) 30 else cD k) - min (cD n) 30 := rfl
  generalize thirty n k = T at *
  generalize cY n = Y at *
  generalize cM n = M at *
  generalize cD n = D at *
  generalize cY k = Y' at *
  generalize cM k = M' at *
  generalize cD k = D' at *
  have HT := Lib.hid hT
  have HW := Lib.hid hw
  clear hT d2 v2 hw
  go_enter Tryz.func226, Tryz.ntmps226
  go_wp2_with fail
  refine (hA _ HW.out).mono ?_
  rintro e w1 ⟨rfl, hb1⟩
  have hk1 := Blk.new w1 153 #[.int .i64 Y, .int .i64 M, .int .i64 D]
  have hb1a := hb1.alloc hb1.size (.cells #[.int .i64 Y, .int .i64 M, .int .i64 D] 153)
  have HK1 := Lib.hid hk1
  have HB1 := Lib.hid hb1a
  clear hb1 hk1 hb1a
  go_wp2_with fail
  refine (hB _ (HW.out.below HB1.out)).mono ?_
  rintro e w2 ⟨rfl, hb2⟩
  have hk2 := HK1.out.below hb2 HK1.out.lt
  have HB2 := Lib.hid (HB1.out.trans (hb2.mono HB1.out.size))
  have c0 := hk2.cell 0
  have c1 := hk2.cell 1
  have c2 := hk2.cell 2
  have z := hk2.lt
  simp at c0 c1 c2
  clear hb2 hk2 hA hB
  by_cases hD : D < 30
  · have hm : min D 30 = D := Int.min_eq_left (by omega)
    have e : T = 360 * (Y' - Y) + 30 * (M' - M) + D' - D := by rw [HT.out, hm, if_neg (by omega)]
    have hne : (D == 30) = false := by rw [beq_eq_false_iff_ne]; omega
    have hne2 : ¬ D = 30 := by omega
    subst e
    clear HT
    go_wp2_with fail
    go_ret2
    exact ⟨rfl, HB2.out.alloc HB2.out.size _⟩
  · have hm : min D 30 = 30 := Int.min_eq_right (by omega)
    have e : T = 360 * (Y' - Y) + 30 * (M' - M) + min D' 30 - 30 := by rw [HT.out, hm, if_pos rfl]
    have hx : 1 ≤ min D' 30 ∧ min D' 30 ≤ 30 := by omega
    by_cases hE : D' < 30
    · have hX : min D' 30 = D' := Int.min_eq_left (by omega)
      rw [hX] at e hx
      subst e
      clear HT
      go_wp2_with fail
      all_goals
        go_ret2
        refine ⟨?_, HB2.out.alloc HB2.out.size _⟩
        first | rfl | exact ret_two (by omega)
    · have hX : min D' 30 = 30 := Int.min_eq_right (by omega)
      rw [hX] at e hx
      have e2 : T = 360 * (Y' - Y) + 30 * (M' - M) := by omega
      subst e2
      clear HT e
      go_wp2_with fail
      all_goals
        go_ret2
        refine ⟨?_, HB2.out.alloc HB2.out.size _⟩
        first | rfl | exact ret_two (by omega)

/-- Days between, by the basis. -/
def daysB (b n k : Int) : Int := if b = 1 then k - n else thirty n k
set_option maxRecDepth 20000 in
set_option maxHeartbeats 1000000 in
theorem SDays_ok (b n k : Int) (hb : b = 1 ∨ b = 2) (h0 : 0 ≤ n) (h : n ≤ k) (k1 : k ≤ 3652058) (w : World) (hw : Lens w) :
    Calls Tryz.prog 193 #[.int .u8 b, .int .i32 n, .int .i32 k] w fun e w' => e = .returned (.tuple #[.int .i64 (daysB b n k), .nilIface]) ∧ Below w.heap.size w w' := by
  have r1 := fun W => dayB_true h0 (show n ≤ 3652058 by omega) W
  have r2 := fun W => dayB_true (show 0 ≤ k by omega) k1 W
  have hT := fun W (hW : Lens W) => thirty_any n k h0 (by omega) (by omega) k1 W hW
  rcases hb with rfl | rfl
  · have hd : daysB 1 n k = k - n := rfl
    rw [hd]
    clear hT hd
    go_enter Tryz.func193, Tryz.ntmps193
    go_wp2_with fail
    refine (r1 _).mono ?_
    rintro e w1 ⟨rfl, rfl⟩
    go_wp2_with fail
    refine (r2 _).mono ?_
    rintro e w1 ⟨rfl, rfl⟩
    go_wp2_with fail
    go_ret2
    exact ⟨rfl, Below.refl _ _⟩
  · have hd : daysB 2 n k = thirty n k := rfl
    rw [hd]
    clear hd
    go_enter Tryz.func193, Tryz.ntmps193
    go_wp2_with fail
    refine (r1 _).mono ?_
    rintro e w1 ⟨rfl, rfl⟩
    go_wp2_with fail
    refine (r2 _).mono ?_
    rintro e w1 ⟨rfl, rfl⟩
    go_wp2_with fail
    refine (hT _ hw).mono ?_
    rintro e w2 ⟨rfl, hb2⟩
    go_wp2_with fail
    go_ret2
    exact ⟨rfl, hb2⟩
end Go.Proofs.YtpbfipeinblfgaaGreatDoor
namespace Go.Proofs.YtpbfipeinblfgaaGreatDoor
open Go.RowKit

set_option maxRecDepth 20000 in
set_option maxHeartbeats 1000000 in
theorem SDays_no (b n k : Int) (h : (b ≠ 1 ∧ b ≠ 2) ∨ n < 0 ∨ 3652058 < n ∨ k < 0 ∨ 3652058 < k ∨ k < n) (w : World) :
    Calls Tryz.prog 193 #[.int .u8 b, .int .i32 n, .int .i32 k] w fun e w' => e = .returned (.tuple #[.int .i64 0, .iface 110 (.int .i64 1)]) ∧ Below w.heap.size w w' := by
  by_cases hn : n < 0 ∨ 3652058 < n
  · have r1 := fun W => dayB_false hn W
    clear h hn
    go_enter Tryz.func193, Tryz.ntmps193
    go_wp2_with fail
    refine (r1 _).mono ?_
    rintro e w1 ⟨rfl, rfl⟩
    go_wp2_with fail
    go_ret2
    exact ⟨rfl, Below.refl _ _⟩
  · have r1 := fun W => dayB_true (show 0 ≤ n by omega) (show n ≤ 3652058 by omega) W
    by_cases hk : k < 0 ∨ 3652058 < k
    · have r2 := fun W => dayB_false hk W
      clear h hn hk
      go_enter Tryz.func193, Tryz.ntmps193
      go_wp2_with fail
      refine (r1 _).mono ?_
      rintro e w1 ⟨rfl, rfl⟩
      go_wp2_with fail
      refine (r2 _).mono ?_
      rintro e w1 ⟨rfl, rfl⟩
      go_wp2_with fail
      go_ret2
      exact ⟨rfl, Below.refl _ _⟩
    · have r2 := fun W => dayB_true (show 0 ≤ k by omega) (show k ≤ 3652058 by omega) W
      by_cases hkn : k < n
      · clear h hn hk
        go_enter Tryz.func193, Tryz.ntmps193
        go_wp2_with fail
        refine (r1 _).mono ?_
        rintro e w1 ⟨rfl, rfl⟩
        go_wp2_with fail
        refine (r2 _).mono ?_
        rintro e w1 ⟨rfl, rfl⟩
        go_wp2_with fail
        go_ret2
        exact ⟨rfl, Below.refl _ _⟩
      · have hb : b ≠ 1 ∧ b ≠ 2 := by omega
        have b1 : (b == 1) = false := by rw [beq_eq_false_iff_ne]; exact hb.1
        have b2 : (b == 2) = false := by rw [beq_eq_false_iff_ne]; exact hb.2
        obtain ⟨b3, b4⟩ := hb
        clear h hn hk
        go_enter Tryz.func193, Tryz.ntmps193
        go_wp2_with fail
        refine (r1 _).mono ?_
        rintro e w1 ⟨rfl, rfl⟩
        go_wp2_with fail
        refine (r2 _).mono ?_
        rintro e w1 ⟨rfl, rfl⟩
        go_wp2_with fail
        go_ret2
        exact ⟨rfl, Below.refl _ _⟩

theorem one_eq (b n : Int) (hb : b = 1 ∨ b = 2) (h0 : 0 ≤ n) (h1 : n < 3652058) :
    daysB b (n - (cD n - 1)) (n + 1) - daysB b (n - (cD n - 1)) n = accB b (n + 1) - accB b n := by
  obtain ⟨-, -, -, -, hf⟩ := first_of n h0 (by omega)
  rcases hb with rfl | rfl
  · show (n + 1 - (n - (cD n - 1))) - (n - (n - (cD n - 1))) = (n + 1) - n
    omega
  · show thirty _ _ - thirty _ _ = acc (n + 1) - acc n
    rw [thirty_first hf, thirty_first hf]
    omega
theorem daysB_bd (b n k : Int) (hb : b = 1 ∨ b = 2) (h0 : 0 ≤ n) (k1 : k ≤ 3652058) (h : n ≤ k) : 0 ≤ daysB b n k ∧ daysB b n k ≤ 4000000 := by
  rcases hb with rfl | rfl
  · show 0 ≤ k - n ∧ k - n ≤ 4000000
    omega
  · exact thirty_bd h0 k1 h

set_option maxRecDepth 20000 in
set_option maxHeartbeats 1000000 in
theorem One_ok (b n : Int) (hb : b = 1 ∨ b = 2) (h0 : 0 ≤ n) (h1 : n < 3652058) (w : World) (hw : Lens w) :
    Calls Tryz.prog 156 #[.int .u8 b, .int .i32 n] w fun e w' => e = .returned (.tuple #[.int .i64 (accB b (n + 1) - accB b n), .nilIface]) ∧ Below w.heap.size w w' := by
  obtain ⟨y1, y2, m1, m2, d1, d2, d3⟩ := civ_in n h0 (by omega)
  obtain ⟨f0, f1, -, -, -⟩ := first_of n h0 (by omega)
  have hC := fun W (hW : Lens W) => DCivil_any n W h0 (by omega) hW
  have hA := fun W (hW : Lens W) => SDays_ok b (n - (cD n - 1)) n hb f0 f1 (by omega) W hW
  have hB := fun W (hW : Lens W) => SDays_ok b (n - (cD n - 1)) (n + 1) hb f0 (by omega) (by omega) W hW
  have hE := one_eq b n hb h0 h1
  have bA := daysB_bd b (n - (cD n - 1)) n hb f0 (by omega) f1
  have bB := daysB_bd b (n - (cD n - 1)) (n + 1) hb f0 (by omega) (by omega)
  rw [← hE]
  generalize daysB b (n - (cD n - 1)) n = U at *
  generalize daysB b (n - (cD n - 1)) (n + 1) = V at *
  generalize cY n = Y at *
  generalize cM n = M at *
  generalize cD n = D at *
  have HW := Lib.hid hw
  clear hE hb d2 hw
  go_enter Tryz.func156, Tryz.ntmps156
  go_wp2_with fail
  refine (hC _ HW.out).mono ?_
  rintro e w1 ⟨rfl, hb1⟩
  have HB1 := Lib.hid (hb1.alloc hb1.size (.cells #[.int .i64 Y, .int .i64 M, .int .i64 D] 153))
  clear hb1
  go_wp2_with fail
  refine (hA _ (HW.out.below HB1.out)).mono ?_
  rintro e w2 ⟨rfl, hb2⟩
  have HB2 := Lib.hid (HB1.out.trans (hb2.mono HB1.out.size))
  clear hb2
  go_wp2_with fail
  refine (hB _ (HW.out.below HB2.out)).mono ?_
  rintro e w3 ⟨rfl, hb3⟩
  have HB3 := Lib.hid (HB2.out.trans (hb3.mono HB2.out.size))
  clear hb3
  go_wp2_with fail
  go_ret2
  exact ⟨rfl, HB3.out⟩

set_option maxRecDepth 20000 in
set_option maxHeartbeats 1000000 in
theorem One_no (b n : Int) (h : (b ≠ 1 ∧ b ≠ 2) ∨ n < 0 ∨ 3652058 ≤ n) (hn : -2147483648 ≤ n ∧ n ≤ 2147483647) (w : World) (hw : Lens w) :
    Calls Tryz.prog 156 #[.int .u8 b, .int .i32 n] w fun e w' => e = .returned (.tuple #[.int .i64 0, .iface 110 (.int .i64 1)]) ∧ Below w.heap.size w w' := by
  by_cases hr : n < 0 ∨ 3652058 < n
  · have hC := fun W => DCivil_no n hr W
    clear h hr
    go_enter Tryz.func156, Tryz.ntmps156
    go_wp2_with fail
    refine (hC _).mono ?_
    rintro e w1 ⟨rfl, hb1⟩
    have HB1 := Lib.hid (hb1.alloc hb1.size (.cells #[.int .i64 0, .int .i64 0, .int .i64 0] 153))
    clear hb1
    go_wp2_with fail
    go_ret2
    exact ⟨rfl, HB1.out⟩
  · have h0 : 0 ≤ n := by omega
    have h1 : n ≤ 3652058 := by omega
    obtain ⟨y1, y2, m1, m2, d1, d2, d3⟩ := civ_in n h0 h1
    obtain ⟨f0, f1, -, -, -⟩ := first_of n h0 h1
    have hC := fun W (hW : Lens W) => DCivil_any n W h0 h1 hW
    have HW := Lib.hid hw
    by_cases hb : b = 1 ∨ b = 2
    · have hn' : n = 3652058 := by omega
      have hA := fun W (hW : Lens W) => SDays_ok b (n - (cD n - 1)) n hb f0 f1 (by omega) W hW
      have hB := fun W => SDays_no b (n - (cD n - 1)) (n + 1) (by omega) W
      have hs : n + 1 ≤ 3652059 := by omega
      generalize daysB b (n - (cD n - 1)) n = U at *
      generalize cY n = Y at *
      generalize cM n = M at *
      generalize cD n = D at *
      clear h hr hb d2 hw hn'
      go_enter Tryz.func156, Tryz.ntmps156
      go_wp2_with fail
      refine (hC _ HW.out).mono ?_
      rintro e w1 ⟨rfl, hb1⟩
      have HB1 := Lib.hid (hb1.alloc hb1.size (.cells #[.int .i64 Y, .int .i64 M, .int .i64 D] 153))
      clear hb1
      go_wp2_with fail
      refine (hA _ (HW.out.below HB1.out)).mono ?_
      rintro e w2 ⟨rfl, hb2⟩
      have HB2 := Lib.hid (HB1.out.trans (hb2.mono HB1.out.size))
      clear hb2
      go_wp2_with fail
      refine (hB _).mono ?_
      rintro e w3 ⟨rfl, hb3⟩
      have HB3 := Lib.hid (HB2.out.trans (hb3.mono HB2.out.size))
      clear hb3
      go_wp2_with fail
      go_ret2
      exact ⟨rfl, HB3.out⟩
    · have hA := fun W => SDays_no b (n - (cD n - 1)) n (by omega) W
      generalize cY n = Y at *
      generalize cM n = M at *
      generalize cD n = D at *
      clear h hr hb d2 hw
      go_enter Tryz.func156, Tryz.ntmps156
      go_wp2_with fail
      refine (hC _ HW.out).mono ?_
      rintro e w1 ⟨rfl, hb1⟩
      have HB1 := Lib.hid (hb1.alloc hb1.size (.cells #[.int .i64 Y, .int .i64 M, .int .i64 D] 153))
      clear hb1
      go_wp2_with fail
      refine (hA _).mono ?_
      rintro e w2 ⟨rfl, hb2⟩
      have HB2 := Lib.hid (HB1.out.trans (hb2.mono HB1.out.size))
      clear hb2
      go_wp2_with fail
      go_ret2
      exact ⟨rfl, HB2.out⟩
end Go.Proofs.YtpbfipeinblfgaaGreatDoor
namespace Go.Proofs.YtpbfipeinblfgaaGreatDoor
open Go.RowKit

set_option maxHeartbeats 1000000 in
theorem Year_one (w : World) : Calls Tryz.prog 138 #[.int .u8 1] w fun e w' => e = .returned (.int .i64 365) ∧ w = w' := by
  go_enter Tryz.func138, Tryz.ntmps138
  go_wp2_with fail
  go_ret
  exact ⟨rfl, rfl⟩

def day228 : Int := 738578
theorem text228 : dayText day228 = ⟨#[50, 48, 50, 51, 45, 48, 50, 45, 50, 56]⟩ := by kernel_rfl
theorem days228 : daysB 2 day228 (day228 + 1) = 3 := by kernel_rfl

set_option maxRecDepth 20000 in
set_option maxHeartbeats 1000000 in
theorem ROne_act (n : Int) (w : World) : Calls Tryz.prog 36 #[.bool false, .int .i64 n] w fun e w' => e = .returned (.int .i64 (accB 1 (n + 1) - accB 1 n)) ∧ Below w.heap.size w w' := by
  have hd : accB 1 (n + 1) - accB 1 n = 1 := by
    show (n + 1) - n = 1
    omega
  rw [hd]
  clear hd
  go_enter Tryz.func36, Tryz.ntmps36
  go_wp2_with fail
  go_ret
  exact ⟨rfl, Below.refl _ _⟩
set_option maxRecDepth 20000 in
set_option maxHeartbeats 1000000 in
theorem ROne_thi (n : Int) (h0 : 0 ≤ n) (h1 : n < 3652058) (w : World) : Calls Tryz.prog 36 #[.bool true, .int .i64 n] w fun e w' => e = .returned (.int .i64 (accB 2 (n + 1) - accB 2 n)) ∧ Below w.heap.size w w' := by
  have hd : accB 2 (n + 1) - accB 2 n = if cD n < mlen (cY n) (cM n) then 1 else 31 - mlen (cY n) (cM n) := acc_next n h0 h1
  obtain ⟨y1, y2, m1, m2, d1, d2, d3⟩ := civ_in n h0 (by omega)
  have hA := fun W => RCivil_any n W h0 (by omega)
  have hL := fun W => RLength_any (cY n) (cM n) W
  have lb := mlen_bd (cY n) (cM n)
  generalize accB 2 (n + 1) - accB 2 n = T at *
  generalize mlen (cY n) (cM n) = L at *
  generalize cY n = Y at *
  generalize cM n = M at *
  generalize cD n = D at *
  have HD := Lib.hid hd
  clear hd
  have body : ∀ R : Int, T = R → (D < L ∧ R = 1 ∨ L ≤ D ∧ L = 31 ∧ R = 0 ∨ L ≤ D ∧ L ≠ 31 ∧ R = 31 - L) → Calls Tryz.prog 36 #[.bool true, .int .i64 n] w fun e w' => e = .returned (.int .i64 T) ∧ Below w.heap.size w w' := by
    intro R hR hc
    rw [hR]
    rcases hc with ⟨h1, rfl⟩ | ⟨h1, h2, rfl⟩ | ⟨h1, h2, rfl⟩
    all_goals
      try subst h2
      try (have h3 : (L == 31) = false := by rw [beq_eq_false_iff_ne]; exact h2)
      clear HD hR
      go_enter Tryz.func36, Tryz.ntmps36
      go_wp2_with fail
      refine (hA _).mono ?_
      rintro e w1 ⟨rfl, hb1⟩
      go_wp2_with fail
      have hk1 := Blk.new w1 142 #[.int .i64 Y, .int .i64 M, .int .i64 D]
      have HB1 := Lib.hid (hb1.alloc hb1.size (.cells #[.int .i64 Y, .int .i64 M, .int .i64 D] 142))
      refine (hL _).mono ?_
      rintro e w2 ⟨rfl, hb2⟩
      have hk2 := hk1.below hb2 hk1.lt
      have HB2 := Lib.hid (HB1.out.trans (hb2.mono HB1.out.size))
      have c0 := hk2.cell 0
      have c1 := hk2.cell 1
      have c2 := hk2.cell 2
      simp at c0 c1 c2
      clear hb1 hb2 hk1 hk2 hA hL
      go_wp2_with fail
      go_ret
      exact ⟨rfl, HB2.out⟩
  by_cases hc : D < L
  · exact body 1 (by rw [HD.out, if_pos hc]) (Or.inl ⟨hc, rfl⟩)
  · by_cases h3 : L = 31
    · exact body 0 (by rw [HD.out, if_neg hc, h3]; rfl) (Or.inr (Or.inl ⟨by omega, h3, rfl⟩))
    · exact body (31 - L) (by rw [HD.out, if_neg hc]) (Or.inr (Or.inr ⟨by omega, h3, rfl⟩))
end Go.Proofs.YtpbfipeinblfgaaGreatDoor
namespace Go.Proofs.YtpbfipeinblfgaaGreatDoor
open Go.RowKit

set_option maxRecDepth 20000 in
set_option maxHeartbeats 4000000 in
theorem Day_yes {P p c b D : Nat} {n : Int} (hP : P ≤ 1000000000000) (hr : rateB p b) (h0 : 0 ≤ n) (h1 : n < 3652058) (hc : c < unitN b) (hD : accB b (n + 1) - accB b n = (D : Int)) (hD3 : D ≤ 3) (w : World) (hw : Lens w) :
    Calls Tryz.prog 110 #[rv p b, .int .i64 (P : Int), .int .i32 n, .int .u64 (c : Int)] w (Ret (.tuple #[.int .i64 (((P * p * D + c) / unitN b : Nat) : Int), .int .u64 (((P * p * D + c) % unitN b : Nat) : Int), .nilIface]) w) := by
  have HW := Lib.hid hw
  have hO := fun W (hW : Lens W) => One_ok (b : Int) n (by have := hr.2; omega) h0 h1 W hW
  rw [hD] at hO
  have hDs := fun W => Days_yes (P := P) (d := D) (c := c) hP hr (by omega) hc W
  obtain ⟨q, hq⟩ : ∃ q, (P * p * D + c) / unitN b = q := ⟨_, rfl⟩
  obtain ⟨s, hs⟩ : ∃ s, (P * p * D + c) % unitN b = s := ⟨_, rfl⟩
  rw [hq, hs] at hDs ⊢
  unfold rv at hDs ⊢
  clear hP hr hc hD hD3 hq hs hw h0 h1
  go_enter Tryz.func110, Tryz.ntmps110
  have HQ0 := Lib.hid (Blk.new w 25 #[.int .u32 (p : Int), .int .u8 (b : Int)])
  have HB0 := Lib.hid (b_alloc w (.cells #[.int .u32 (p : Int), .int .u8 (b : Int)] 25))
  go_wp2_with fail
  refine (hO _ (HW.out.below HB0.out)).mono ?_
  rintro e w1 ⟨rfl, hb1⟩
  have HQ1_0 := Lib.hid (HQ0.out.below hb1 HQ0.out.lt)
  have HB1 := Lib.hid (HB0.out.trans (hb1.mono HB0.out.size))
  clear hb1
  have c1_0_0 := HQ1_0.out.cell 0
  have c1_0_1 := HQ1_0.out.cell 1
  have z1_0 := HQ1_0.out.lt
  simp at c1_0_0 c1_0_1
  go_wp2_with fail
  refine (hDs _).mono ?_
  rintro e w2 ⟨rfl, hb2⟩
  have HQ2_0 := Lib.hid (HQ1_0.out.below hb2 HQ1_0.out.lt)
  have HB2 := Lib.hid (HB1.out.trans (hb2.mono HB1.out.size))
  clear hb2 c1_0_0 c1_0_1 z1_0
  have c2_0_0 := HQ2_0.out.cell 0
  have c2_0_1 := HQ2_0.out.cell 1
  have z2_0 := HQ2_0.out.lt
  simp at c2_0_0 c2_0_1
  go_wp2_with fail
  go_ret3
  exact ⟨rfl, HB2.out⟩
set_option maxRecDepth 20000 in
set_option maxHeartbeats 4000000 in
theorem Day_bad {p c b : Nat} {P n : Int} (hb : ¬ (b = 1 ∨ b = 2) ∨ n < 0 ∨ 3652058 ≤ n) (hn : -2147483648 ≤ n ∧ n ≤ 2147483647) (w : World) (hw : Lens w) :
    Calls Tryz.prog 110 #[rv p b, .int .i64 P, .int .i32 n, .int .u64 (c : Int)] w (Ret (.tuple #[.int .i64 0, .int .u64 0, eno 1]) w) := by
  have HW := Lib.hid hw
  have hO := fun W (hW : Lens W) => One_no (b : Int) n (by omega) hn W hW
  unfold rv eno
  clear hb hw hn
  go_enter Tryz.func110, Tryz.ntmps110
  have HQ0 := Lib.hid (Blk.new w 25 #[.int .u32 (p : Int), .int .u8 (b : Int)])
  have HB0 := Lib.hid (b_alloc w (.cells #[.int .u32 (p : Int), .int .u8 (b : Int)] 25))
  go_wp2_with fail
  refine (hO _ (HW.out.below HB0.out)).mono ?_
  rintro e w1 ⟨rfl, hb1⟩
  have HQ1_0 := Lib.hid (HQ0.out.below hb1 HQ0.out.lt)
  have HB1 := Lib.hid (HB0.out.trans (hb1.mono HB0.out.size))
  clear hb1
  have c1_0_0 := HQ1_0.out.cell 0
  have c1_0_1 := HQ1_0.out.cell 1
  have z1_0 := HQ1_0.out.lt
  simp at c1_0_0 c1_0_1
  go_wp2_with fail
  go_ret3
  exact ⟨rfl, HB1.out⟩
set_option maxRecDepth 20000 in
set_option maxHeartbeats 4000000 in
theorem Day_off {p c b D : Nat} {P n : Int} (hb : b = 1 ∨ b = 2) (h0 : 0 ≤ n) (h1 : n < 3652058) (hD : accB b (n + 1) - accB b n = (D : Int)) (h : ¬ okB p b P D c) (w : World) (hw : Lens w) :
    Calls Tryz.prog 110 #[rv p b, .int .i64 P, .int .i32 n, .int .u64 (c : Int)] w (Ret (.tuple #[.int .i64 0, .int .u64 0, eno 1]) w) := by
  have HW := Lib.hid hw
  have hO := fun W (hW : Lens W) => One_ok (b : Int) n (by omega) h0 h1 W hW
  rw [hD] at hO
  have hDs := fun W => Days_no (P := P) (d := D) (c := c) (p := p) (b := b) h W
  unfold eno at hDs ⊢
  unfold rv at hDs ⊢
  clear hb hD h hw h0 h1
  go_enter Tryz.func110, Tryz.ntmps110
  have HQ0 := Lib.hid (Blk.new w 25 #[.int .u32 (p : Int), .int .u8 (b : Int)])
  have HB0 := Lib.hid (b_alloc w (.cells #[.int .u32 (p : Int), .int .u8 (b : Int)] 25))
  go_wp2_with fail
  refine (hO _ (HW.out.below HB0.out)).mono ?_
  rintro e w1 ⟨rfl, hb1⟩
  have HQ1_0 := Lib.hid (HQ0.out.below hb1 HQ0.out.lt)
  have HB1 := Lib.hid (HB0.out.trans (hb1.mono HB0.out.size))
  clear hb1
  have c1_0_0 := HQ1_0.out.cell 0
  have c1_0_1 := HQ1_0.out.cell 1
  have z1_0 := HQ1_0.out.lt
  simp at c1_0_0 c1_0_1
  go_wp2_with fail
  refine (hDs _).mono ?_
  rintro e w2 ⟨rfl, hb2⟩
  have HQ2_0 := Lib.hid (HQ1_0.out.below hb2 HQ1_0.out.lt)
  have HB2 := Lib.hid (HB1.out.trans (hb2.mono HB1.out.size))
  clear hb2 c1_0_0 c1_0_1 z1_0
  have c2_0_0 := HQ2_0.out.cell 0
  have c2_0_1 := HQ2_0.out.cell 1
  have z2_0 := HQ2_0.out.lt
  simp at c2_0_0 c2_0_1
  go_wp2_with fail
  go_ret3
  exact ⟨rfl, HB2.out⟩
theorem one_nat {b : Nat} {n : Int} (h0 : 0 ≤ n) (h1 : n < 3652058) : ∃ D : Nat, accB b (n + 1) - accB b n = (D : Int) ∧ D ≤ 3 := by
  obtain ⟨g0, g1⟩ := accB_step b n h0 h1
  exact ⟨(accB b (n + 1) - accB b n).toNat, by omega, by omega⟩
theorem Day_no {p c b : Nat} {P n : Int} (h : ¬ (okB p b P 0 c ∧ 0 ≤ n ∧ n < 3652058)) (hn : -2147483648 ≤ n ∧ n ≤ 2147483647) (w : World) (hw : Lens w) :
    Calls Tryz.prog 110 #[rv p b, .int .i64 P, .int .i32 n, .int .u64 (c : Int)] w (Ret (.tuple #[.int .i64 0, .int .u64 0, eno 1]) w) := by
  by_cases hb : b = 1 ∨ b = 2
  · by_cases h0 : 0 ≤ n
    · by_cases h1 : n < 3652058
      · obtain ⟨D, hD, hD3⟩ := one_nat (b := b) h0 h1
        refine Day_off hb h0 h1 hD (fun hk => h ⟨?_, h0, h1⟩) w hw
        obtain ⟨a1, a2, a3, -, -, a6⟩ := hk
        exact ⟨a1, a2, a3, by omega, by omega, a6⟩
      · exact Day_bad (Or.inr (Or.inr (by omega))) hn w hw
    · exact Day_bad (Or.inr (Or.inl (by omega))) hn w hw
  · exact Day_bad (Or.inl hb) hn w hw

set_option maxRecDepth 20000 in
set_option maxHeartbeats 4000000 in
theorem RDay_1 {P p c D : Nat} {n : Int} (hP : P ≤ 1000000000000) (hp : p ≤ 1000000) (_ : 0 ≤ n) (_ : n < 3652058) (hc : c < 365000000) (hD : accB 1 (n + 1) - accB 1 n = (D : Int)) (hD3 : D ≤ 3) (w : World) :
    Calls Tryz.prog 17 #[rr p false, .int .i64 (P : Int), .int .i64 n, .int .u64 (c : Int)] w (Ret (.tuple #[.int .i64 (((P * p * D + c) / 365000000 : Nat) : Int), .int .u64 (((P * p * D + c) % 365000000 : Nat) : Int)]) w) := by
  have hO := fun W => ROne_act n W
  rw [hD] at hO
  have hRD := fun W => RDays_any (P := P) (p := p) (d := D) (c := c) (U := 365000000) (th := false) hP hp (by omega) (by omega) (by omega) hc (fun W => RUnit_1 p W) W
  obtain ⟨q, hq⟩ : ∃ q, (P * p * D + c) / 365000000 = q := ⟨_, rfl⟩
  obtain ⟨s, hs⟩ : ∃ s, (P * p * D + c) % 365000000 = s := ⟨_, rfl⟩
  rw [hq, hs] at hRD ⊢
  unfold rr at hRD ⊢
  clear hP hp hc hD hD3 hq hs
  go_enter Tryz.func17, Tryz.ntmps17
  have HQ0 := Lib.hid (Blk.new w 71 #[.int .u32 (p : Int), .bool false])
  have HB0 := Lib.hid (b_alloc w (.cells #[.int .u32 (p : Int), .bool false] 71))
  go_wp2_with fail
  have q1_0_0 := cell_regrown (HQ0.out.cell 0)
  have q1_0_1 := cell_regrown (HQ0.out.cell 1)
  simp at q1_0_0 q1_0_1
  have A1_0 := fun (dd : Nat) (os : Array Obj) => Calls.regrown_of (hO (Go.Sort.grow (redrawn (w.alloc (.cells #[.int .u32 (p : Int), .bool false] 71)) dd) os))
  have A1_1 := fun (dd : Nat) (os : Array Obj) => Calls.regrown_of (hRD (Go.Sort.grow (redrawn (w.alloc (.cells #[.int .u32 (p : Int), .bool false] 71)) dd) os))
  refine wp_region_quiet_below (by kernel_rfl) (by kernel_rfl) ?_
  repeat (go_big_quiet_step (first | (go_at_call 36; exact A1_0 _ _) | (go_at_call 35; exact A1_1 _ _)))
  refine wpQuiet_nil ?_
  intro w1 hw1
  have hb1 : Below (w.alloc (.cells #[.int .u32 (p : Int), .bool false] 71)).heap.size (w.alloc (.cells #[.int .u32 (p : Int), .bool false] 71)) w1 := by
    obtain ⟨p, rfl⟩ := hw1
    exact below_regrown _ _ _
  clear hw1 q1_0_0 q1_0_1 A1_0 A1_1
  have HQ1_0 := Lib.hid (HQ0.out.below hb1 HQ0.out.lt)
  have HB1 := Lib.hid (HB0.out.trans (hb1.mono HB0.out.size))
  clear hb1
  have c1_0_0 := HQ1_0.out.cell 0
  have c1_0_1 := HQ1_0.out.cell 1
  have z1_0 := HQ1_0.out.lt
  simp at c1_0_0 c1_0_1
  go_wp2_with fail
  go_ret2
  exact ⟨rfl, HB1.out⟩
set_option maxRecDepth 20000 in
set_option maxHeartbeats 4000000 in
theorem RDay_2 {P p c D : Nat} {n : Int} (hP : P ≤ 1000000000000) (hp : p ≤ 1000000) (h0 : 0 ≤ n) (h1 : n < 3652058) (hc : c < 360000000) (hD : accB 2 (n + 1) - accB 2 n = (D : Int)) (hD3 : D ≤ 3) (w : World) :
    Calls Tryz.prog 17 #[rr p true, .int .i64 (P : Int), .int .i64 n, .int .u64 (c : Int)] w (Ret (.tuple #[.int .i64 (((P * p * D + c) / 360000000 : Nat) : Int), .int .u64 (((P * p * D + c) % 360000000 : Nat) : Int)]) w) := by
  have hO := fun W => ROne_thi n h0 h1 W
  rw [hD] at hO
  have hRD := fun W => RDays_any (P := P) (p := p) (d := D) (c := c) (U := 360000000) (th := true) hP hp (by omega) (by omega) (by omega) hc (fun W => RUnit_2 p W) W
  obtain ⟨q, hq⟩ : ∃ q, (P * p * D + c) / 360000000 = q := ⟨_, rfl⟩
  obtain ⟨s, hs⟩ : ∃ s, (P * p * D + c) % 360000000 = s := ⟨_, rfl⟩
  rw [hq, hs] at hRD ⊢
  unfold rr at hRD ⊢
  clear hP hp hc hD hD3 hq hs
  go_enter Tryz.func17, Tryz.ntmps17
  have HQ0 := Lib.hid (Blk.new w 71 #[.int .u32 (p : Int), .bool true])
  have HB0 := Lib.hid (b_alloc w (.cells #[.int .u32 (p : Int), .bool true] 71))
  go_wp2_with fail
  have q1_0_0 := cell_regrown (HQ0.out.cell 0)
  have q1_0_1 := cell_regrown (HQ0.out.cell 1)
  simp at q1_0_0 q1_0_1
  have A1_0 := fun (dd : Nat) (os : Array Obj) => Calls.regrown_of (hO (Go.Sort.grow (redrawn (w.alloc (.cells #[.int .u32 (p : Int), .bool true] 71)) dd) os))
  have A1_1 := fun (dd : Nat) (os : Array Obj) => Calls.regrown_of (hRD (Go.Sort.grow (redrawn (w.alloc (.cells #[.int .u32 (p : Int), .bool true] 71)) dd) os))
  refine wp_region_quiet_below (by kernel_rfl) (by kernel_rfl) ?_
  repeat (go_big_quiet_step (first | (go_at_call 36; exact A1_0 _ _) | (go_at_call 35; exact A1_1 _ _)))
  refine wpQuiet_nil ?_
  intro w1 hw1
  have hb1 : Below (w.alloc (.cells #[.int .u32 (p : Int), .bool true] 71)).heap.size (w.alloc (.cells #[.int .u32 (p : Int), .bool true] 71)) w1 := by
    obtain ⟨p, rfl⟩ := hw1
    exact below_regrown _ _ _
  clear hw1 q1_0_0 q1_0_1 A1_0 A1_1
  have HQ1_0 := Lib.hid (HQ0.out.below hb1 HQ0.out.lt)
  have HB1 := Lib.hid (HB0.out.trans (hb1.mono HB0.out.size))
  clear hb1
  have c1_0_0 := HQ1_0.out.cell 0
  have c1_0_1 := HQ1_0.out.cell 1
  have z1_0 := HQ1_0.out.lt
  simp at c1_0_0 c1_0_1
  go_wp2_with fail
  go_ret2
  exact ⟨rfl, HB1.out⟩
end Go.Proofs.YtpbfipeinblfgaaGreatDoor
