/-
  span: Days where it is an error, One, Year; the references' Days and One; the document's example. Conditions: the months' lengths and strconv's powers of ten are laid.
-/
import Derived.Test.YtbfekonlgbolcaaDoorSpanA
namespace Go.Proofs.YtbfekonlgbolcaaDoor
open Go.RowKit

set_option maxRecDepth 20000 in
set_option maxHeartbeats 1000000 in
theorem SDays_no (b n k : Int) (h : (b ≠ 1 ∧ b ≠ 2) ∨ n < 0 ∨ 3652058 < n ∨ k < 0 ∨ 3652058 < k ∨ k < n) (w : World) :
    Calls Tryd.prog 45 #[.int .u8 b, .int .i32 n, .int .i32 k] w fun e w' => e = .returned (.tuple #[.int .i64 0, .iface 38 (.int .i64 1)]) ∧ Below w.heap.size w w' := by
  by_cases hn : n < 0 ∨ 3652058 < n
  · have r1 := fun W => dayB_false hn W
    clear h hn
    go_enter Tryd.func45, Tryd.ntmps45
    go_wp2_with fail
    refine (r1 _).mono ?_
    rintro e w1 ⟨rfl, rfl⟩
    go_wp2_with fail
    go_ret2
    exact ⟨rfl, Below.refl _ _⟩
  · have r1 := fun W => dayB_true (show 0 ≤ n by omega) (show n ≤ 3652058 by omega) W
    by_cases hk : k < 0 ∨ 3652058 < k
    · have r2 := fun W => dayB_false hk W
      clear h hn hk
      go_enter Tryd.func45, Tryd.ntmps45
      go_wp2_with fail
      refine (r1 _).mono ?_
      rintro e w1 ⟨rfl, rfl⟩
      go_wp2_with fail
      refine (r2 _).mono ?_
      rintro e w1 ⟨rfl, rfl⟩
      go_wp2_with fail
      go_ret2
      exact ⟨rfl, Below.refl _ _⟩
    · have r2 := fun W => dayB_true (show 0 ≤ k by omega) (show k ≤ 3652058 by omega) W
      by_cases hkn : k < n
      · clear h hn hk
        go_enter Tryd.func45, Tryd.ntmps45
        go_wp2_with fail
        refine (r1 _).mono ?_
        rintro e w1 ⟨rfl, rfl⟩
        go_wp2_with fail
        refine (r2 _).mono ?_
        rintro e w1 ⟨rfl, rfl⟩
        go_wp2_with fail
        go_ret2
        exact ⟨rfl, Below.refl _ _⟩
      · have hb : b ≠ 1 ∧ b ≠ 2 := by omega
        have b1 : (b == 1) = false := by rw [beq_eq_false_iff_ne]; exact hb.1
        have b2 : (b == 2) = false := by rw [beq_eq_false_iff_ne]; exact hb.2
        obtain ⟨b3, b4⟩ := hb
        clear h hn hk
        go_enter Tryd.func45, Tryd.ntmps45
        go_wp2_with fail
        refine (r1 _).mono ?_
        rintro e w1 ⟨rfl, rfl⟩
        go_wp2_with fail
        refine (r2 _).mono ?_
        rintro e w1 ⟨rfl, rfl⟩
        go_wp2_with fail
        go_ret2
        exact ⟨rfl, Below.refl _ _⟩

theorem one_eq (b n : Int) (hb : b = 1 ∨ b = 2) (h0 : 0 ≤ n) (h1 : n < 3652058) :
    daysB b (n - (cD n - 1)) (n + 1) - daysB b (n - (cD n - 1)) n = accB b (n + 1) - accB b n := by
  obtain ⟨-, -, -, -, hf⟩ := first_of n h0 (by omega)
  rcases hb with rfl | rfl
  · show (n + 1 - (n - (cD n - 1))) - (n - (n - (cD n - 1))) = (n + 1) - n
    omega
  · show thirty _ _ - thirty _ _ = acc (n + 1) - acc n
    rw [thirty_first hf, thirty_first hf]
    omega
theorem daysB_bd (b n k : Int) (hb : b = 1 ∨ b = 2) (h0 : 0 ≤ n) (k1 : k ≤ 3652058) (h : n ≤ k) : 0 ≤ daysB b n k ∧ daysB b n k ≤ 4000000 := by
  rcases hb with rfl | rfl
  · show 0 ≤ k - n ∧ k - n ≤ 4000000
    omega
  · exact thirty_bd h0 k1 h

set_option maxRecDepth 20000 in
set_option maxHeartbeats 1000000 in
theorem One_ok (b n : Int) (hb : b = 1 ∨ b = 2) (h0 : 0 ≤ n) (h1 : n < 3652058) (w : World) (hw : Lens w) :
    Calls Tryd.prog 32 #[.int .u8 b, .int .i32 n] w fun e w' => e = .returned (.tuple #[.int .i64 (accB b (n + 1) - accB b n), .nilIface]) ∧ Below w.heap.size w w' := by
  obtain ⟨y1, y2, m1, m2, d1, d2, d3⟩ := civ_in n h0 (by omega)
  obtain ⟨f0, f1, -, -, -⟩ := first_of n h0 (by omega)
  have hC := fun W (hW : Lens W) => DCivil_any n W h0 (by omega) hW
  have hA := fun W (hW : Lens W) => SDays_ok b (n - (cD n - 1)) n hb f0 f1 (by omega) W hW
  have hB := fun W (hW : Lens W) => SDays_ok b (n - (cD n - 1)) (n + 1) hb f0 (by omega) (by omega) W hW
  have hE := one_eq b n hb h0 h1
  have bA := daysB_bd b (n - (cD n - 1)) n hb f0 (by omega) f1
  have bB := daysB_bd b (n - (cD n - 1)) (n + 1) hb f0 (by omega) (by omega)
  rw [← hE]
  generalize daysB b (n - (cD n - 1)) n = U at *
  generalize daysB b (n - (cD n - 1)) (n + 1) = V at *
  generalize cY n = Y at *
  generalize cM n = M at *
  generalize cD n = D at *
  have HW := Lib.hid hw
  clear hE hb d2 hw
  go_enter Tryd.func32, Tryd.ntmps32
  go_wp2_with fail
  refine (hC _ HW.out).mono ?_
  rintro e w1 ⟨rfl, hb1⟩
  have HB1 := Lib.hid (hb1.alloc hb1.size (.cells #[.int .i64 Y, .int .i64 M, .int .i64 D] 96))
  clear hb1
  go_wp2_with fail
  refine (hA _ (HW.out.below HB1.out)).mono ?_
  rintro e w2 ⟨rfl, hb2⟩
  have HB2 := Lib.hid (HB1.out.trans (hb2.mono HB1.out.size))
  clear hb2
  go_wp2_with fail
  refine (hB _ (HW.out.below HB2.out)).mono ?_
  rintro e w3 ⟨rfl, hb3⟩
  have HB3 := Lib.hid (HB2.out.trans (hb3.mono HB2.out.size))
  clear hb3
  go_wp2_with fail
  go_ret2
  exact ⟨rfl, HB3.out⟩

set_option maxRecDepth 20000 in
set_option maxHeartbeats 1000000 in
theorem One_no (b n : Int) (h : (b ≠ 1 ∧ b ≠ 2) ∨ n < 0 ∨ 3652058 ≤ n) (hn : -2147483648 ≤ n ∧ n ≤ 2147483647) (w : World) (hw : Lens w) :
    Calls Tryd.prog 32 #[.int .u8 b, .int .i32 n] w fun e w' => e = .returned (.tuple #[.int .i64 0, .iface 38 (.int .i64 1)]) ∧ Below w.heap.size w w' := by
  by_cases hr : n < 0 ∨ 3652058 < n
  · have hC := fun W => DCivil_no n hr W
    clear h hr
    go_enter Tryd.func32, Tryd.ntmps32
    go_wp2_with fail
    refine (hC _).mono ?_
    rintro e w1 ⟨rfl, hb1⟩
    have HB1 := Lib.hid (hb1.alloc hb1.size (.cells #[.int .i64 0, .int .i64 0, .int .i64 0] 96))
    clear hb1
    go_wp2_with fail
    go_ret2
    exact ⟨rfl, HB1.out⟩
  · have h0 : 0 ≤ n := by omega
    have h1 : n ≤ 3652058 := by omega
    obtain ⟨y1, y2, m1, m2, d1, d2, d3⟩ := civ_in n h0 h1
    obtain ⟨f0, f1, -, -, -⟩ := first_of n h0 h1
    have hC := fun W (hW : Lens W) => DCivil_any n W h0 h1 hW
    have HW := Lib.hid hw
    by_cases hb : b = 1 ∨ b = 2
    · have hn' : n = 3652058 := by omega
      have hA := fun W (hW : Lens W) => SDays_ok b (n - (cD n - 1)) n hb f0 f1 (by omega) W hW
      have hB := fun W => SDays_no b (n - (cD n - 1)) (n + 1) (by omega) W
      have hs : n + 1 ≤ 3652059 := by omega
      generalize daysB b (n - (cD n - 1)) n = U at *
      generalize cY n = Y at *
      generalize cM n = M at *
      generalize cD n = D at *
      clear h hr hb d2 hw hn'
      go_enter Tryd.func32, Tryd.ntmps32
      go_wp2_with fail
      refine (hC _ HW.out).mono ?_
      rintro e w1 ⟨rfl, hb1⟩
      have HB1 := Lib.hid (hb1.alloc hb1.size (.cells #[.int .i64 Y, .int .i64 M, .int .i64 D] 96))
      clear hb1
      go_wp2_with fail
      refine (hA _ (HW.out.below HB1.out)).mono ?_
      rintro e w2 ⟨rfl, hb2⟩
      have HB2 := Lib.hid (HB1.out.trans (hb2.mono HB1.out.size))
      clear hb2
      go_wp2_with fail
      refine (hB _).mono ?_
      rintro e w3 ⟨rfl, hb3⟩
      have HB3 := Lib.hid (HB2.out.trans (hb3.mono HB2.out.size))
      clear hb3
      go_wp2_with fail
      go_ret2
      exact ⟨rfl, HB3.out⟩
    · have hA := fun W => SDays_no b (n - (cD n - 1)) n (by omega) W
      generalize cY n = Y at *
      generalize cM n = M at *
      generalize cD n = D at *
      clear h hr hb d2 hw
      go_enter Tryd.func32, Tryd.ntmps32
      go_wp2_with fail
      refine (hC _ HW.out).mono ?_
      rintro e w1 ⟨rfl, hb1⟩
      have HB1 := Lib.hid (hb1.alloc hb1.size (.cells #[.int .i64 Y, .int .i64 M, .int .i64 D] 96))
      clear hb1
      go_wp2_with fail
      refine (hA _).mono ?_
      rintro e w2 ⟨rfl, hb2⟩
      have HB2 := Lib.hid (HB1.out.trans (hb2.mono HB1.out.size))
      clear hb2
      go_wp2_with fail
      go_ret2
      exact ⟨rfl, HB2.out⟩
end Go.Proofs.YtbfekonlgbolcaaDoor
