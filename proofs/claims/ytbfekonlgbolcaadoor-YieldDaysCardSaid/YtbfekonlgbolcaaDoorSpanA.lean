/-
  span: Days, thirty, Year, One; the references' Days and One; the document's example. Conditions: the months' lengths and strconv's powers of ten are laid.
-/
import Derived.Test.YtbfekonlgbolcaaDoorSpanM
import Derived.Test.YtbfekonlgbolcaaDoorDateH
import Derived.Lib.ItoaNum
import Derived.Lib.AtoiAll
import Derived.Lib.Atoi
import Derived.Lib.AtoiErrMem
namespace Go.Proofs.YtbfekonlgbolcaaDoor
open Go.RowKit

theorem ret_two {k : IntKind} {a b : Int} {v : Value} (h : a = b) : Ending.returned (.tuple #[.int k a, v]) = .returned (.tuple #[.int k b, v]) := by rw [h]
theorem dayB_true {d : Int} (h0 : 0 ≤ d) (h1 : d ≤ 3652058) (W : World) : Calls Tryd.prog 54 #[.int .i32 d] W fun e w' => e = .returned (.bool true) ∧ W = w' := by
  have := DRight_any d W
  rw [day_yes h0 h1] at this
  exact this
theorem dayB_false {d : Int} (h : d < 0 ∨ 3652058 < d) (W : World) : Calls Tryd.prog 54 #[.int .i32 d] W fun e w' => e = .returned (.bool false) ∧ W = w' := by
  have := DRight_any d W
  rw [day_no h] at this
  exact this

set_option maxRecDepth 20000 in
set_option maxHeartbeats 1000000 in
theorem thirty_any (n k : Int) (h0 : 0 ≤ n) (h1 : n ≤ 3652058) (k0 : 0 ≤ k) (k1 : k ≤ 3652058) (w : World) (hw : Lens w) :
    Calls Tryd.prog 57 #[.int .i32 n, .int .i32 k] w fun e w' => e = .returned (.tuple #[.int .i64 (thirty n k), .nilIface]) ∧ Below w.heap.size w w' := by
  obtain ⟨y1, y2, m1, m2, d1, d2, d3⟩ := civ_in n h0 h1
  obtain ⟨x1, x2, u1, u2, v1, v2, v3⟩ := civ_in k k0 k1
  have hA := fun W (hW : Lens W) => DCivil_any n W h0 h1 hW
  have hB := fun W (hW : Lens W) => DCivil_any k W k0 k1 hW
  have hT : thirty n k = 360 * (cY k - cY n) + 30 * (cM k - cM n) + (if min (cD n) 30 = 30 then min (cD k) 30 else cD k) - min (cD n) 30 := rfl
  generalize thirty n k = T at *
  generalize cY n = Y at *
  generalize cM n = M at *
  generalize cD n = D at *
  generalize cY k = Y' at *
  generalize cM k = M' at *
  generalize cD k = D' at *
  have HT := Lib.hid hT
  have HW := Lib.hid hw
  clear hT d2 v2 hw
  go_enter Tryd.func57, Tryd.ntmps57
  go_wp2_with fail
  refine (hA _ HW.out).mono ?_
  rintro e w1 ⟨rfl, hb1⟩
  have hk1 := Blk.new w1 96 #[.int .i64 Y, .int .i64 M, .int .i64 D]
  have hb1a := hb1.alloc hb1.size (.cells #[.int .i64 Y, .int .i64 M, .int .i64 D] 96)
  have HK1 := Lib.hid hk1
  have HB1 := Lib.hid hb1a
  clear hb1 hk1 hb1a
  go_wp2_with fail
  refine (hB _ (HW.out.below HB1.out)).mono ?_
  rintro e w2 ⟨rfl, hb2⟩
  have hk2 := HK1.out.below hb2 HK1.out.lt
  have HB2 := Lib.hid (HB1.out.trans (hb2.mono HB1.out.size))
  have c0 := hk2.cell 0
  have c1 := hk2.cell 1
  have c2 := hk2.cell 2
  have z := hk2.lt
  simp at c0 c1 c2
  clear hb2 hk2 hA hB
  by_cases hD : D < 30
  · have hm : min D 30 = D := Int.min_eq_left (by omega)
    have e : T = 360 * (Y' - Y) + 30 * (M' - M) + D' - D := by rw [HT.out, hm, if_neg (by omega)]
    have hne : (D == 30) = false := by rw [beq_eq_false_iff_ne]; omega
    have hne2 : ¬ D = 30 := by omega
    subst e
    clear HT
    go_wp2_with fail
    go_ret2
    exact ⟨rfl, HB2.out.alloc HB2.out.size _⟩
  · have hm : min D 30 = 30 := Int.min_eq_right (by omega)
    have e : T = 360 * (Y' - Y) + 30 * (M' - M) + min D' 30 - 30 := by rw [HT.out, hm, if_pos rfl]
    have hx : 1 ≤ min D' 30 ∧ min D' 30 ≤ 30 := by omega
    by_cases hE : D' < 30
    · have hX : min D' 30 = D' := Int.min_eq_left (by omega)
      rw [hX] at e hx
      subst e
      clear HT
      go_wp2_with fail
      all_goals
        go_ret2
        refine ⟨?_, HB2.out.alloc HB2.out.size _⟩
        first | rfl | exact ret_two (by omega)
    · have hX : min D' 30 = 30 := Int.min_eq_right (by omega)
      rw [hX] at e hx
      have e2 : T = 360 * (Y' - Y) + 30 * (M' - M) := by omega
      subst e2
      clear HT e
      go_wp2_with fail
      all_goals
        go_ret2
        refine ⟨?_, HB2.out.alloc HB2.out.size _⟩
        first | rfl | exact ret_two (by omega)

/-- Days between, by the basis. -/
def daysB (b n k : Int) : Int := if b = 1 then k - n else thirty n k
set_option maxRecDepth 20000 in
set_option maxHeartbeats 1000000 in
theorem SDays_ok (b n k : Int) (hb : b = 1 ∨ b = 2) (h0 : 0 ≤ n) (h : n ≤ k) (k1 : k ≤ 3652058) (w : World) (hw : Lens w) :
    Calls Tryd.prog 45 #[.int .u8 b, .int .i32 n, .int .i32 k] w fun e w' => e = .returned (.tuple #[.int .i64 (daysB b n k), .nilIface]) ∧ Below w.heap.size w w' := by
  have r1 := fun W => dayB_true h0 (show n ≤ 3652058 by omega) W
  have r2 := fun W => dayB_true (show 0 ≤ k by omega) k1 W
  have hT := fun W (hW : Lens W) => thirty_any n k h0 (by omega) (by omega) k1 W hW
  rcases hb with rfl | rfl
  · have hd : daysB 1 n k = k - n := rfl
    rw [hd]
    clear hT hd
    go_enter Tryd.func45, Tryd.ntmps45
    go_wp2_with fail
    refine (r1 _).mono ?_
    rintro e w1 ⟨rfl, rfl⟩
    go_wp2_with fail
    refine (r2 _).mono ?_
    rintro e w1 ⟨rfl, rfl⟩
    go_wp2_with fail
    go_ret2
    exact ⟨rfl, Below.refl _ _⟩
  · have hd : daysB 2 n k = thirty n k := rfl
    rw [hd]
    clear hd
    go_enter Tryd.func45, Tryd.ntmps45
    go_wp2_with fail
    refine (r1 _).mono ?_
    rintro e w1 ⟨rfl, rfl⟩
    go_wp2_with fail
    refine (r2 _).mono ?_
    rintro e w1 ⟨rfl, rfl⟩
    go_wp2_with fail
    refine (hT _ hw).mono ?_
    rintro e w2 ⟨rfl, hb2⟩
    go_wp2_with fail
    go_ret2
    exact ⟨rfl, hb2⟩
end Go.Proofs.YtbfekonlgbolcaaDoor
