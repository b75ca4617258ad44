/-
  SpanCounts: the walk. Conditions: the numbers' kinds; errors.errorType, the months' lengths and strconv's powers of ten are laid.
-/
import Derived.Test.YthbifpmjkaonnaaDoorSpanC
import Derived.Test.YthbifpmjkaonnaaDoorCodeC
namespace Go.Proofs.YthbifpmjkaonnaaDoor
open Go.RowKit

set_option maxHeartbeats 1000000 in
theorem right6_any (d : Int) (w : World) : Calls Tryd.prog 45 #[.int .i32 d] w fun e w' => e = .returned (.bool (dayB d)) ∧ w = w' := by
  by_cases h0 : 0 ≤ d
  · by_cases h1 : d ≤ 3652058
    · rw [day_yes h0 h1]
      go_enter Tryd.func45, Tryd.ntmps45
      go_wp2
      go_ret
      exact ⟨rfl, rfl⟩
    · rw [day_no (by omega)]
      go_enter Tryd.func45, Tryd.ntmps45
      go_wp2
      go_ret
      exact ⟨rfl, rfl⟩
  · rw [day_no (by omega)]
    go_enter Tryd.func45, Tryd.ntmps45
    go_wp2
    go_ret
    exact ⟨rfl, rfl⟩
theorem right6_yes {d : Int} (h0 : 0 ≤ d) (h1 : d ≤ 3652058) (W : World) : Calls Tryd.prog 45 #[.int .i32 d] W fun e w' => e = .returned (.bool true) ∧ W = w' := by
  have := right6_any d W
  rw [day_yes h0 h1] at this
  exact this
theorem right6_no {d : Int} (h : d < 0 ∨ 3652058 < d) (W : World) : Calls Tryd.prog 45 #[.int .i32 d] W fun e w' => e = .returned (.bool false) ∧ W = w' := by
  have := right6_any d W
  rw [day_no h] at this
  exact this

set_option maxRecDepth 20000 in
set_option maxHeartbeats 2000000 in
theorem Counts_ok (b n k : Int) (hb : b = 1 ∨ b = 2) (h0 : 0 ≤ n) (h : n ≤ k) (k1 : k ≤ 3652058) (w : World) (hw : Lens w) (hp : Pows w) :
    Calls Tryd.prog 10 #[.int .u8 b, .int .i32 n, .int .i32 k] w fun e w' => e = .returned (.bool true) ∧ Below w.heap.size w w' := by
  have hD := fun W (hW : Lens W) => Days_ok b n k hb h0 h k1 W hW
  have r1 := fun W => right6_yes h0 (show n ≤ 3652058 by omega) W
  have r2 := fun W => right6_yes (show 0 ≤ k by omega) k1 W
  have hRa := fun W => RDays_act n k h0 h k1 W
  have hRt := fun W => RDays_thi n k h0 h k1 W
  have hbd := daysB_bd b n k hb h0 k1 h
  have HW := Lib.hid hw
  have HP := Lib.hid hp
  clear hw hp
  rcases hb with rfl | rfl
  · clear hRt
    generalize daysB 1 n k = T at *
    go_enter Tryd.func10, Tryd.ntmps10
    go_wp2_with fail
    refine (awake6 _ HW.out HP.out).mono ?_
    rintro e w1 ⟨rfl, hb1⟩
    go_wp2_with fail
    refine (hD _ (HW.out.below hb1)).mono ?_
    rintro e w2 ⟨rfl, hb2⟩
    have HB2 := Lib.hid (hb1.trans (hb2.mono hb1.size))
    clear hb1 hb2
    go_wp2_with fail
    refine (r1 _).mono ?_
    rintro e w3 ⟨rfl, rfl⟩
    go_wp2_with fail
    refine (r2 _).mono ?_
    rintro e w3 ⟨rfl, rfl⟩
    go_wp2_with fail
    refine (hRa _).mono ?_
    rintro e w3 ⟨rfl, hb3⟩
    go_wp2_with fail
    go_ret
    exact ⟨by simp, HB2.out.trans (hb3.mono HB2.out.size)⟩
  · clear hRa
    generalize daysB 2 n k = T at *
    go_enter Tryd.func10, Tryd.ntmps10
    go_wp2_with fail
    refine (awake6 _ HW.out HP.out).mono ?_
    rintro e w1 ⟨rfl, hb1⟩
    go_wp2_with fail
    refine (hD _ (HW.out.below hb1)).mono ?_
    rintro e w2 ⟨rfl, hb2⟩
    have HB2 := Lib.hid (hb1.trans (hb2.mono hb1.size))
    clear hb1 hb2
    go_wp2_with fail
    refine (r1 _).mono ?_
    rintro e w3 ⟨rfl, rfl⟩
    go_wp2_with fail
    refine (r2 _).mono ?_
    rintro e w3 ⟨rfl, rfl⟩
    go_wp2_with fail
    refine (hRt _).mono ?_
    rintro e w3 ⟨rfl, hb3⟩
    go_wp2_with fail
    go_ret
    exact ⟨by simp, HB2.out.trans (hb3.mono HB2.out.size)⟩

set_option maxRecDepth 20000 in
set_option maxHeartbeats 2000000 in
theorem Counts_no (b n k : Int) (h : (b ≠ 1 ∧ b ≠ 2) ∨ n < 0 ∨ 3652058 < n ∨ k < 0 ∨ 3652058 < k ∨ k < n) (w : World) (hw : Lens w) (hp : Pows w) (hg : Laid w) :
    Calls Tryd.prog 10 #[.int .u8 b, .int .i32 n, .int .i32 k] w fun e w' => e = .returned (.bool true) ∧ Below w.heap.size w w' := by
  have hD := fun W => Days_no b n k h W
  have HW := Lib.hid hw
  have HP := Lib.hid hp
  have HG := Lib.hid hg
  clear hw hp hg
  by_cases hb : b = 1 ∨ b = 2
  · have hbb : ((b == 1) = true ∧ (b == 2) = false ∨ (b == 1) = false ∧ (b == 2) = true) := by
      rcases hb with rfl | rfl
      · exact Or.inl ⟨rfl, rfl⟩
      · exact Or.inr ⟨rfl, rfl⟩
    by_cases hn : n < 0 ∨ 3652058 < n
    · have r1 := fun W => right6_no hn W
      clear h hn hbb
      rcases hb with rfl | rfl
      all_goals
        go_enter Tryd.func10, Tryd.ntmps10
        go_wp2_with fail
        refine (awake6 _ HW.out HP.out).mono ?_
        rintro e w1 ⟨rfl, hb1⟩
        go_wp2_with fail
        refine (hD _).mono ?_
        rintro e w2 ⟨rfl, hb2⟩
        have HB2 := Lib.hid (hb1.trans (hb2.mono hb1.size))
        clear hb1 hb2
        go_wp2_with fail
        refine (r1 _).mono ?_
        rintro e w3 ⟨rfl, rfl⟩
        go_wp2_with fail
        refine (Code_errno 1 _ (HG.out.below HB2.out)).mono ?_
        rintro e w3 ⟨rfl, hb3⟩
        go_wp2_with fail
        go_ret
        exact ⟨rfl, HB2.out.trans (hb3.mono HB2.out.size)⟩
    · have r1 := fun W => right6_yes (show 0 ≤ n by omega) (show n ≤ 3652058 by omega) W
      by_cases hk : k < 0 ∨ 3652058 < k
      · have r2 := fun W => right6_no hk W
        clear h hn hk hbb
        rcases hb with rfl | rfl
        all_goals
          go_enter Tryd.func10, Tryd.ntmps10
          go_wp2_with fail
          refine (awake6 _ HW.out HP.out).mono ?_
          rintro e w1 ⟨rfl, hb1⟩
          go_wp2_with fail
          refine (hD _).mono ?_
          rintro e w2 ⟨rfl, hb2⟩
          have HB2 := Lib.hid (hb1.trans (hb2.mono hb1.size))
          clear hb1 hb2
          go_wp2_with fail
          refine (r1 _).mono ?_
          rintro e w3 ⟨rfl, rfl⟩
          go_wp2_with fail
          refine (r2 _).mono ?_
          rintro e w3 ⟨rfl, rfl⟩
          go_wp2_with fail
          refine (Code_errno 1 _ (HG.out.below HB2.out)).mono ?_
          rintro e w3 ⟨rfl, hb3⟩
          go_wp2_with fail
          go_ret
          exact ⟨rfl, HB2.out.trans (hb3.mono HB2.out.size)⟩
      · have r2 := fun W => right6_yes (show 0 ≤ k by omega) (show k ≤ 3652058 by omega) W
        have hkn : k < n := by omega
        clear h hn hk hbb
        rcases hb with rfl | rfl
        all_goals
          go_enter Tryd.func10, Tryd.ntmps10
          go_wp2_with fail
          refine (awake6 _ HW.out HP.out).mono ?_
          rintro e w1 ⟨rfl, hb1⟩
          go_wp2_with fail
          refine (hD _).mono ?_
          rintro e w2 ⟨rfl, hb2⟩
          have HB2 := Lib.hid (hb1.trans (hb2.mono hb1.size))
          clear hb1 hb2
          go_wp2_with fail
          refine (r1 _).mono ?_
          rintro e w3 ⟨rfl, rfl⟩
          go_wp2_with fail
          refine (r2 _).mono ?_
          rintro e w3 ⟨rfl, rfl⟩
          go_wp2_with fail
          refine (Code_errno 1 _ (HG.out.below HB2.out)).mono ?_
          rintro e w3 ⟨rfl, hb3⟩
          go_wp2_with fail
          go_ret
          exact ⟨rfl, HB2.out.trans (hb3.mono HB2.out.size)⟩
  · have b1 : (b == 1) = false := by rw [beq_eq_false_iff_ne]; omega
    have b2 : (b == 2) = false := by rw [beq_eq_false_iff_ne]; omega
    have b3 : (b != 1) = true := by rw [bne_iff_ne]; omega
    have b4 : (b != 2) = true := by rw [bne_iff_ne]; omega
    clear h hb
    go_enter Tryd.func10, Tryd.ntmps10
    go_wp2_with fail
    refine (awake6 _ HW.out HP.out).mono ?_
    rintro e w1 ⟨rfl, hb1⟩
    go_wp2_with fail
    refine (hD _).mono ?_
    rintro e w2 ⟨rfl, hb2⟩
    have HB2 := Lib.hid (hb1.trans (hb2.mono hb1.size))
    clear hb1 hb2
    go_wp2_with fail
    refine (Code_errno 1 _ (HG.out.below HB2.out)).mono ?_
    rintro e w3 ⟨rfl, hb3⟩
    go_wp2_with fail
    go_ret
    exact ⟨rfl, HB2.out.trans (hb3.mono HB2.out.size)⟩
theorem Counts_any (b n k : Int) (w : World) (hw : Lens w) (hp : Pows w) (hg : Laid w) :
    Calls Tryd.prog 10 #[.int .u8 b, .int .i32 n, .int .i32 k] w fun e w' => e = .returned (.bool true) ∧ Below w.heap.size w w' := by
  by_cases h : (b ≠ 1 ∧ b ≠ 2) ∨ n < 0 ∨ 3652058 < n ∨ k < 0 ∨ 3652058 < k ∨ k < n
  · exact Counts_no b n k h w hw hp hg
  · exact Counts_ok b n k (by omega) (by omega) (by omega) (by omega) w hw hp
end Go.Proofs.YthbifpmjkaonnaaDoor
