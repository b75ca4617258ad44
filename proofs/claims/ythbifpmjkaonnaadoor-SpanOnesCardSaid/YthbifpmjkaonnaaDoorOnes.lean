/-
  SpanOnes: the walk. Conditions: the numbers' kinds; errors.errorType, the months' lengths and strconv's powers of ten are laid.
-/
import Derived.Test.YthbifpmjkaonnaaDoorSpanC
import Derived.Test.YthbifpmjkaonnaaDoorCodeC
namespace Go.Proofs.YthbifpmjkaonnaaDoor
open Go.RowKit

theorem month_sum (b n : Int) (hb : b = 1 ∨ b = 2) (h0 : 0 ≤ n) (h1 : n ≤ 3652058) (hl : n - cD n + 1 + mlen (cY n) (cM n) ≤ 3652058) :
    accB b (n - cD n + 1 + mlen (cY n) (cM n)) - accB b (n - cD n + 1) = if b = 1 then mlen (cY n) (cM n) else 30 := by
  obtain ⟨f0, f1, fy, fm, fd⟩ := first_of n h0 h1
  rw [show n - (cD n - 1) = n - cD n + 1 by omega] at f0 f1 fy fm fd
  obtain ⟨y1, y2, m1, m2, d1, d2, d3⟩ := civ_in n h0 h1
  have lo := mlen_lo _ _ y1 y2 m1 m2
  rcases hb with rfl | rfl
  · show (n - cD n + 1 + mlen (cY n) (cM n)) - (n - cD n + 1) = _
    rw [if_pos rfl]
    omega
  · show acc _ - acc _ = _
    rw [if_neg (by decide)]
    have rl : rightB (cY n) (cM n) (mlen (cY n) (cM n)) = true := (right_iff _ _ _).2 (by omega)
    have e1 : num (cY n) (cM n) (mlen (cY n) (cM n)) = n - cD n + mlen (cY n) (cM n) := by
      have := (civ_right n h0 h1).2
      unfold num at *
      omega
    obtain ⟨g0, g1, gy, gm, gd⟩ := day_of rl
    rw [e1] at g0 g1 gy gm gd
    have st := acc_next (n - cD n + mlen (cY n) (cM n)) g0 (by omega)
    rw [gy, gm, gd, if_neg (by omega)] at st
    have e2 : acc (n - cD n + mlen (cY n) (cM n)) = 360 * cY n + 30 * cM n + mlen (cY n) (cM n) := by unfold acc; rw [gy, gm, gd]
    have e3 : acc (n - cD n + 1) = 360 * cY n + 30 * cM n + 1 := by unfold acc; rw [fy, fm, fd]
    rw [show n - cD n + 1 + mlen (cY n) (cM n) = n - cD n + mlen (cY n) (cM n) + 1 by omega]
    omega

set_option maxRecDepth 20000 in
set_option maxHeartbeats 2000000 in
theorem Ones_no (b n : Int) (h : (b ≠ 1 ∧ b ≠ 2) ∨ n < 0 ∨ 3652058 ≤ n) (hn : -2147483648 ≤ n ∧ n ≤ 2147483647) (w : World) (hw : Lens w) (hp : Pows w) (hg : Laid w) :
    Calls Tryd.prog 11 #[.int .u8 b, .int .i32 n] w fun e w' => e = .returned (.bool true) ∧ Below w.heap.size w w' := by
  have hO := fun W (hW : Lens W) => One_no b n h hn W hW
  have HW := Lib.hid hw
  have HP := Lib.hid hp
  have HG := Lib.hid hg
  clear hw hp hg
  by_cases hb : b = 1 ∨ b = 2
  · by_cases h0 : n < 0
    · clear h
      rcases hb with rfl | rfl
      all_goals
        go_enter Tryd.func11, Tryd.ntmps11
        go_wp2_with fail
        refine (awake6 _ HW.out HP.out).mono ?_
        rintro e w1 ⟨rfl, hb1⟩
        go_wp2_with fail
        refine (hO _ (HW.out.below hb1)).mono ?_
        rintro e w2 ⟨rfl, hb2⟩
        have HB2 := Lib.hid (hb1.trans (hb2.mono hb1.size))
        clear hb1 hb2
        go_wp2_with fail
        refine (Code_errno 1 _ (HG.out.below HB2.out)).mono ?_
        rintro e w3 ⟨rfl, hb3⟩
        go_wp2_with fail
        go_ret
        exact ⟨rfl, HB2.out.trans (hb3.mono HB2.out.size)⟩
    · have h1 : 3652058 ≤ n := by omega
      clear h
      rcases hb with rfl | rfl
      all_goals
        go_enter Tryd.func11, Tryd.ntmps11
        go_wp2_with fail
        refine (awake6 _ HW.out HP.out).mono ?_
        rintro e w1 ⟨rfl, hb1⟩
        go_wp2_with fail
        refine (hO _ (HW.out.below hb1)).mono ?_
        rintro e w2 ⟨rfl, hb2⟩
        have HB2 := Lib.hid (hb1.trans (hb2.mono hb1.size))
        clear hb1 hb2
        go_wp2_with fail
        refine (Code_errno 1 _ (HG.out.below HB2.out)).mono ?_
        rintro e w3 ⟨rfl, hb3⟩
        go_wp2_with fail
        go_ret
        exact ⟨rfl, HB2.out.trans (hb3.mono HB2.out.size)⟩
  · have b1 : (b == 1) = false := by rw [beq_eq_false_iff_ne]; omega
    have b2 : (b == 2) = false := by rw [beq_eq_false_iff_ne]; omega
    have b3 : (b != 1) = true := by rw [bne_iff_ne]; omega
    have b4 : (b != 2) = true := by rw [bne_iff_ne]; omega
    clear h hb
    go_enter Tryd.func11, Tryd.ntmps11
    go_wp2_with fail
    refine (awake6 _ HW.out HP.out).mono ?_
    rintro e w1 ⟨rfl, hb1⟩
    go_wp2_with fail
    refine (hO _ (HW.out.below hb1)).mono ?_
    rintro e w2 ⟨rfl, hb2⟩
    have HB2 := Lib.hid (hb1.trans (hb2.mono hb1.size))
    clear hb1 hb2
    go_wp2_with fail
    refine (Code_errno 1 _ (HG.out.below HB2.out)).mono ?_
    rintro e w3 ⟨rfl, hb3⟩
    go_wp2_with fail
    go_ret
    exact ⟨rfl, HB2.out.trans (hb3.mono HB2.out.size)⟩

set_option maxRecDepth 20000 in
set_option maxHeartbeats 2000000 in
theorem Ones_two (n : Int) (h0 : 0 ≤ n) (h1 : n < 3652058) (w : World) (hw : Lens w) (hp : Pows w) :
    Calls Tryd.prog 11 #[.int .u8 2, .int .i32 n] w fun e w' => e = .returned (.bool true) ∧ Below w.heap.size w w' := by
  have hO := fun W (hW : Lens W) => One_ok 2 n (Or.inr rfl) h0 h1 W hW
  have hR := fun W => ROne_thi n h0 h1 W
  have hC := fun W => RCivil_any n W h0 (by omega)
  have hL := fun W => RLength_any (cY n) (cM n) W
  have st := accB_step 2 n h0 h1
  obtain ⟨y1, y2, m1, m2, d1, d2, d3⟩ := civ_in n h0 (by omega)
  obtain ⟨f0, f1, fy, fm, fd⟩ := first_of n h0 (by omega)
  have ms := month_sum 2 n (Or.inr rfl) h0 (by omega)
  have lb := mlen_bd (cY n) (cM n)
  have lo := mlen_lo _ _ y1 y2 m1 m2
  generalize accB 2 (n + 1) - accB 2 n = T at *
  generalize mlen (cY n) (cM n) = L at *
  generalize cY n = Y at *
  generalize cM n = M at *
  generalize cD n = D at *
  rw [if_neg (by decide)] at ms
  have HM := Lib.hid ms
  have HW := Lib.hid hw
  have HP := Lib.hid hp
  clear hw hp ms fy fm fd d2
  go_enter Tryd.func11, Tryd.ntmps11
  go_wp2_with fail
  refine (awake6 _ HW.out HP.out).mono ?_
  rintro e w1 ⟨rfl, hb1⟩
  go_wp2_with fail
  refine (hO _ (HW.out.below hb1)).mono ?_
  rintro e w2 ⟨rfl, hb2⟩
  have HB2 := Lib.hid (hb1.trans (hb2.mono hb1.size))
  clear hb1 hb2
  go_wp2_with fail
  refine (hR _).mono ?_
  rintro e w3 ⟨rfl, hb3⟩
  have HB3 := Lib.hid (HB2.out.trans (hb3.mono HB2.out.size))
  clear hb3
  go_wp2_with fail
  refine (hC _).mono ?_
  rintro e w4 ⟨rfl, hb4⟩
  have hb34 := HB3.out.trans (hb4.mono HB3.out.size)
  have hk4 := Blk.new w4 46 #[.int .i64 Y, .int .i64 M, .int .i64 D]
  have HB4 := Lib.hid (hb34.alloc hb34.size (.cells #[.int .i64 Y, .int .i64 M, .int .i64 D] 46))
  clear hb4 hb34
  go_wp2_with fail
  refine (hL _).mono ?_
  rintro e w5 ⟨rfl, hb5⟩
  have HB5 := Lib.hid (HB4.out.trans (hb5.mono HB4.out.size))
  clear hb5 hk4
  by_cases hq : n - D + 1 + L ≤ 3652058
  · have hF : 0 ≤ n - D + 1 := by omega
    have hOne := fun (d : Int) W (h0 : 0 ≤ d) (h1 : d < 3652058) (hW : Lens W) => One_ok 2 d (Or.inr rfl) h0 h1 W hW
    have HMS := Lib.hid (HM.out hq)
    have ab := fun d => accB_bd 2 d
    have ast := fun d => accB_step 2 d
    have hC0 := Lib.hid ab
    have hC1 := Lib.hid ast
    clear HM ab ast
    obtain ⟨F, hFe⟩ : ∃ F, n - D + 1 = F := ⟨_, rfl⟩
    go_wp2_with fail
    rw [hFe] at hF hq HMS
    clear hFe
    go_loopw [10, 81] (fun s i wr => ∃ k : Int, 0 ≤ k ∧ k ≤ L ∧ i = .int .i64 k ∧ s = .int .i64 (accB 2 (F + k) - accB 2 F) ∧ Below w.heap.size w wr) (fun _ i _ => (31 - intOf i).toNat)
    case atStart => exact ⟨0, by omega, by omega, rfl, by rw [Int.add_zero, Int.sub_self], HB5.out⟩
    case round =>
      obtain ⟨k, k0, k1, rfl, rfl, hbr⟩ := hrel
      have HBR := Lib.hid hbr
      clear hbr
      have b1 := hC0.out (F + k) (by omega) (by omega)
      have b2 := hC0.out F (by omega) (by omega)
      by_cases hc : k < L
      · have b3 := hC0.out (F + k + 1) (by omega) (by omega)
        have b4 := hC1.out (F + k) (by omega) (by omega)
        have i1 : IntKind.i32.wrap (F + k) = F + k := by rw [IntKind.wrap_i32]; omega
        have HS := Lib.hid (show accB 2 (F + (k + 1)) - accB 2 F = (accB 2 (F + k) - accB 2 F) + (accB 2 (F + k + 1) - accB 2 (F + k)) by rw [show F + (k + 1) = F + k + 1 by omega]; omega)
        have hO := fun W (hW : Lens W) => hOne (F + k) W (by omega) (by omega) hW
        generalize accB 2 (F + k) = U at *
        generalize accB 2 (F + k + 1) = V at *
        generalize accB 2 F = Z at *
        clear hOne
        go_wp2_with fail
        refine (hO _ (HW.out.below HBR.out)).mono ?_
        rintro e w6 ⟨rfl, hb6⟩
        have HB6 := Lib.hid (HBR.out.trans (hb6.mono HBR.out.size))
        clear hb6
        go_wp2_with fail
        go_roundw
        case rel => exact ⟨k + 1, by omega, by omega, by go_num, by rw [HS.out] <;> go_num, HB6.out⟩
        case measure => simp [intOf]; omega
      · have hk : k = L := by omega
        subst hk
        have HE := Lib.hid HMS.out
        rw [HMS.out]
        go_wp2_with fail
        go_ret
        exact ⟨rfl, HBR.out⟩
  · go_wp2_with fail
    go_ret
    exact ⟨rfl, HB5.out⟩
set_option maxRecDepth 20000 in
set_option maxHeartbeats 2000000 in
theorem Ones_one (n : Int) (h0 : 0 ≤ n) (h1 : n < 3652058) (w : World) (hw : Lens w) (hp : Pows w) :
    Calls Tryd.prog 11 #[.int .u8 1, .int .i32 n] w fun e w' => e = .returned (.bool true) ∧ Below w.heap.size w w' := by
  have hO := fun W (hW : Lens W) => One_ok 1 n (Or.inl rfl) h0 h1 W hW
  have hR := fun W => ROne_act n W
  have hC := fun W => RCivil_any n W h0 (by omega)
  have hL := fun W => RLength_any (cY n) (cM n) W
  have st := accB_step 1 n h0 h1
  obtain ⟨y1, y2, m1, m2, d1, d2, d3⟩ := civ_in n h0 (by omega)
  obtain ⟨f0, f1, fy, fm, fd⟩ := first_of n h0 (by omega)
  have ms := month_sum 1 n (Or.inl rfl) h0 (by omega)
  have lb := mlen_bd (cY n) (cM n)
  have lo := mlen_lo _ _ y1 y2 m1 m2
  generalize accB 1 (n + 1) - accB 1 n = T at *
  generalize mlen (cY n) (cM n) = L at *
  generalize cY n = Y at *
  generalize cM n = M at *
  generalize cD n = D at *
  rw [if_pos rfl] at ms
  have HM := Lib.hid ms
  have HW := Lib.hid hw
  have HP := Lib.hid hp
  clear hw hp ms fy fm fd d2
  go_enter Tryd.func11, Tryd.ntmps11
  go_wp2_with fail
  refine (awake6 _ HW.out HP.out).mono ?_
  rintro e w1 ⟨rfl, hb1⟩
  go_wp2_with fail
  refine (hO _ (HW.out.below hb1)).mono ?_
  rintro e w2 ⟨rfl, hb2⟩
  have HB2 := Lib.hid (hb1.trans (hb2.mono hb1.size))
  clear hb1 hb2
  go_wp2_with fail
  refine (hR _).mono ?_
  rintro e w3 ⟨rfl, hb3⟩
  have HB3 := Lib.hid (HB2.out.trans (hb3.mono HB2.out.size))
  clear hb3
  go_wp2_with fail
  refine (hC _).mono ?_
  rintro e w4 ⟨rfl, hb4⟩
  have hb34 := HB3.out.trans (hb4.mono HB3.out.size)
  have hk4 := Blk.new w4 46 #[.int .i64 Y, .int .i64 M, .int .i64 D]
  have HB4 := Lib.hid (hb34.alloc hb34.size (.cells #[.int .i64 Y, .int .i64 M, .int .i64 D] 46))
  clear hb4 hb34
  go_wp2_with fail
  refine (hL _).mono ?_
  rintro e w5 ⟨rfl, hb5⟩
  have HB5 := Lib.hid (HB4.out.trans (hb5.mono HB4.out.size))
  clear hb5 hk4
  by_cases hq : n - D + 1 + L ≤ 3652058
  · have hF : 0 ≤ n - D + 1 := by omega
    have hOne := fun (d : Int) W (h0 : 0 ≤ d) (h1 : d < 3652058) (hW : Lens W) => One_ok 1 d (Or.inl rfl) h0 h1 W hW
    have HMS := Lib.hid (HM.out hq)
    have ab := fun d => accB_bd 1 d
    have ast := fun d => accB_step 1 d
    have hC0 := Lib.hid ab
    have hC1 := Lib.hid ast
    clear HM ab ast
    obtain ⟨F, hFe⟩ : ∃ F, n - D + 1 = F := ⟨_, rfl⟩
    go_wp2_with fail
    rw [hFe] at hF hq HMS
    clear hFe
    go_loopw [10, 81] (fun s i wr => ∃ k : Int, 0 ≤ k ∧ k ≤ L ∧ i = .int .i64 k ∧ s = .int .i64 (accB 1 (F + k) - accB 1 F) ∧ Below w.heap.size w wr) (fun _ i _ => (31 - intOf i).toNat)
    case atStart => exact ⟨0, by omega, by omega, rfl, by rw [Int.add_zero, Int.sub_self], HB5.out⟩
    case round =>
      obtain ⟨k, k0, k1, rfl, rfl, hbr⟩ := hrel
      have HBR := Lib.hid hbr
      clear hbr
      have b1 := hC0.out (F + k) (by omega) (by omega)
      have b2 := hC0.out F (by omega) (by omega)
      by_cases hc : k < L
      · have b3 := hC0.out (F + k + 1) (by omega) (by omega)
        have b4 := hC1.out (F + k) (by omega) (by omega)
        have i1 : IntKind.i32.wrap (F + k) = F + k := by rw [IntKind.wrap_i32]; omega
        have HS := Lib.hid (show accB 1 (F + (k + 1)) - accB 1 F = (accB 1 (F + k) - accB 1 F) + (accB 1 (F + k + 1) - accB 1 (F + k)) by rw [show F + (k + 1) = F + k + 1 by omega]; omega)
        have hO := fun W (hW : Lens W) => hOne (F + k) W (by omega) (by omega) hW
        generalize accB 1 (F + k) = U at *
        generalize accB 1 (F + k + 1) = V at *
        generalize accB 1 F = Z at *
        clear hOne
        go_wp2_with fail
        refine (hO _ (HW.out.below HBR.out)).mono ?_
        rintro e w6 ⟨rfl, hb6⟩
        have HB6 := Lib.hid (HBR.out.trans (hb6.mono HBR.out.size))
        clear hb6
        go_wp2_with fail
        go_roundw
        case rel => exact ⟨k + 1, by omega, by omega, by go_num, by rw [HS.out] <;> go_num, HB6.out⟩
        case measure => simp [intOf]; omega
      · have hk : k = L := by omega
        subst hk
        have HE := Lib.hid HMS.out
        rw [HMS.out]
        go_wp2_with fail
        go_ret
        exact ⟨rfl, HBR.out⟩
  · go_wp2_with fail
    go_ret
    exact ⟨rfl, HB5.out⟩
theorem Ones_any (b n : Int) (hn : -2147483648 ≤ n ∧ n ≤ 2147483647) (w : World) (hw : Lens w) (hp : Pows w) (hg : Laid w) :
    Calls Tryd.prog 11 #[.int .u8 b, .int .i32 n] w fun e w' => e = .returned (.bool true) ∧ Below w.heap.size w w' := by
  by_cases h : (b ≠ 1 ∧ b ≠ 2) ∨ n < 0 ∨ 3652058 ≤ n
  · exact Ones_no b n h hn w hw hp hg
  · rcases (show b = 1 ∨ b = 2 by omega) with rfl | rfl
    · exact Ones_one n (by omega) (by omega) w hw hp
    · exact Ones_two n (by omega) (by omega) w hw hp
end Go.Proofs.YthbifpmjkaonnaaDoor
