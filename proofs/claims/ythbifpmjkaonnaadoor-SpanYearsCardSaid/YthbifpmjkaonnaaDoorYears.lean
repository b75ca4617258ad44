/-
  SpanYears: the walk. Conditions: the number's kind; the months' lengths and strconv's powers of ten are laid.
-/
import Derived.Test.YthbifpmjkaonnaaDoorSpanC
namespace Go.Proofs.YthbifpmjkaonnaaDoor
open Go.RowKit

theorem first_right {y m : Int} (h1 : 1 ≤ y) (h2 : y ≤ 9999) (h3 : 1 ≤ m) (h4 : m ≤ 12) : rightB y m 1 = true := by
  have := mlen_lo y m h1 h2 h3 h4
  rw [right_iff]
  omega
theorem adds_math (b y m y' m' q : Int) (hb : b = 1 ∨ b = 2) (h1 : 1 ≤ y) (h2 : y ≤ 9999) (h3 : 1 ≤ m) (h4 : m ≤ 12) (g1 : 1 ≤ y') (g2 : y' ≤ 9999) (g3 : 1 ≤ m') (g4 : m' ≤ 12) (q0 : 0 ≤ q)
    (h : 12 * (y' - 1) + (m' - 1) = 12 * (y - 1) + (m - 1) + q) :
    0 ≤ num y m 1 ∧ num y m 1 ≤ num y' m' 1 ∧ num y' m' 1 ≤ 3652058 ∧ daysB b (num y m 1) (num y' m' 1) = accB b (num y' m' 1) - accB b (num y m 1) ∧ (b = 2 → daysB b (num y m 1) (num y' m' 1) = 30 * q) := by
  have r := first_right h1 h2 h3 h4
  have r' := first_right g1 g2 g3 g4
  obtain ⟨a0, a1, ay, am, ad⟩ := day_of r
  obtain ⟨c0, c1, cy, cm, cd⟩ := day_of r'
  have hle : num y m 1 ≤ num y' m' 1 := by
    by_cases hq : q = 0
    · have e1 : y' = y := by omega
      have e2 : m' = m := by omega
      rw [e1, e2]
      exact Int.le_refl _
    · have := num_lt r r' (by omega)
      omega
  have ht : thirty (num y m 1) (num y' m' 1) = acc (num y' m' 1) - acc (num y m 1) := thirty_first ad
  have hq : acc (num y' m' 1) - acc (num y m 1) = 30 * q := by
    unfold acc
    rw [ay, am, ad, cy, cm, cd]
    omega
  refine ⟨a0, hle, c1, ?_, ?_⟩
  · rcases hb with rfl | rfl
    · rfl
    · exact ht
  · rintro rfl
    exact ht.trans hq


theorem year_days (y : Int) (h1 : 1 ≤ y) (h2 : y ≤ 9998) : num (y + 1) 1 1 - num y 1 1 = 365 + lp y := by
  have := dby_succ y h1 (by omega)
  unfold num
  rw [cum_one, cum_one]
  omega
set_option maxRecDepth 20000 in
set_option maxHeartbeats 4000000 in
theorem Years_any (yr : Nat) (hy : yr < 65536) (w : World) (hw : Lens w) (hp : Pows w) :
    Calls Tryd.prog 12 #[.int .u16 (yr : Int)] w fun e w' => e = .returned (.bool true) ∧ Below w.heap.size w w' := by
  obtain ⟨y, ey⟩ : ∃ y : Int, 1 + (yr : Int) % 9998 = y := ⟨_, rfl⟩
  have h1 : 1 ≤ y := by omega
  have h2 : y ≤ 9998 := by omega
  have hN := fun W => RNum_any y 1 1 (first_right h1 (by omega) (by omega) (by omega)) W
  have hM := fun W => RNum_any (y + 1) 1 1 (first_right (by omega) (by omega) (by omega) (by omega)) W
  have hl := fun W => RefLeap_any y W
  have hls := leap_size y
  have yd := year_days y h1 h2
  obtain ⟨F0, F1, F2, -, F4⟩ := adds_math 2 y 1 (y + 1) 1 12 (Or.inr rfl) h1 (by omega) (by omega) (by omega) (by omega) (by omega) (by omega) (by omega) (by omega) (by omega)
  obtain ⟨-, -, -, F5, -⟩ := adds_math 1 y 1 (y + 1) 1 12 (Or.inl rfl) h1 (by omega) (by omega) (by omega) (by omega) (by omega) (by omega) (by omega) (by omega) (by omega)
  have F3 := (adds_math 2 y 1 (y + 1) 1 12 (Or.inr rfl) h1 (by omega) (by omega) (by omega) (by omega) (by omega) (by omega) (by omega) (by omega) (by omega)).2.2.2.1
  have F4 : daysB 2 (num y 1 1) (num (y + 1) 1 1) = 360 := F4 rfl
  have F6 : daysB 1 (num y 1 1) (num (y + 1) 1 1) = 365 + lp y := yd
  have hA := fun W (hW : Lens W) => Days_ok 1 (num y 1 1) (num (y + 1) 1 1) (Or.inl rfl) F0 F1 F2 W hW
  have hB := fun W (hW : Lens W) => Days_ok 2 (num y 1 1) (num (y + 1) 1 1) (Or.inr rfl) F0 F1 F2 W hW
  rw [F6] at hA
  rw [F4] at hB
  rw [F4] at F3
  have lq := lp_01 y
  generalize num y 1 1 = F at *
  generalize num (y + 1) 1 1 = T at *
  have i1 : IntKind.i32.wrap F = F := by rw [IntKind.wrap_i32]; omega
  have i2 : IntKind.i32.wrap T = T := by rw [IntKind.wrap_i32]; omega
  have HF3 := Lib.hid F3
  have HW := Lib.hid hw
  have HP := Lib.hid hp
  have hq : leapB y = true ∧ lp y = 1 ∨ leapB y = false ∧ lp y = 0 := by
    cases hb : leapB y
    · exact Or.inr ⟨rfl, hls.2 hb⟩
    · exact Or.inl ⟨rfl, hls.1 hb⟩
  clear hw hp F3 F4 F5 F6 yd hls
  rcases hq with ⟨q1, q2⟩ | ⟨q1, q2⟩
  all_goals
    rw [q1] at hl
    rw [q2] at hA lq
    clear q1 q2
    go_enter Tryd.func12, Tryd.ntmps12
    go_wp2_with fail
    refine (awake6 _ HW.out HP.out).mono ?_
    rintro e w1 ⟨rfl, hb1⟩
    go_wp2_with fail
    refine (hN _).mono ?_
    rintro e w2 ⟨rfl, hb2⟩
    have HB2 := Lib.hid (hb1.trans (hb2.mono hb1.size))
    clear hb1 hb2
    go_wp2_with fail
    refine (hM _).mono ?_
    rintro e w3 ⟨rfl, hb3⟩
    have HB3 := Lib.hid (HB2.out.trans (hb3.mono HB2.out.size))
    clear hb3
    go_wp2_with fail
    refine (hA _ (HW.out.below HB3.out)).mono ?_
    rintro e w4 ⟨rfl, hb4⟩
    have HB4 := Lib.hid (HB3.out.trans (hb4.mono HB3.out.size))
    clear hb4
    go_wp2_with fail
    refine (hB _ (HW.out.below HB4.out)).mono ?_
    rintro e w5 ⟨rfl, hb5⟩
    have HB5 := Lib.hid (HB4.out.trans (hb5.mono HB4.out.size))
    clear hb5
    go_wp2_with fail
    clear ey hA hB hN hM i1 i2
    have hC0 := Lib.hid (fun d => accB_bd 2 d)
    have hC1 := Lib.hid (fun d => accB_step 2 d)
    have c0 := hC0.out F (by omega) (by omega)
    go_loopw [10, 11] (fun s i wr => ∃ j : Int, F ≤ j ∧ j ≤ T ∧ i = .int .i64 j ∧ s = .int .i64 (accB 2 j - accB 2 F) ∧ Below w.heap.size w wr) (fun _ i _ => (3652058 - intOf i).toNat)
    case atStart => exact ⟨F, Int.le_refl _, F1, rfl, by rw [Int.sub_self], HB5.out⟩
    case round =>
      obtain ⟨j, j0, j1, rfl, rfl, hbr⟩ := hrel
      have HBR := Lib.hid hbr
      clear hbr
      have c1 := hC0.out j (by omega) (by omega)
      by_cases hc2 : j < T
      · have c2 := hC0.out (j + 1) (by omega) (by omega)
        have c3 := hC1.out j (by omega) (by omega)
        have i3 : IntKind.i32.wrap j = j := by rw [IntKind.wrap_i32]; omega
        have HS := Lib.hid (show accB 2 (j + 1) - accB 2 F = (accB 2 j - accB 2 F) + (accB 2 (j + 1) - accB 2 j) by omega)
        have hO := fun W (hW : Lens W) => One_ok 2 j (Or.inr rfl) (by omega) (by omega) W hW
        generalize accB 2 j = U at *
        obtain ⟨V, hV⟩ : ∃ V, accB 2 (j + 1) = V := ⟨_, rfl⟩
        rw [hV] at c2 c3 hO
        have HV := Lib.hid hV
        clear hV
        generalize accB 2 F = Z at *
        go_wp2_with fail
        refine (hO _ (HW.out.below HBR.out)).mono ?_
        rintro e w6 ⟨rfl, hb6⟩
        have HB6 := Lib.hid (HBR.out.trans (hb6.mono HBR.out.size))
        clear hb6
        go_wp2_with fail
        go_roundw
        case rel => exact ⟨j + 1, by omega, by omega, by go_num, by rw [HS.out, HV.out] <;> go_num, HB6.out⟩
        case measure => simp [intOf]; omega
      · have hj : j = T := by omega
        subst hj
        have h360 := HF3.out
        rw [← h360]
        go_wp2_with fail
        refine (hl _).mono ?_
        rintro e w6 ⟨rfl, rfl⟩
        go_wp2_with fail
        go_ret
        exact ⟨by first | rfl | simp, HBR.out⟩
end Go.Proofs.YthbifpmjkaonnaaDoor
