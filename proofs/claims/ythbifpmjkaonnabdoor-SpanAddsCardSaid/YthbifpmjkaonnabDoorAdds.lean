/-
  SpanAdds: the walk. Conditions: the numbers' kinds; the months' lengths and strconv's powers of ten are laid.
-/
import Derived.Test.YthbifpmjkaonnabDoorSpanC
namespace Go.Proofs.YthbifpmjkaonnabDoor
open Go.RowKit

theorem first_right {y m : Int} (h1 : 1 ≤ y) (h2 : y ≤ 9999) (h3 : 1 ≤ m) (h4 : m ≤ 12) : rightB y m 1 = true := by
  have := mlen_lo y m h1 h2 h3 h4
  rw [right_iff]
  omega
theorem adds_math (b y m y' m' q : Int) (hb : b = 1 ∨ b = 2) (h1 : 1 ≤ y) (h2 : y ≤ 9999) (h3 : 1 ≤ m) (h4 : m ≤ 12) (g1 : 1 ≤ y') (g2 : y' ≤ 9999) (g3 : 1 ≤ m') (g4 : m' ≤ 12) (q0 : 0 ≤ q)
    (h : 12 * (y' - 1) + (m' - 1) = 12 * (y - 1) + (m - 1) + q) :
    0 ≤ num y m 1 ∧ num y m 1 ≤ num y' m' 1 ∧ num y' m' 1 ≤ 3652058 ∧ daysB b (num y m 1) (num y' m' 1) = accB b (num y' m' 1) - accB b (num y m 1) ∧ (b = 2 → daysB b (num y m 1) (num y' m' 1) = 30 * q) := by
  have r := first_right h1 h2 h3 h4
  have r' := first_right g1 g2 g3 g4
  obtain ⟨a0, a1, ay, am, ad⟩ := day_of r
  obtain ⟨c0, c1, cy, cm, cd⟩ := day_of r'
  have hle : num y m 1 ≤ num y' m' 1 := by
    by_cases hq : q = 0
    · have e1 : y' = y := by omega
      have e2 : m' = m := by omega
      rw [e1, e2]
      exact Int.le_refl _
    · have := num_lt r r' (by omega)
      omega
  have ht : thirty (num y m 1) (num y' m' 1) = acc (num y' m' 1) - acc (num y m 1) := thirty_first ad
  have hq : acc (num y' m' 1) - acc (num y m 1) = 30 * q := by
    unfold acc
    rw [ay, am, ad, cy, cm, cd]
    omega
  refine ⟨a0, hle, c1, ?_, ?_⟩
  · rcases hb with rfl | rfl
    · rfl
    · exact ht
  · rintro rfl
    exact ht.trans hq

set_option maxRecDepth 20000 in
set_option maxHeartbeats 4000000 in
theorem Adds_any (b0 yr mo me : Nat) (hb : b0 < 256) (hy : yr < 65536) (hm : mo < 256) (hme : me < 256) (w : World) (hw : Lens w) (hp : Pows w) :
    Calls Tryd.prog 4 #[.int .u8 (b0 : Int), .int .u16 (yr : Int), .int .u8 (mo : Int), .int .u8 (me : Int)] w fun e w' => e = .returned (.bool true) ∧ Below w.heap.size w w' := by
  obtain ⟨b, eb⟩ : ∃ b : Int, 1 + (b0 : Int) % 2 = b := ⟨_, rfl⟩
  obtain ⟨y, ey⟩ : ∃ y : Int, 1 + (yr : Int) % 9990 = y := ⟨_, rfl⟩
  obtain ⟨m, em⟩ : ∃ m : Int, 1 + (mo : Int) % 12 = m := ⟨_, rfl⟩
  obtain ⟨q, eq⟩ : ∃ q : Int, (me : Int) % 14 = q := ⟨_, rfl⟩
  have hb' : b = 1 ∨ b = 2 := by omega
  have h1 : 1 ≤ y := by omega
  have h2 : y ≤ 9990 := by omega
  have h3 : 1 ≤ m := by omega
  have h4 : m ≤ 12 := by omega
  have q0 : 0 ≤ q := by omega
  have q1 : q ≤ 13 := by omega
  have b1 : 1 ≤ b := by omega
  have b2 : b ≤ 2 := by omega
  have hN := fun W => RNum_any y m 1 (first_right h1 (by omega) h3 h4) W
  have HW := Lib.hid hw
  have HP := Lib.hid hp
  have HB := Lib.hid hb'
  have HEB := Lib.hid eb
  clear hw hp hb'
  go_enter Tryd.func4, Tryd.ntmps4
  go_wp2_with fail
  refine (awake6 _ HW.out HP.out).mono ?_
  rintro e w1 ⟨rfl, hb1⟩
  go_wp2_with fail
  refine (hN _).mono ?_
  rintro e w2 ⟨rfl, hb2⟩
  have HB2 := Lib.hid (hb1.trans (hb2.mono hb1.size))
  clear hb1 hb2
  go_wp2_with fail
  rw [eq]
  have HEQ := Lib.hid eq
  clear eq eb ey em
  have HT := Lib.hid (show 12 * (y - 1) + (m - 1) + 0 - (12 * (y - 1) + (m - 1)) = 0 by omega)
  go_loop [9, 10, 38] (fun a c i => ∃ k Y M : Int, a = .int .i64 Y ∧ c = .int .i64 M ∧ i = .int .u8 k ∧ 1 ≤ M ∧ M ≤ 12 ∧ 0 ≤ k ∧ k ≤ q ∧ 12 * (Y - 1) + (M - 1) - k - (12 * (y - 1) + (m - 1)) = 0) (fun _ _ i => (13 - intOf i).toNat)
  case atStart => exact ⟨0, y, m, rfl, rfl, rfl, h3, h4, by omega, by omega, by omega⟩
  case round =>
    obtain ⟨k, Y, M, rfl, rfl, rfl, M1, M2, k0, k1, hE⟩ := hrel
    have Y1 : 1 ≤ Y := by omega
    have Y2 : Y ≤ 9999 := by omega
    by_cases hc : k < q
    · have hY := mon_of (12 * (Y - 1) + M)
      have hMin : 1 ≤ mM (12 * (Y - 1) + M) ∧ mM (12 * (Y - 1) + M) ≤ 12 := by unfold mM; omega
      have hN := fun W => Next_fwd Y M (by omega) M1 M2 W
      generalize mY (12 * (Y - 1) + M) = Y' at hY hN
      generalize mM (12 * (Y - 1) + M) = M' at hY hN hMin
      have HE := Lib.hid (show 12 * (Y' - 1) + (M' - 1) - (k + 1) - (12 * (y - 1) + (m - 1)) = 0 by omega)
      clear hE hY
      go_wp2_with (go_at_call 11; refine (hN _).mono ?_; rintro e w' ⟨rfl, rfl⟩)
      go_round
      case rel => exact ⟨k + 1, Y', M', rfl, rfl, rfl, by omega, by omega, by omega, by omega, HE.out⟩
      case measure => simp [intOf]; omega
    · have hk : k = q := by omega
      subst hk
      have hR := fun W => RNum_any Y M 1 (first_right Y1 Y2 M1 M2) W
      obtain ⟨F0, F1, F2, F3, F4⟩ := adds_math b y m Y M k HB.out h1 (by omega) h3 h4 Y1 Y2 M1 M2 q0 (by omega)
      have hD := fun W (hW : Lens W) => Days_ok b (num y m 1) (num Y M 1) HB.out F0 F1 F2 W hW
      rw [F3] at hD F4
      generalize num y m 1 = F at *
      generalize num Y M 1 = T at *
      have ba := accB_bd b F F0 (by omega)
      have bt := accB_bd b T (by omega) F2
      have HF4 := Lib.hid F4
      clear F3 F4 hE HT hN
      go_wp2_with fail
      refine (hR _).mono ?_
      rintro e w3 ⟨rfl, hb3⟩
      have HB3 := Lib.hid (HB2.out.trans (hb3.mono HB2.out.size))
      clear hb3
      have i1 : IntKind.i32.wrap F = F := by rw [IntKind.wrap_i32]; omega
      have i2 : IntKind.i32.wrap T = T := by rw [IntKind.wrap_i32]; omega
      go_wp2_with fail
      refine (hD _ (HW.out.below HB3.out)).mono ?_
      rintro e w4 ⟨rfl, hb4⟩
      have HB4 := Lib.hid (HB3.out.trans (hb4.mono HB3.out.size))
      clear hb4 hD hR
      go_wp2_with fail
      have hC0 := Lib.hid (fun d => accB_bd b d)
      have hC1 := Lib.hid (fun d => accB_step b d)
      go_loopw [15, 16] (fun s i wr => ∃ j : Int, F ≤ j ∧ j ≤ T ∧ i = .int .i64 j ∧ s = .int .i64 (accB b j - accB b F) ∧ Below w.heap.size w wr) (fun _ i _ => (3652058 - intOf i).toNat)
      case atStart => exact ⟨F, Int.le_refl _, F1, rfl, by rw [Int.sub_self], HB4.out⟩
      case round =>
        obtain ⟨j, j0, j1, rfl, rfl, hbr⟩ := hrel
        have HBR := Lib.hid hbr
        clear hbr
        have c1 := hC0.out j (by omega) (by omega)
        by_cases hc2 : j < T
        · have c2 := hC0.out (j + 1) (by omega) (by omega)
          have c3 := hC1.out j (by omega) (by omega)
          have i3 : IntKind.i32.wrap j = j := by rw [IntKind.wrap_i32]; omega
          have HS := Lib.hid (show accB b (j + 1) - accB b F = (accB b j - accB b F) + (accB b (j + 1) - accB b j) by omega)
          have hO := fun W (hW : Lens W) => One_ok b j HB.out (by omega) (by omega) W hW
          generalize accB b j = U at *
          obtain ⟨V, hV⟩ : ∃ V, accB b (j + 1) = V := ⟨_, rfl⟩
          rw [hV] at c2 c3 hO
          have HV := Lib.hid hV
          clear hV
          generalize accB b F = Z at *
          generalize accB b T = X at *
          go_wp2_with fail
          refine (hO _ (HW.out.below HBR.out)).mono ?_
          rintro e w6 ⟨rfl, hb6⟩
          have HB6 := Lib.hid (HBR.out.trans (hb6.mono HBR.out.size))
          clear hb6
          go_wp2_with fail
          go_roundw
          case rel => exact ⟨j + 1, by omega, by omega, by go_num, by rw [HS.out, HV.out] <;> go_num, HB6.out⟩
          case measure => simp [intOf]; omega
        · have hj : j = T := by omega
          subst hj
          rcases HB.out with e | e
          · subst e
            clear HF4
            go_wp2_with fail
            go_ret
            exact ⟨by simp, HBR.out⟩
          · subst e
            have h30 := HF4.out rfl
            have HE := HEQ.out
            clear HF4
            go_wp2_with fail
            go_ret
            exact ⟨by first | rfl | simp, HBR.out⟩
end Go.Proofs.YthbifpmjkaonnabDoor
