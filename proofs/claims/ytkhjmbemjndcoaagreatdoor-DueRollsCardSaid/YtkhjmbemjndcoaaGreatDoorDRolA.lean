/-
  Plain, as the document has it; Rolled. Conditions: the days are there, the months' lengths are laid.
-/
import Derived.Test.YtkhjmbemjndcoaaGreatDoorDOpn
import Derived.Lib.QuietBelow
import Derived.BigQuiet
namespace Go.Proofs.YtkhjmbemjndcoaaGreatDoor
open Go.RowKit

theorem pT_zero (n : Int) (hM : 1 ≤ cM n ∧ cM n ≤ 12) : mY (pT n 0) = cY n ∧ mM (pT n 0) = cM n := by
  have := mon_uniq (t := pT n 0) (y := cY n) (m := cM n) hM.1 hM.2 (by unfold pT mon; omega)
  exact ⟨this.1.symm, this.2.symm⟩
theorem pT_one (n : Int) (j : Int) : 12 * (mY (pT n j) - 1) + mM (pT n j) = pT n (j + 1) := by
  have := mon_of (pT n j)
  rw [pT_add]
  omega
def RpPost (n k : Int) (w : World) (e : Ending) (w' : World) : Prop := (pT n k < 119988 → e = .returned (.tuple #[.int .i64 (plainD n k), .int .i64 0])) ∧ (¬ pT n k < 119988 → e = .returned (.tuple #[.int .i64 0, .int .i64 12])) ∧ Below w.heap.size w w'
set_option maxRecDepth 20000 in
set_option maxHeartbeats 4000000 in
theorem RPlain9 (n k : Int) (h0 : 0 ≤ n) (h1 : n ≤ 3652058) (k0 : 0 ≤ k) (k1 : k ≤ 480) (w : World) :
    Calls Tryz.prog 11 #[.int .i64 n, .int .i64 k] w (RpPost n k w) := by
  have hA := fun W => RCivil_any n W h0 h1
  have hcr := (civ_right n h0 h1).1
  have hr := right_in hcr
  have hM : 1 ≤ cM n ∧ cM n ≤ 12 := by omega
  have hz := pT_zero n hM
  have hS := fun j => pT_one n j
  have hlo := fun j (hj : 0 ≤ j) => pT_lo (k := j) h0 h1 hj
  have hhi := fun j (hj : j ≤ 480) => pT_hi (k := j) h0 h1 hj
  have HZ := Lib.hid hz
  have HS := Lib.hid hS
  have HLO := Lib.hid hlo
  have HHI := Lib.hid hhi
  have HCR := Lib.hid hcr
  have HA := Lib.hid hA
  clear hz hS hlo hhi hcr hr hM hA
  go_enter Tryz.func11, Tryz.ntmps11
  go_wp2_with fail
  refine (HA.out _).mono ?_
  rintro e w1 ⟨rfl, hb1⟩
  have HB1 := Lib.hid hb1
  clear hb1
  go_wp2_with fail
  obtain ⟨w2, hw2⟩ : ∃ W, W = w1.alloc (.cells #[.int .i64 (cY n), .int .i64 (cM n), .int .i64 (cD n)] 57) := ⟨_, rfl⟩
  have hq := Blk.new w1 57 #[.int .i64 (cY n), .int .i64 (cM n), .int .i64 (cD n)]
  have hb2 := HB1.out.alloc HB1.out.size (.cells #[.int .i64 (cY n), .int .i64 (cM n), .int .i64 (cD n)] 57)
  rw [← hw2] at hq hb2 ⊢
  have HQ := Lib.hid hq
  have HB2 := Lib.hid hb2
  have c0 := HQ.out.cell 0
  have c1 := HQ.out.cell 1
  have c2 := HQ.out.cell 2
  simp at c0 c1 c2
  clear hw2 hq hb2
  go_quiet (fail)
  obtain ⟨w3, hw3⟩ : ∃ W, W = w2.drewN nq := ⟨_, rfl⟩
  have hq3 := HQ.out.drewN nq
  have hb3 := below_drewN HB2.out nq
  rw [← hw3] at hq3 hb3 ⊢
  have HQ3 := Lib.hid hq3
  have HB3 := Lib.hid hb3
  clear hw3 hq3 hb3 c0 c1 c2 HQ HB2
  obtain ⟨g, hg⟩ : ∃ g, w1.heap.size = g := ⟨_, rfl⟩
  rw [hg] at HQ3 ⊢
  clear hg
  go_wp2_with fail
  rw [← HZ.out.1, ← HZ.out.2]
  go_loopw [7, 8, 9] (fun x y i w' => ∃ j : Int, x = .int .i64 (mY (pT n j)) ∧ y = .int .i64 (mM (pT n j)) ∧ i = .int .i64 j ∧ 0 ≤ j ∧ j ≤ k ∧ w' = w3) (fun _ _ i _ => (k - intOf i).toNat)
  case atStart => exact ⟨0, rfl, rfl, rfl, by omega, by omega, rfl⟩
  case round =>
    obtain ⟨j, rfl, rfl, rfl, hj1, hj2, rfl⟩ := hrel
    have hlj := HLO.out j hj1
    have hhj := HHI.out j (by omega)
    obtain ⟨Y, hY⟩ : ∃ Y, Y = mY (pT n j) := ⟨_, rfl⟩
    obtain ⟨M, hM⟩ : ∃ M, M = mM (pT n j) := ⟨_, rfl⟩
    have hYb : 1 ≤ Y ∧ Y ≤ 20000 := by rw [hY]; unfold mY; omega
    have hMb : 1 ≤ M ∧ M ≤ 12 := by rw [hM]; unfold mM; omega
    by_cases hjk : j < k
    · have hN := Next_fwd Y M (by omega) hMb.1 hMb.2 wr
      rw [show 12 * (Y - 1) + M = pT n (j + 1) by rw [hY, hM]; exact HS.out j] at hN
      rw [← hY, ← hM]
      have HNN := Lib.hid hN
      clear hN hY hM hlj hhj
      go_wp2_with fail
      refine HNN.out.mono ?_
      rintro e w' ⟨rfl, rfl⟩
      go_wp2_with fail
      go_roundw
      case rel => first | exact ⟨j + 1, rfl, rfl, rfl, by omega, by omega, rfl⟩ | exact ⟨j + 1, rfl, rfl, rfl, by omega, by omega, trivial⟩
      case measure => simp [intOf]; omega
    · have hjk2 : j = k := by omega
      subst hjk2
      by_cases ht : pT n j < 119988
      · have hYs : ¬ 9999 < Y := by rw [hY]; unfold mY; omega
        obtain ⟨L1, hL1⟩ : ∃ z, z = mlen (cY n) (cM n) := ⟨_, rfl⟩
        obtain ⟨L2, hL2⟩ : ∃ z, z = mlen Y M := ⟨_, rfl⟩
        have hml : 28 ≤ mlen (mY (pT n j)) (mM (pT n j)) ∧ mlen (mY (pT n j)) (mM (pT n j)) ≤ 31 := mlen_mon hlj ht
        rw [← hY, ← hM, ← hL2] at hml
        have hDb := right_in HCR.out
        have hlast : cD n = L1 → pD n j = L2 := fun h => by rw [hL1] at h; rw [plain_last h, hL2, hY, hM]
        have hmid : ¬ cD n = L1 → pD n j = min (cD n) L2 := fun h => by rw [hL1] at h; rw [plain_mid h, hL2, hY, hM]
        have hrt := pD_right h0 h1 (by omega : 0 ≤ j) ht
        have hpd : plainD n j = num Y M (pD n j) := by rw [hY, hM]; rfl
        rw [← hY, ← hM] at hrt
        have hA1 := fun W => RLength_any (cY n) (cM n) W
        rw [← hL1] at hA1
        have hA2 := fun W => RLength_any Y M W
        rw [← hL2] at hA2
        rw [← hY, ← hM]
        obtain ⟨D, hD⟩ : ∃ D, D = cD n := ⟨_, rfl⟩
        have HQ4 := HQ3
        rw [← hD] at hlast hmid hDb HQ4
        have HLA := Lib.hid hlast
        have HMI := Lib.hid hmid
        have HRT0 := Lib.hid hrt
        have HPD0 := Lib.hid hpd
        have HT := Lib.hid ht
        have HL2 := Lib.hid hL2
        have c0 := HQ4.out.cell 0
        have c1 := HQ4.out.cell 1
        have c2 := HQ4.out.cell 2
        simp at c0 c1 c2
        clear hlast hmid hrt hpd hY hM hlj hhj hL1 hL2 ht hD
        go_wp2_with fail
        have q0 := cell_regrown c0
        have q1 := cell_regrown c1
        have q2 := cell_regrown c2
        have A1 := fun (dd : Nat) (os : Array Obj) => Calls.regrown_of (hA1 (Go.Sort.grow (redrawn wr dd) os))
        have A2 := fun (dd : Nat) (os : Array Obj) => Calls.regrown_of (hA2 (Go.Sort.grow (redrawn wr dd) os))
        by_cases hDL : D = L1
        · have hDL1 : (L1 == D) = true := by simp [hDL]
          have hpD := HLA.out hDL
          have HRT := Lib.hid (show rightB Y M L2 = true by rw [← hpD]; exact HRT0.out)
          have HPD := Lib.hid (show plainD n j = num Y M L2 by rw [← hpD]; exact HPD0.out)
          clear hpD hDL
          refine wp_region_quiet_below (by kernel_rfl) (by kernel_rfl) ?_
          repeat (go_big_quiet_step (first | (go_at_call_of 26 (Value.int .i64 Y); exact A2 _ _) | (go_at_call 26; exact A1 _ _)))
          refine wpQuiet_nil ?_
          intro w6 hw6
          have hb6 : Below wr.heap.size wr w6 := by
            obtain ⟨p, rfl⟩ := hw6
            exact below_regrown _ _ _
          have HB6 := Lib.hid (HB3.out.trans (hb6.mono HB3.out.size))
          clear hw6 q0 q1 q2 A1 A2 hA1 hb6
          go_wp2_with fail
          refine (hA2 _).mono ?_
          rintro e w7 ⟨rfl, hb7⟩
          have HB8 := Lib.hid (HB6.out.trans (hb7.mono HB6.out.size))
          clear hb7 hA2
          go_wp2_with fail
          refine (RNum_any Y M L2 HRT.out _).mono ?_
          rintro e w9 ⟨rfl, hb9⟩
          have HB9 := Lib.hid (HB8.out.trans (hb9.mono HB8.out.size))
          clear hb9
          go_wp2_with fail
          go_ret2
          exact ⟨fun _ => by rw [HPD.out]; rfl, fun h => absurd HT.out h, HB9.out⟩
        · have hDL1 : (L1 == D) = false := by simp; exact fun h => hDL h.symm
          have hpD := HMI.out hDL
          by_cases hgt : L2 < D
          · rw [Int.min_eq_right (by omega)] at hpD
            have HRT := Lib.hid (show rightB Y M L2 = true by rw [← hpD]; exact HRT0.out)
            have HPD := Lib.hid (show plainD n j = num Y M L2 by rw [← hpD]; exact HPD0.out)
            clear hpD hDL
            refine wp_region_quiet_below (by kernel_rfl) (by kernel_rfl) ?_
            repeat (go_big_quiet_step (first | (go_at_call_of 26 (Value.int .i64 Y); exact A2 _ _) | (go_at_call 26; exact A1 _ _)))
            refine wpQuiet_nil ?_
            intro w6 hw6
            have hb6 : Below wr.heap.size wr w6 := by
              obtain ⟨p, rfl⟩ := hw6
              exact below_regrown _ _ _
            have HB6 := Lib.hid (HB3.out.trans (hb6.mono HB3.out.size))
            clear hw6 q0 q1 q2 A1 A2 hA1 hb6
            go_wp2_with fail
            refine (hA2 _).mono ?_
            rintro e w7 ⟨rfl, hb7⟩
            have HB8 := Lib.hid (HB6.out.trans (hb7.mono HB6.out.size))
            clear hb7 hA2
            go_wp2_with fail
            refine (RNum_any Y M L2 HRT.out _).mono ?_
            rintro e w9 ⟨rfl, hb9⟩
            have HB9 := Lib.hid (HB8.out.trans (hb9.mono HB8.out.size))
            clear hb9
            go_wp2_with fail
            go_ret2
            exact ⟨fun _ => by rw [HPD.out]; rfl, fun h => absurd HT.out h, HB9.out⟩
          · rw [Int.min_eq_left (by omega)] at hpD
            have HRT := Lib.hid (show rightB Y M D = true by rw [← hpD]; exact HRT0.out)
            have HPD := Lib.hid (show plainD n j = num Y M D by rw [← hpD]; exact HPD0.out)
            clear hpD hDL
            refine wp_region_quiet_below (by kernel_rfl) (by kernel_rfl) ?_
            repeat (go_big_quiet_step (first | (go_at_call_of 26 (Value.int .i64 Y); exact A2 _ _) | (go_at_call 26; exact A1 _ _)))
            refine wpQuiet_nil ?_
            intro w6 hw6
            have hb6 : Below wr.heap.size wr w6 := by
              obtain ⟨p, rfl⟩ := hw6
              exact below_regrown _ _ _
            have HB6 := Lib.hid (HB3.out.trans (hb6.mono HB3.out.size))
            clear hw6 q0 q1 q2 A1 A2 hA1 hb6
            have HB8 := HB6
            go_wp2_with fail
            refine (RNum_any Y M D HRT.out _).mono ?_
            rintro e w9 ⟨rfl, hb9⟩
            have HB9 := Lib.hid (HB8.out.trans (hb9.mono HB8.out.size))
            clear hb9
            go_wp2_with fail
            go_ret2
            exact ⟨fun _ => by rw [HPD.out]; rfl, fun h => absurd HT.out h, HB9.out⟩
      · have hYs : 9999 < Y := by rw [hY]; unfold mY; omega
        rw [← hY, ← hM]
        have HT := Lib.hid ht
        clear hY hM hlj hhj ht
        go_wp2_with fail
        go_ret2
        have ht2 : 119988 ≤ pT n j := by first | exact HT.out | (have := HT.out; omega)
        exact ⟨fun h => by omega, fun _ => rfl, HB3.out⟩
end Go.Proofs.YtkhjmbemjndcoaaGreatDoor
