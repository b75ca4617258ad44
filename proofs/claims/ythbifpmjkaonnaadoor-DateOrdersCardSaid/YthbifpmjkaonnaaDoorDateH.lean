/-
  A date's Months where it is none or beyond; the reference's Months; the document's example. Condition: the months' lengths are laid.
-/
import Derived.Test.YthbifpmjkaonnaaDoorDateG
import Derived.Deep.RegionHeld3
namespace Go.Proofs.YthbifpmjkaonnaaDoor
open Go.RowKit

set_option maxRecDepth 20000 in
set_option maxHeartbeats 2000000 in
theorem Months_arg (y m d n : Int) (h : rightB y m d = false) (w : World) (hw : Lens w) :
    Calls Tryd.prog 35 #[.agg #[.int .i64 y, .int .i64 m, .int .i64 d], .int .i64 n] w fun e w' => e = .returned (.tuple #[.agg #[.int .i64 0, .int .i64 0, .int .i64 0], .iface 35 (.int .i64 1)]) ∧ Below w.heap.size w w' := by
  go_enter Tryd.func35, Tryd.ntmps35
  go_wp2_with fail
  obtain ⟨W1, hW1⟩ : ∃ W, (w.alloc (.cells #[.int .i64 y, .int .i64 m, .int .i64 d] 40)).alloc (.cells #[.int .i64 0, .int .i64 0, .int .i64 0] 40) = W := ⟨_, rfl⟩
  rw [hW1]
  obtain ⟨hb1, hka, hkb⟩ := two_boxes hW1
  clear hW1
  have hR := CRight_any y m d W1 (hw.below hb1)
  rw [h] at hR
  refine hR.mono ?_
  rintro e w2 ⟨rfl, hb2⟩
  have hkb2 := hkb.below hb2 hkb.lt
  have HB2 := Lib.hid (hb1.trans (hb2.mono hb1.size))
  have g0 := hkb2.cell 0
  have g1 := hkb2.cell 1
  have g2 := hkb2.cell 2
  have f0 := hkb2.frozen 0
  have f1 := hkb2.frozen 1
  have f2 := hkb2.frozen 2
  simp at g0 g1 g2
  obtain ⟨s0, s1, s2⟩ := set3 hkb2 (.int .i64 0) (.int .i64 0) (.int .i64 0)
  clear hR hb2 hb1 hka hkb h hw hkb2
  go_wp2_with fail
  exact bodyPost_ret (v := .tuple #[.agg #[.int .i64 0, .int .i64 0, .int .i64 0], .iface 35 (.int .i64 1)]) (by simp [results, Tryd.results35, go_sem, s0, s1, s2, Result.andThen]) rfl ⟨rfl, below3 HB2.out (by omega) _ _ _⟩

set_option maxRecDepth 20000 in
set_option maxHeartbeats 2000000 in
theorem Months_over (y m d n : Int) (h : rightB y m d = true) (t : mon y m n < 0 ∨ 119988 ≤ mon y m n) (w : World) (hw : Lens w) :
    Calls Tryd.prog 35 #[.agg #[.int .i64 y, .int .i64 m, .int .i64 d], .int .i64 n] w fun e w' => e = .returned (.tuple #[.agg #[.int .i64 0, .int .i64 0, .int .i64 0], .iface 35 (.int .i64 12)]) ∧ Below w.heap.size w w' := by
  obtain ⟨y1, y2, m1, m2, d1, d2⟩ := right_in h
  unfold mon at t
  go_enter Tryd.func35, Tryd.ntmps35
  go_wp2_with fail
  obtain ⟨W1, hW1⟩ : ∃ W, (w.alloc (.cells #[.int .i64 y, .int .i64 m, .int .i64 d] 40)).alloc (.cells #[.int .i64 0, .int .i64 0, .int .i64 0] 40) = W := ⟨_, rfl⟩
  rw [hW1]
  obtain ⟨hb1, hka, hkb⟩ := two_boxes hW1
  clear hW1
  have hR := CRight_any y m d W1 (hw.below hb1)
  rw [h] at hR
  refine hR.mono ?_
  rintro e w2 ⟨rfl, hb2⟩
  have hka2 := hka.below hb2 hka.lt
  have hkb2 := hkb.below hb2 hkb.lt
  have HB2 := Lib.hid (hb1.trans (hb2.mono hb1.size))
  have c0 := hka2.cell 0
  have c1 := hka2.cell 1
  have g0 := hkb2.cell 0
  have g1 := hkb2.cell 1
  have g2 := hkb2.cell 2
  have f0 := hkb2.frozen 0
  have f1 := hkb2.frozen 1
  have f2 := hkb2.frozen 2
  simp at g0 g1 g2 c0 c1
  obtain ⟨s0, s1, s2⟩ := set3 hkb2 (.int .i64 0) (.int .i64 0) (.int .i64 0)
  clear hR hb2 hb1 hka hkb h hw hkb2 hka2
  by_cases ht : n < -(12 * (y - 1) + m - 1)
  · clear t
    go_wp2_with fail
    exact bodyPost_ret (v := .tuple #[.agg #[.int .i64 0, .int .i64 0, .int .i64 0], .iface 35 (.int .i64 12)]) (by simp [results, Tryd.results35, go_sem, s0, s1, s2, Result.andThen]) rfl ⟨rfl, below3 HB2.out (by omega) _ _ _⟩
  · have ht2 : 119988 - (12 * (y - 1) + m - 1) ≤ n := by omega
    clear t
    go_wp2_with fail
    exact bodyPost_ret (v := .tuple #[.agg #[.int .i64 0, .int .i64 0, .int .i64 0], .iface 35 (.int .i64 12)]) (by simp [results, Tryd.results35, go_sem, s0, s1, s2, Result.andThen]) rfl ⟨rfl, below3 HB2.out (by omega) _ _ _⟩

theorem keep3 {W : World} {g : Nat} {q : Addr} {v x y z : Value} (h : W.cell? q = some v) (hq : q.block ≠ g) : (((W.setCell ⟨g, 0, none⟩ x).setCell ⟨g, 1, none⟩ y).setCell ⟨g, 2, none⟩ z).cell? q = some v := by
  rw [World.cell?_setCell_other _ _ _ _ (fun e => hq (by subst e; rfl)), World.cell?_setCell_other _ _ _ _ (fun e => hq (by subst e; rfl)), World.cell?_setCell_other _ _ _ _ (fun e => hq (by subst e; rfl))]
  exact h

set_option maxRecDepth 20000 in
set_option maxHeartbeats 2000000 in
theorem RMonths_any (y m d n : Int) (h : rightB y m d = true) (n0 : -1500 ≤ n) (n1 : n ≤ 1500) (w : World) :
    Calls Tryd.prog 36 #[.agg #[.int .i64 y, .int .i64 m, .int .i64 d], .int .i64 n] w fun e w' => e = .returned (if 0 ≤ mon y m n ∧ mon y m n < 119988 then .tuple #[.agg #[.int .i64 (mY (mon y m n)), .int .i64 (mM (mon y m n)), .int .i64 (mD (mon y m n) d)], .int .i64 0] else .tuple #[.agg #[.int .i64 0, .int .i64 0, .int .i64 0], .int .i64 12]) ∧ Below w.heap.size w w' := by
  obtain ⟨y1, y2, m1, m2, d1, d2⟩ := right_in h
  have hT : 12 * (y - 1) + (m - 1) + n = mon y m n := rfl
  obtain ⟨T, eT⟩ : ∃ T, mon y m n = T := ⟨_, rfl⟩
  rw [eT] at hT ⊢
  have t0 : -1500 ≤ T := by omega
  have t1 : T ≤ 121488 := by omega
  have ld := mlen_bd y m
  obtain ⟨R, hR⟩ : ∃ R, (if 0 ≤ T ∧ T < 119988 then Value.tuple #[.agg #[.int .i64 (mY T), .int .i64 (mM T), .int .i64 (mD T d)], .int .i64 0] else .tuple #[.agg #[.int .i64 0, .int .i64 0, .int .i64 0], .int .i64 12]) = R := ⟨_, rfl⟩
  rw [hR]
  have HR := Lib.hid hR
  clear hR
  go_enter Tryd.func36, Tryd.ntmps36
  go_wp2_with fail
  obtain ⟨W1, hW1⟩ : ∃ W, (w.alloc (.cells #[.int .i64 y, .int .i64 m, .int .i64 d] 46)).alloc (.cells #[.int .i64 0, .int .i64 0, .int .i64 0] 46) = W := ⟨_, rfl⟩
  rw [hW1]
  obtain ⟨hb1, hka, hkb⟩ := two_boxes hW1
  have HB1 := Lib.hid hb1
  have HA1 := Lib.hid hka
  have HC1 := Lib.hid hkb
  have c0 := hka.cell 0
  have c1 := hka.cell 1
  simp at c0 c1
  clear hW1 hb1 hka hkb
  go_quiet (fail)
  have HB2 := Lib.hid (below_drewN HB1.out nq)
  have HA2 := Lib.hid (HA1.out.drewN nq)
  have HC2 := Lib.hid (HC1.out.drewN nq)
  generalize W1.drewN nq = W2 at HB2 HA2 HC2 ⊢
  have HT := Lib.hid hT
  clear hT eT HB1 HA1 HC1 c0 c1
  go_wp2_with fail
  go_loop [1, 6, 7] (fun v a b => ∃ k Y M : Int, v = .int .i64 k ∧ a = .int .i64 Y ∧ b = .int .i64 M ∧ 1 ≤ M ∧ M ≤ 12 ∧ -1500 ≤ k ∧ k ≤ 1500 ∧ 12 * (Y - 1) + (M - 1) + k - T = 0 ∧ (0 < k ∨ k ≤ 0)) (fun v _ _ => (intOf v).toNat)
  case atStart => exact ⟨n, y, m, rfl, rfl, rfl, by omega, by omega, by omega, by omega, by have := HT.out; omega, by omega⟩
  case round =>
    obtain ⟨k, Y, M, rfl, rfl, rfl, M1, M2, k0, k1, hE, -⟩ := hrel
    by_cases hc : 0 < k
    · have hY := mon_of (12 * (Y - 1) + M)
      have hMin : 1 ≤ mM (12 * (Y - 1) + M) ∧ mM (12 * (Y - 1) + M) ≤ 12 := by unfold mM; omega
      have hN := fun W => Next_fwd Y M (by omega) M1 M2 W
      generalize mY (12 * (Y - 1) + M) = Y' at hY hN
      generalize mM (12 * (Y - 1) + M) = M' at hY hN hMin
      have HE := Lib.hid (show 12 * (Y' - 1) + (M' - 1) + (k - 1) - T = 0 by omega)
      clear hE hY
      go_wp2_with (go_at_call 42; refine (hN _).mono ?_; rintro e w' ⟨rfl, rfl⟩)
      go_round
      case rel => exact ⟨k - 1, Y', M', rfl, rfl, rfl, by omega, by omega, by omega, by omega, HE.out, by omega⟩
      case measure => simp [intOf]; omega
    · have HE := Lib.hid hE
      clear hE
      go_wp2_with fail
      go_loop [1, 6, 7] (fun v a b => ∃ k Y M : Int, v = .int .i64 k ∧ a = .int .i64 Y ∧ b = .int .i64 M ∧ 1 ≤ M ∧ M ≤ 12 ∧ -1500 ≤ k ∧ k ≤ 0 ∧ 12 * (Y - 1) + (M - 1) + k - T = 0) (fun v _ _ => (-(intOf v)).toNat)
      case atStart => exact ⟨k, Y, M, rfl, rfl, rfl, by omega, by omega, by omega, by omega, HE.out⟩
      case round =>
        clear M1 M2 k0 k1 hc HE
        obtain ⟨k, Y, M, rfl, rfl, rfl, M1, M2, k0, k1, hE⟩ := hrel
        by_cases hc : k < 0
        · have hY := mon_of (12 * (Y - 1) + M - 2)
          have hMin : 1 ≤ mM (12 * (Y - 1) + M - 2) ∧ mM (12 * (Y - 1) + M - 2) ≤ 12 := by unfold mM; omega
          have hN := fun W => Next_bwd Y M (by omega) M1 M2 W
          generalize mY (12 * (Y - 1) + M - 2) = Y' at hY hN
          generalize mM (12 * (Y - 1) + M - 2) = M' at hY hN hMin
          have HE := Lib.hid (show 12 * (Y' - 1) + (M' - 1) + (k + 1) - T = 0 by omega)
          clear hE hY
          go_wp2_with (go_at_call 42; refine (hN _).mono ?_; rintro e w' ⟨rfl, rfl⟩)
          go_round
          case rel => exact ⟨k + 1, Y', M', rfl, rfl, rfl, by omega, by omega, by omega, by omega, HE.out⟩
          case measure => simp [intOf]; omega
        · have hk : k = 0 := by omega
          subst hk
          obtain ⟨eY, eM⟩ := mon_uniq M1 M2 (show 12 * (Y - 1) + (M - 1) = T by omega)
          have EY := Lib.hid eY
          have EM := Lib.hid eM
          have hka := HA2.out
          have hkb := HC2.out
          have c2 := hka.cell 2
          have g0 := hkb.cell 0
          have g1 := hkb.cell 1
          have g2 := hkb.cell 2
          have f0 := hkb.frozen 0
          have f1 := hkb.frozen 1
          have f2 := hkb.frozen 2
          simp at c2 g0 g1 g2
          by_cases hr : 0 ≤ T ∧ T < 119988
          · have HR2 := Lib.hid (HR.out.symm.trans (if_pos hr))
            clear HR
            have hy1 : 1 ≤ Y := by omega
            have hy2 : Y ≤ 9999 := by omega
            clear eY eM hka hkb hE
            go_wp2_with fail
            have lm := mlen_bd Y M
            have HD := Lib.hid (show min d (mlen Y M) = mD T d by unfold mD; rw [← EY.out, ← EM.out])
            obtain ⟨L, hL⟩ : ∃ L, mlen Y M = L := ⟨_, rfl⟩
            rw [hL] at lm HD
            have hRL := fun W => RLength_any Y M W
            rw [hL] at hRL
            clear hL
            have HB2d := Lib.hid HB2.out.drew
            by_cases hmn : d ≤ L
            · have HM := Lib.hid (show mD T d = d by rw [← HD.out]; exact Int.min_eq_left hmn)
              go_region_held3 (fun W => W.cell? ⟨w.heap.size, 2, none⟩ = some (.int .i64 d)) (first | exact c2 | exact c5 | exact keep3 c5 (by simp))
                (first | (go_at_call 34; refine (hRL _).mono ?_; rintro e w5 ⟨rfl, hb5⟩; have c5 := (hb5.cell (p := ⟨w.heap.size, 2, none⟩) (block_lt_of_cell c2)).trans c2; have k5 := HC2.out.drew.below hb5 HC2.out.lt; have g50 := k5.cell 0; have g51 := k5.cell 1; have g52 := k5.cell 2; have f50 := k5.frozen 0; have f51 := k5.frozen 1; have f52 := k5.frozen 2; simp at g50 g51 g52; have K5 := Lib.hid k5; clear k5))
              obtain ⟨s0, s1, s2⟩ := set3 K5.out (.int .i64 Y) (.int .i64 M) (.int .i64 d)
              have HB5 := Lib.hid (HB2d.out.trans (hb5.mono HB2d.out.size))
              clear hb5 g50 g51 g52 f50 f51 f52 c5 g0 g1 g2 f0 f1 f2
              go_wp2_with fail
              exact bodyPost_ret (v := .tuple #[.agg #[.int .i64 Y, .int .i64 M, .int .i64 d], .int .i64 0]) (by simp [results, Tryd.results36, go_sem, s0, s1, s2, Result.andThen]) rfl ⟨by rw [HR2.out, ← EY.out, ← EM.out, HM.out], below3 HB5.out (by omega) _ _ _⟩
            · have HM := Lib.hid (show mD T d = L by rw [← HD.out]; exact Int.min_eq_right (by omega))
              go_region_held3 (fun W => W.cell? ⟨w.heap.size, 2, none⟩ = some (.int .i64 d)) (first | exact c2 | exact c5 | exact keep3 c5 (by simp))
                (first | (go_at_call 34; refine (hRL _).mono ?_; rintro e w5 ⟨rfl, hb5⟩; have c5 := (hb5.cell (p := ⟨w.heap.size, 2, none⟩) (block_lt_of_cell c2)).trans c2; have k5 := HC2.out.drew.below hb5 HC2.out.lt; have g50 := k5.cell 0; have g51 := k5.cell 1; have g52 := k5.cell 2; have f50 := k5.frozen 0; have f51 := k5.frozen 1; have f52 := k5.frozen 2; simp at g50 g51 g52; have K5 := Lib.hid k5; clear k5))
              obtain ⟨s0, s1, s2⟩ := set3 K5.out (.int .i64 Y) (.int .i64 M) (.int .i64 L)
              have HB5 := Lib.hid (HB2d.out.trans (hb5.mono HB2d.out.size))
              clear hb5 g50 g51 g52 f50 f51 f52 c5 g0 g1 g2 f0 f1 f2
              go_wp2_with fail
              exact bodyPost_ret (v := .tuple #[.agg #[.int .i64 Y, .int .i64 M, .int .i64 L], .int .i64 0]) (by simp [results, Tryd.results36, go_sem, s0, s1, s2, Result.andThen]) rfl ⟨by rw [HR2.out, ← EY.out, ← EM.out, HM.out], below3 HB5.out (by omega) _ _ _⟩
          · have HR2 := Lib.hid (HR.out.symm.trans (if_neg hr))
            clear HR
            obtain ⟨s0, s1, s2⟩ := set3 hkb (.int .i64 0) (.int .i64 0) (.int .i64 0)
            clear eY eM hka hkb
            by_cases hy1 : Y < 1
            · clear hr hE EY EM
              go_wp2_with fail
              exact bodyPost_ret (v := .tuple #[.agg #[.int .i64 0, .int .i64 0, .int .i64 0], .int .i64 12]) (by simp [results, Tryd.results36, go_sem, s0, s1, s2, Result.andThen]) rfl ⟨by rw [HR2.out], below3 HB2.out (by omega) _ _ _⟩
            · have hy2 : 9999 < Y := by omega
              clear hr hE EY EM
              go_wp2_with fail
              exact bodyPost_ret (v := .tuple #[.agg #[.int .i64 0, .int .i64 0, .int .i64 0], .int .i64 12]) (by simp [results, Tryd.results36, go_sem, s0, s1, s2, Result.andThen]) rfl ⟨by rw [HR2.out], below3 HB2.out (by omega) _ _ _⟩
set_option maxRecDepth 20000 in
set_option maxHeartbeats 2000000 in
theorem awake5 (w : World) (hw : Lens w) : Calls Tryd.prog 21 #[] w fun e w' => e = .returned (.bool true) ∧ Below w.heap.size w w' := by
  have e1 : mY (mon 2024 1 1) = 2024 := by decide
  have e2 : mM (mon 2024 1 1) = 2 := by decide
  have e3 : mD (mon 2024 1 1) 31 = 29 := by decide
  go_enter Tryd.func21, Tryd.ntmps21
  go_wp2_with fail
  have hM := Months_ok 2024 1 31 1 (by decide) (by decide) (by decide) w hw
  rw [e1, e2, e3] at hM
  refine hM.mono ?_
  rintro e w1 ⟨rfl, hb1⟩
  have hL : ∀ W, Calls Tryd.prog 39 #[.int .i64 2024] W fun e w' => e = .returned (.bool true) ∧ W = w' := fun W => Leap_any 2024 W
  go_wp2_with fail
  refine (hL _).mono ?_
  rintro e w2 ⟨rfl, rfl⟩
  go_wp2_with fail
  go_ret
  exact ⟨rfl, hb1.alloc hb1.size _⟩
end Go.Proofs.YthbifpmjkaonnaaDoor
