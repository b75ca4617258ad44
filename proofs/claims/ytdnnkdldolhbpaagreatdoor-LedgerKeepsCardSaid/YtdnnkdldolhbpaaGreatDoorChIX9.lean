/-
The document's Right. Conditions: the rows are there.
-/
import Derived.Deep.CutBlock
import Derived.Test.YtdnnkdldolhbpaaGreatDoorChHX9
namespace Go.Proofs.YtdnnkdldolhbpaaGreatDoor
open Go.ChangeShapes Go.WideShapes Go.ChangeAt Go.RowKit

set_option maxRecDepth 100000 in
set_option maxHeartbeats 4000000 in
theorem RRight_any (y : Ky) (A : Option Addr) (n c B : Nat) (l : List (Nat × Int)) (w : World) (hR : Rs legT w B A l) (hn : l.length = n) (hm : n ≤ 100000) (hB : B ≤ w.heap.size) (hI : ∀ u ∈ l, LegIn u) :
    Calls Tryz.prog 58 #[entV y (.slice A n c)] w (Ret (.bool (entB y l)) w) := by
  subst hn
  have HR := Lib.hid hR
  have HI := Lib.hid hI
  unfold entV entC
  clear hR hI
  have HQ0 := Lib.hid (Blk.new w 77 #[.int .u32 (y.a : Int), .int .i32 y.d, .int .u8 (y.k : Int), .int .u32 (y.s : Int), .slice A l.length c])
  have HB0 := Lib.hid (b_alloc w (.cells #[.int .u32 (y.a : Int), .int .i32 y.d, .int .u8 (y.k : Int), .int .u32 (y.s : Int), .slice A l.length c] 77))
  by_cases hk : 1 ≤ y.k ∧ y.k ≤ 7 ∧ 0 ≤ y.d ∧ y.d ≤ 3652058 ∧ 1 ≤ l.length ∧ l.length ≤ 8
  · obtain ⟨k0, k1, k2, k3, k4, k5⟩ := hk
    have he : entB y l = (risTo l l.length && decide (sumO (amts l) = some 0)) := by
      unfold entB
      rw [decide_eq_true ⟨k0, k1⟩, decide_eq_true ⟨k4, k5⟩, day_yes k2 k3]
      rfl
    rw [he]
    obtain ⟨q, hq⟩ : ∃ q, (risTo l l.length && decide (sumO (amts l) = some 0)) = q := ⟨_, rfl⟩
    rw [hq]
    have HQQ := Lib.hid hq
    have j0 : ¬ (y.k : Int) < 1 := by omega
    have j1 : ¬ (7 : Int) < (y.k : Int) := by omega
    have j2 : ¬ y.d < 0 := by omega
    have j3 : ¬ (3652058 : Int) < y.d := by omega
    have j4 : ¬ (l.length : Int) < 1 := by omega
    have j5 : ¬ (8 : Int) < (l.length : Int) := by omega
    clear he hq
    go_enter Tryz.func58, Tryz.ntmps58
    go_wp2_with fail
    go_loopw [3, 4, 5, 6, 7, 45] (fun v _ _ _ _ i wr => ∃ (k : Nat) (s : Int), k ≤ l.length ∧ i = .int .i64 k ∧ v = .int .i64 s ∧ Hid (risTo l k = true) ∧ Hid (sumO ((amts l).take k) = some s) ∧ Hid (Blk wr w.heap.size 77 #[.int .u32 (y.a : Int), .int .i32 y.d, .int .u8 (y.k : Int), .int .u32 (y.s : Int), .slice A l.length c]) ∧ Hid (Below w.heap.size w wr)) (fun _ _ _ _ _ i _ => l.length - (intOf i).toNat)
    case atStart => exact ⟨0, 0, Nat.zero_le _, rfl, rfl, Lib.hid rfl, Lib.hid rfl, HQ0, HB0⟩
    case round =>
      obtain ⟨k, s, hk, rfl, rfl, HU, HS, HQ, HBL⟩ := hrel
      by_cases hlt : k < l.length
      · obtain ⟨b1, o1, rfl, hb1, d0, d1⟩ := HR.out.leg hlt
        have d0 := (HBL.out.cell (p := ⟨b1, o1 + k * 2, none⟩) (by exact Nat.lt_of_lt_of_le hb1 hB)).trans d0
        have d1 := (HBL.out.cell (p := ⟨b1, o1 + k * 2 + 1, none⟩) (by exact Nat.lt_of_lt_of_le hb1 hB)).trans d1
        have hgd := getD_leg hlt
        have hsn := sumO_next (amts l) k (by rw [amts_len]; exact hlt)
        rw [amts_at (by rw [amts_len]; exact hlt), HS.out] at hsn
        have hfi := sumO_fits _ _ HS.out
        obtain ⟨_, z0, z1⟩ := HI.out _ (List.getElem_mem hlt)
        obtain ⟨x, hx⟩ : ∃ x, (l[k]).1 = x := ⟨_, rfl⟩
        obtain ⟨z, hz⟩ : ∃ z, (l[k]).2 = z := ⟨_, rfl⟩
        have hs := risTo_step (l := l) (k := k) (x := x) (by rw [hgd, hx])
        rw [hx] at d0
        rw [hz] at d1 hsn z0 z1
        have HST := Lib.hid hs
        have HSN := Lib.hid hsn
        have hC := fun W => RefCAdd_any s z hfi ⟨z0, z1⟩ W
        have HQ1 := Lib.hid (HQ.out.alloc (.cells #[.int .u8 (x : Int), .int .i64 z] 130))
        have HB1 := Lib.hid (HBL.out.alloc HBL.out.size (.cells #[.int .u8 (x : Int), .int .i64 z] 130))
        clear hx hz hgd hs hsn hfi
        by_cases hf : Fits (s + z)
        · simp only [if_pos hf] at hC
          have HS2 := Lib.hid (show sumO ((amts l).take (k + 1)) = some (s + z) from HSN.out.trans (if_pos hf))
          clear hf
          by_cases hac : 1 ≤ x ∧ x ≤ 9
          · obtain ⟨x0, x1⟩ := hac
            have t0 : decide ((x : Int) < 1) = false := decide_eq_false (by omega)
            have t1 : decide ((9 : Int) < (x : Int)) = false := decide_eq_false (by omega)
            have t2 : decide (x < 1) = false := decide_eq_false (by omega)
            have t3 : decide (9 < x) = false := decide_eq_false (by omega)
            by_cases hk0 : k = 0
            · subst hk0
              simp only [Nat.zero_mul, Nat.add_zero] at d0 d1
              have HE := Lib.hid (show risTo l (0 + 1) = true by rw [HST.out, HU.out, decide_eq_true x0, decide_eq_true x1]; rfl)
              go_wp2_with fail
              refine (hC _).mono ?_
              rintro e w2 ⟨rfl, rfl⟩
              clear hC d0 d1
              go_upto_region 8 with (fail)
              obtain ⟨W, hW⟩ : ∃ W, wr.alloc (.cells #[.int .u8 (x : Int), .int .i64 z] 130) = W := ⟨_, rfl⟩
              have e0 := (Blk.new wr 130 #[.int .u8 (x : Int), .int .i64 z]).cell 0
              have e4 := (HQ.out.alloc (.cells #[.int .u8 (x : Int), .int .i64 z] 130)).cell 4
              rw [hW] at HB1 HQ1 e0 e4 ⊢
              simp at e0 e4
              have q0 := cell_regrown e0
              have q4 := cell_regrown e4
              clear hW e0 e4
              refine wp_region_quiet_below (by kernel_rfl) (by kernel_rfl) ?_
              repeat (go_big_quiet_step (fail))
              refine wpQuiet_nil ?_
              intro w5 hw5
              have hb5 : Below W.heap.size W w5 := by
                obtain ⟨p, rfl⟩ := hw5
                exact below_regrown _ _ _
              have HB5 := Lib.hid (HB1.out.trans (hb5.mono HB1.out.size))
              have HQ5 := Lib.hid (HQ1.out.below hb5 HQ1.out.lt)
              clear hw5 hb5 q0 q4
              go_wp2_with fail
              go_roundw
              case rel => exact ⟨0 + 1, s + z, by omega, by go_num, rfl, HE, HS2, HQ5, HB5⟩
              case measure => simp [intOf]; omega
            · have hk1 : k - 1 < l.length := by omega
              obtain ⟨b2, o2, he, hb2, cP, _⟩ := HR.out.leg hk1
              injection he with he
              injection he with e1 e2
              subst e1 e2
              have cP := ((HBL.out.alloc HBL.out.size (.cells #[.int .u8 (x : Int), .int .i64 z] 130)).cell (p := ⟨b1, o1 + (k - 1) * 2, none⟩) (by exact Nat.lt_of_lt_of_le hb1 hB)).trans cP
              have hgd1 := getD_leg hk1
              obtain ⟨p, hp⟩ : ∃ p, (l[k - 1]).1 = p := ⟨_, rfl⟩
              rw [hp] at cP
              have HST := Lib.hid (show risTo l (k + 1) = (risTo l k && (decide (1 ≤ x) && decide (x ≤ 9) && (k == 0 || decide (p < x)))) by rw [HST.out, hgd1, hp])
              have hk2 : (0 : Int) < (k : Int) := by omega
              have hk5 : decide (0 < k) = true := decide_eq_true (by omega)
              have hk3 : (1 : Int) ≤ (k : Int) := by omega
              have hk4 : (0 : Int) ≤ (k : Int) - 1 := by omega
              have hj : ((k : Int) - 1).toNat = k - 1 := by omega
              have hjl : (k : Int) - 1 < (l.length : Int) := by omega
              have i1 : IntKind.i64.wrap ((k : Int) - 1) = (k : Int) - 1 := by rw [IntKind.wrap_i64]; omega
              clear hp hgd1
              by_cases hlp : x ≤ p
              · have hd : decide (x ≤ p) = true := decide_eq_true hlp
                have hd2 : decide ((x : Int) ≤ (p : Int)) = true := decide_eq_true (by omega)
                have hrf : risTo l l.length = false := risTo_end (show k + 1 ≤ l.length from hlt) (by rw [HST.out, decide_eq_false (show ¬ p < x by omega)]; simp [hk0])
                have HE := Lib.hid (show q = false by rw [← HQQ.out, hrf]; rfl)
                clear hrf
                go_wp2_with fail
                refine (hC _).mono ?_
                rintro e w2 ⟨rfl, rfl⟩
                clear hC d0 d1
                go_upto_region 8 with (fail)
                obtain ⟨W, hW⟩ : ∃ W, wr.alloc (.cells #[.int .u8 (x : Int), .int .i64 z] 130) = W := ⟨_, rfl⟩
                have e0 := (Blk.new wr 130 #[.int .u8 (x : Int), .int .i64 z]).cell 0
                have e4 := (HQ.out.alloc (.cells #[.int .u8 (x : Int), .int .i64 z] 130)).cell 4
                have ep := cP
                rw [hW] at HB1 HQ1 e0 e4 ep ⊢
                simp at e0 e4
                have q0 := cell_regrown e0
                have q4 := cell_regrown e4
                have qp := cell_regrown ep
                clear ep
                clear hW e0 e4
                refine wp_region_quiet_below (by kernel_rfl) (by kernel_rfl) ?_
                repeat (go_big_quiet_step (fail))
                refine wpQuiet_nil ?_
                intro w5 hw5
                have hb5 : Below W.heap.size W w5 := by
                  obtain ⟨p, rfl⟩ := hw5
                  exact below_regrown _ _ _
                have HB5 := Lib.hid (HB1.out.trans (hb5.mono HB1.out.size))
                have HQ5 := Lib.hid (HQ1.out.below hb5 HQ1.out.lt)
                clear hw5 hb5 q0 q4 qp
                go_wp2_with fail
                go_ret
                exact ⟨by rw [HE.out]; rfl, HB5.out⟩
              · have hd : decide (x ≤ p) = false := decide_eq_false hlp
                have hd2 : decide ((x : Int) ≤ (p : Int)) = false := decide_eq_false (by omega)
                have HE := Lib.hid (show risTo l (k + 1) = true by rw [HST.out, HU.out, decide_eq_true x0, decide_eq_true x1, decide_eq_true (show p < x by omega)]; simp)
                go_wp2_with fail
                refine (hC _).mono ?_
                rintro e w2 ⟨rfl, rfl⟩
                clear hC d0 d1
                go_upto_region 8 with (fail)
                obtain ⟨W, hW⟩ : ∃ W, wr.alloc (.cells #[.int .u8 (x : Int), .int .i64 z] 130) = W := ⟨_, rfl⟩
                have e0 := (Blk.new wr 130 #[.int .u8 (x : Int), .int .i64 z]).cell 0
                have e4 := (HQ.out.alloc (.cells #[.int .u8 (x : Int), .int .i64 z] 130)).cell 4
                have ep := cP
                rw [hW] at HB1 HQ1 e0 e4 ep ⊢
                simp at e0 e4
                have q0 := cell_regrown e0
                have q4 := cell_regrown e4
                have qp := cell_regrown ep
                clear ep
                clear hW e0 e4
                refine wp_region_quiet_below (by kernel_rfl) (by kernel_rfl) ?_
                repeat (go_big_quiet_step (fail))
                refine wpQuiet_nil ?_
                intro w5 hw5
                have hb5 : Below W.heap.size W w5 := by
                  obtain ⟨p, rfl⟩ := hw5
                  exact below_regrown _ _ _
                have HB5 := Lib.hid (HB1.out.trans (hb5.mono HB1.out.size))
                have HQ5 := Lib.hid (HQ1.out.below hb5 HQ1.out.lt)
                clear hw5 hb5 q0 q4 qp
                go_wp2_with fail
                go_roundw
                case rel => exact ⟨k + 1, s + z, by omega, by go_num, rfl, HE, HS2, HQ5, HB5⟩
                case measure => simp [intOf]; omega
          · have hrf : risTo l l.length = false := risTo_end (show k + 1 ≤ l.length from hlt) (by
              rw [HST.out]
              rcases (show x < 1 ∨ 9 < x by omega) with h | h
              · rw [decide_eq_false (show ¬ 1 ≤ x by omega)]; simp
              · rw [decide_eq_false (show ¬ x ≤ 9 by omega)]; simp)
            have HE := Lib.hid (show q = false by rw [← HQQ.out, hrf]; rfl)
            clear hrf
            rcases (show x < 1 ∨ (¬ x < 1 ∧ 9 < x) by omega) with h | ⟨h, h'⟩
            · have t0 : decide ((x : Int) < 1) = true := decide_eq_true (by omega)
              have t2 : decide (x < 1) = true := decide_eq_true h
              go_wp2_with fail
              refine (hC _).mono ?_
              rintro e w2 ⟨rfl, rfl⟩
              clear hC d0 d1
              go_upto_region 8 with (fail)
              obtain ⟨W, hW⟩ : ∃ W, wr.alloc (.cells #[.int .u8 (x : Int), .int .i64 z] 130) = W := ⟨_, rfl⟩
              have e0 := (Blk.new wr 130 #[.int .u8 (x : Int), .int .i64 z]).cell 0
              have e4 := (HQ.out.alloc (.cells #[.int .u8 (x : Int), .int .i64 z] 130)).cell 4
              rw [hW] at HB1 HQ1 e0 e4 ⊢
              simp at e0 e4
              have q0 := cell_regrown e0
              have q4 := cell_regrown e4
              clear hW e0 e4
              refine wp_region_quiet_below (by kernel_rfl) (by kernel_rfl) ?_
              repeat (go_big_quiet_step (fail))
              refine wpQuiet_nil ?_
              intro w5 hw5
              have hb5 : Below W.heap.size W w5 := by
                obtain ⟨p, rfl⟩ := hw5
                exact below_regrown _ _ _
              have HB5 := Lib.hid (HB1.out.trans (hb5.mono HB1.out.size))
              have HQ5 := Lib.hid (HQ1.out.below hb5 HQ1.out.lt)
              clear hw5 hb5 q0 q4
              go_wp2_with fail
              go_ret
              exact ⟨by rw [HE.out]; rfl, HB5.out⟩
            · have t0 : decide ((x : Int) < 1) = false := decide_eq_false (by omega)
              have t2 : decide (x < 1) = false := decide_eq_false h
              have t1 : decide ((9 : Int) < (x : Int)) = true := decide_eq_true (by omega)
              have t3 : decide (9 < x) = true := decide_eq_true h'
              go_wp2_with fail
              refine (hC _).mono ?_
              rintro e w2 ⟨rfl, rfl⟩
              clear hC d0 d1
              go_upto_region 8 with (fail)
              obtain ⟨W, hW⟩ : ∃ W, wr.alloc (.cells #[.int .u8 (x : Int), .int .i64 z] 130) = W := ⟨_, rfl⟩
              have e0 := (Blk.new wr 130 #[.int .u8 (x : Int), .int .i64 z]).cell 0
              have e4 := (HQ.out.alloc (.cells #[.int .u8 (x : Int), .int .i64 z] 130)).cell 4
              rw [hW] at HB1 HQ1 e0 e4 ⊢
              simp at e0 e4
              have q0 := cell_regrown e0
              have q4 := cell_regrown e4
              clear hW e0 e4
              refine wp_region_quiet_below (by kernel_rfl) (by kernel_rfl) ?_
              repeat (go_big_quiet_step (fail))
              refine wpQuiet_nil ?_
              intro w5 hw5
              have hb5 : Below W.heap.size W w5 := by
                obtain ⟨p, rfl⟩ := hw5
                exact below_regrown _ _ _
              have HB5 := Lib.hid (HB1.out.trans (hb5.mono HB1.out.size))
              have HQ5 := Lib.hid (HQ1.out.below hb5 HQ1.out.lt)
              clear hw5 hb5 q0 q4
              go_wp2_with fail
              go_ret
              exact ⟨by rw [HE.out]; rfl, HB5.out⟩
        · simp only [if_neg hf] at hC
          have hsz : sumO (amts l) = none := sumO_stop (amts l) (k + 1) (HSN.out.trans (if_neg hf))
          have HE := Lib.hid (show q = false by rw [← HQQ.out, hsz]; simp)
          clear hf hsz
          go_wp2_with fail
          refine (hC _).mono ?_
          rintro e w2 ⟨rfl, rfl⟩
          clear hC d0 d1
          go_upto_region 8 with (fail)
          obtain ⟨W, hW⟩ : ∃ W, wr.alloc (.cells #[.int .u8 (x : Int), .int .i64 z] 130) = W := ⟨_, rfl⟩
          have e0 := (Blk.new wr 130 #[.int .u8 (x : Int), .int .i64 z]).cell 0
          have e4 := (HQ.out.alloc (.cells #[.int .u8 (x : Int), .int .i64 z] 130)).cell 4
          rw [hW] at HB1 HQ1 e0 e4 ⊢
          simp at e0 e4
          have q0 := cell_regrown e0
          have q4 := cell_regrown e4
          clear hW e0 e4
          refine wp_region_quiet_below (by kernel_rfl) (by kernel_rfl) ?_
          repeat (go_big_quiet_step (fail))
          refine wpQuiet_nil ?_
          intro w5 hw5
          have hb5 : Below W.heap.size W w5 := by
            obtain ⟨p, rfl⟩ := hw5
            exact below_regrown _ _ _
          have HB5 := Lib.hid (HB1.out.trans (hb5.mono HB1.out.size))
          have HQ5 := Lib.hid (HQ1.out.below hb5 HQ1.out.lt)
          clear hw5 hb5 q0 q4
          go_wp2_with fail
          go_ret
          exact ⟨by rw [HE.out]; rfl, HB5.out⟩
      · obtain rfl : k = l.length := by omega
        have hse := HS.out
        rw [List.take_of_length_le (by rw [amts_len]; exact Nat.le_refl _)] at hse
        have hqe : q = (s == 0) := by rw [← HQQ.out, HU.out, hse]; by_cases h : s = 0 <;> simp [h]
        have HE := Lib.hid hqe
        clear hqe hse
        go_wp2_with fail
        go_ret
        exact ⟨by rw [HE.out]; rfl, HBL.out⟩
  · have he : entB y l = false := by
      unfold entB
      rcases (show ¬ (1 ≤ y.k ∧ y.k ≤ 7) ∨ (y.d < 0 ∨ 3652058 < y.d) ∨ ¬ (1 ≤ l.length ∧ l.length ≤ 8) by omega) with h | h | h
      · rw [decide_eq_false h]; rfl
      · rw [day_no h]; simp
      · rw [decide_eq_false h]; simp
    rw [he]
    clear he
    rcases (show y.k < 1 ∨ (1 ≤ y.k ∧ 7 < y.k) ∨ (1 ≤ y.k ∧ y.k ≤ 7 ∧ y.d < 0) ∨ (1 ≤ y.k ∧ y.k ≤ 7 ∧ 0 ≤ y.d ∧ 3652058 < y.d) ∨ (1 ≤ y.k ∧ y.k ≤ 7 ∧ 0 ≤ y.d ∧ y.d ≤ 3652058 ∧ l.length < 1) ∨ (1 ≤ y.k ∧ y.k ≤ 7 ∧ 0 ≤ y.d ∧ y.d ≤ 3652058 ∧ 1 ≤ l.length ∧ 8 < l.length) by omega) with h | ⟨h, h2⟩ | ⟨h, h2, h3⟩ | ⟨h, h2, h3, h4⟩ | ⟨h, h2, h3, h4, h5⟩ | ⟨h, h2, h3, h4, h5, h6⟩
    · have j0 : (y.k : Int) < 1 := by omega
      clear hk
      go_enter Tryz.func58, Tryz.ntmps58
      go_wp2_with fail
      go_ret
      exact ⟨rfl, HB0.out⟩
    · have j0 : ¬ (y.k : Int) < 1 := by omega
      have j1 : (7 : Int) < (y.k : Int) := by omega
      clear hk
      go_enter Tryz.func58, Tryz.ntmps58
      go_wp2_with fail
      go_ret
      exact ⟨rfl, HB0.out⟩
    · have j0 : ¬ (y.k : Int) < 1 := by omega
      have j1 : ¬ (7 : Int) < (y.k : Int) := by omega
      have j2 : y.d < 0 := by omega
      clear hk
      go_enter Tryz.func58, Tryz.ntmps58
      go_wp2_with fail
      go_ret
      exact ⟨rfl, HB0.out⟩
    · have j0 : ¬ (y.k : Int) < 1 := by omega
      have j1 : ¬ (7 : Int) < (y.k : Int) := by omega
      have j2 : ¬ y.d < 0 := by omega
      have j3 : (3652058 : Int) < y.d := by omega
      clear hk
      go_enter Tryz.func58, Tryz.ntmps58
      go_wp2_with fail
      go_ret
      exact ⟨rfl, HB0.out⟩
    · have j0 : ¬ (y.k : Int) < 1 := by omega
      have j1 : ¬ (7 : Int) < (y.k : Int) := by omega
      have j2 : ¬ y.d < 0 := by omega
      have j3 : ¬ (3652058 : Int) < y.d := by omega
      have j4 : (l.length : Int) < 1 := by omega
      clear hk
      go_enter Tryz.func58, Tryz.ntmps58
      go_wp2_with fail
      go_ret
      exact ⟨rfl, HB0.out⟩
    · have j0 : ¬ (y.k : Int) < 1 := by omega
      have j1 : ¬ (7 : Int) < (y.k : Int) := by omega
      have j2 : ¬ y.d < 0 := by omega
      have j3 : ¬ (3652058 : Int) < y.d := by omega
      have j4 : ¬ (l.length : Int) < 1 := by omega
      have j5 : (8 : Int) < (l.length : Int) := by omega
      clear hk
      go_enter Tryz.func58, Tryz.ntmps58
      go_wp2_with fail
      go_ret
      exact ⟨rfl, HB0.out⟩
end Go.Proofs.YtdnnkdldolhbpaaGreatDoor
