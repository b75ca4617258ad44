/-
  The document's Same. Conditions: the rows are there.
-/
import Derived.Test.YtpphcifabmmimaaChI
namespace Go.Proofs.Ytpphcifabmmimaa
open Go.ChangeShapes Go.WideShapes Go.ChangeAt Go.RowKit

theorem ibeq {a b : Nat} (h : ¬ a = b) : ((a : Int) == (b : Int)) = false := by rw [beq_eq_false_iff_ne]; omega
theorem nbeq {a b : Nat} (h : ¬ a = b) : (a == b) = false := by rw [beq_eq_false_iff_ne]; exact h
theorem zbeq {a b : Int} (h : ¬ a = b) : (a == b) = false := by rw [beq_eq_false_iff_ne]; exact h
set_option maxRecDepth 100000 in
set_option maxHeartbeats 4000000 in
theorem RSame_any (y1 y2 : Ky) (A1 A2 : Option Addr) (n1 c1 n2 c2 B1 B2 : Nat) (l1 l2 : List (Nat × Int)) (w : World) (hR1 : Rs legT w B1 A1 l1) (hn1 : l1.length = n1) (hm1 : n1 ≤ 100000) (hB1 : B1 ≤ w.heap.size) (hR2 : Rs legT w B2 A2 l2) (hn2 : l2.length = n2) (hm2 : n2 ≤ 100000) (hB2 : B2 ≤ w.heap.size) :
    Calls Try.prog 13 #[entV y1 (.slice A1 n1 c1), entV y2 (.slice A2 n2 c2)] w (Ret (.bool (decide (y1 = y2 ∧ l1 = l2))) w) := by
  have HR1 := Lib.hid hR1
  have HR2 := Lib.hid hR2
  have HN1 := Lib.hid hn1
  have HN2 := Lib.hid hn2
  obtain ⟨a1, d1, k1, s1⟩ := y1
  obtain ⟨a2, d2, k2, s2⟩ := y2
  unfold entV entC
  clear hR1 hR2
  obtain ⟨q, hq⟩ : ∃ q, decide ((⟨a1, d1, k1, s1⟩ : Ky) = ⟨a2, d2, k2, s2⟩ ∧ l1 = l2) = q := ⟨_, rfl⟩
  rw [hq]
  have HQQ := Lib.hid hq
  clear hq
  by_cases ea : a1 = a2
  · subst ea
    by_cases ed : d1 = d2
    · subst ed
      by_cases ek : k1 = k2
      · subst ek
        by_cases es : s1 = s2
        · subst es
          by_cases el : n1 = n2
          · subst el
            clear hn2
            have hn2 : l2.length = n1 := HN2.out
            have HQ0 := Lib.hid ((Blk.new w 36 #[.int .u32 (a1 : Int), .int .i32 d1, .int .u8 (k1 : Int), .int .u32 (s1 : Int), .slice A1 n1 c1]).alloc (.cells #[.int .u32 (a1 : Int), .int .i32 d1, .int .u8 (k1 : Int), .int .u32 (s1 : Int), .slice A2 n1 c2] 36))
            have HP0 : Hid (Blk ((w.alloc (.cells #[.int .u32 (a1 : Int), .int .i32 d1, .int .u8 (k1 : Int), .int .u32 (s1 : Int), .slice A1 n1 c1] 36)).alloc (.cells #[.int .u32 (a1 : Int), .int .i32 d1, .int .u8 (k1 : Int), .int .u32 (s1 : Int), .slice A2 n1 c2] 36)) (w.heap.size + 1) 36 #[.int .u32 (a1 : Int), .int .i32 d1, .int .u8 (k1 : Int), .int .u32 (s1 : Int), .slice A2 n1 c2]) := Lib.hid (by
              have h := Blk.new (w.alloc (.cells #[.int .u32 (a1 : Int), .int .i32 d1, .int .u8 (k1 : Int), .int .u32 (s1 : Int), .slice A1 n1 c1] 36)) 36 #[.int .u32 (a1 : Int), .int .i32 d1, .int .u8 (k1 : Int), .int .u32 (s1 : Int), .slice A2 n1 c2]
              rw [show (w.alloc (.cells #[.int .u32 (a1 : Int), .int .i32 d1, .int .u8 (k1 : Int), .int .u32 (s1 : Int), .slice A1 n1 c1] 36)).heap.size = w.heap.size + 1 by simp] at h
              exact h)
            have HB0 := Lib.hid ((b_alloc w (.cells #[.int .u32 (a1 : Int), .int .i32 d1, .int .u8 (k1 : Int), .int .u32 (s1 : Int), .slice A1 n1 c1] 36)).alloc (by simp) (.cells #[.int .u32 (a1 : Int), .int .i32 d1, .int .u8 (k1 : Int), .int .u32 (s1 : Int), .slice A2 n1 c2] 36))
            go_enter Try.func13, Try.ntmps13
            go_wp2_with fail
            go_loopw [5, 23] (fun _ i wr => ∃ (k : Nat), k ≤ n1 ∧ i = .int .i64 k ∧ Hid (∀ j, (hj : j < l1.length) → (hj2 : j < l2.length) → j < k → l1[j]'hj = l2[j]'hj2) ∧ Hid (Blk wr w.heap.size 36 #[.int .u32 (a1 : Int), .int .i32 d1, .int .u8 (k1 : Int), .int .u32 (s1 : Int), .slice A1 n1 c1]) ∧ Hid (Blk wr (w.heap.size + 1) 36 #[.int .u32 (a1 : Int), .int .i32 d1, .int .u8 (k1 : Int), .int .u32 (s1 : Int), .slice A2 n1 c2]) ∧ Hid (Below w.heap.size w wr)) (fun _ i _ => n1 - (intOf i).toNat)
            case atStart => exact ⟨0, Nat.zero_le _, rfl, Lib.hid (fun j _ _ h => absurd h (by omega)), HQ0, HP0, HB0⟩
            case round =>
              obtain ⟨k, hk, rfl, HI, HQ, HP, HBL⟩ := hrel
              by_cases hlt : k < n1
              · have g1 : k < l1.length := by rw [HN1.out]; exact hlt
                have g2 : k < l2.length := by rw [HN2.out]; exact hlt
                obtain ⟨b1, o1, rfl, hb1, u0, u1⟩ := HR1.out.leg g1
                obtain ⟨b2, o2, rfl, hb2, v0, v1⟩ := HR2.out.leg g2
                have u0 := (HBL.out.cell (p := ⟨b1, o1 + k * 2, none⟩) (by exact Nat.lt_of_lt_of_le hb1 hB1)).trans u0
                have u1 := (HBL.out.cell (p := ⟨b1, o1 + k * 2 + 1, none⟩) (by exact Nat.lt_of_lt_of_le hb1 hB1)).trans u1
                have v0 := (HBL.out.cell (p := ⟨b2, o2 + k * 2, none⟩) (by exact Nat.lt_of_lt_of_le hb2 hB2)).trans v0
                have v1 := (HBL.out.cell (p := ⟨b2, o2 + k * 2 + 1, none⟩) (by exact Nat.lt_of_lt_of_le hb2 hB2)).trans v1
                obtain ⟨x1, hx1⟩ : ∃ x, (l1[k]).1 = x := ⟨_, rfl⟩
                obtain ⟨z1, hz1⟩ : ∃ x, (l1[k]).2 = x := ⟨_, rfl⟩
                obtain ⟨x2, hx2⟩ : ∃ x, (l2[k]).1 = x := ⟨_, rfl⟩
                obtain ⟨z2, hz2⟩ : ∃ x, (l2[k]).2 = x := ⟨_, rfl⟩
                have HX1 := Lib.hid (show l1[k] = (x1, z1) from Prod.ext hx1 hz1)
                have HX2 := Lib.hid (show l2[k] = (x2, z2) from Prod.ext hx2 hz2)
                rw [hx1] at u0
                rw [hz1] at u1
                rw [hx2] at v0
                rw [hz2] at v1
                clear hx1 hz1 hx2 hz2
                have r0 := cell_regrown u0
                have r1 := cell_regrown u1
                have r2 := cell_regrown v0
                have r3 := cell_regrown v1
                have p4 := HQ.out.cell 4
                have p5 := HP.out.cell 4
                simp at p4 p5
                have r4 := cell_regrown p4
                have r5 := cell_regrown p5
                clear u0 u1 v0 v1 p4 p5
                by_cases ex : x1 = x2
                · subst ex
                  by_cases ez : z1 = z2
                  · subst ez
                    have HI2 := Lib.hid (show ∀ j, (hj : j < l1.length) → (hj2 : j < l2.length) → j < k + 1 → l1[j]'hj = l2[j]'hj2 from fun j hj hj2 h => by
                      rcases Nat.lt_or_ge j k with h9 | h9
                      · exact HI.out j hj hj2 h9
                      · obtain rfl : j = k := by omega
                        rw [HX1.out, HX2.out])
                    go_wp2_with fail
                    refine wp_region_quiet_below (by kernel_rfl) (by kernel_rfl) ?_
                    repeat (go_big_quiet_step (fail))
                    refine wpQuiet_nil ?_
                    intro w5 hw5
                    have hb5 : Below wr.heap.size wr w5 := by
                      obtain ⟨p, rfl⟩ := hw5
                      exact below_regrown _ _ _
                    have HB5 := Lib.hid (HBL.out.trans (hb5.mono HBL.out.size))
                    have HQ5 := Lib.hid (HQ.out.below hb5 HQ.out.lt)
                    have HP5 := Lib.hid (HP.out.below hb5 HP.out.lt)
                    clear hw5 hb5 r0 r1 r2 r3 r4 r5
                    go_wp2_with fail
                    go_roundw
                    case rel => exact ⟨k + 1, by omega, by go_num, HI2, HQ5, HP5, HB5⟩
                    case measure => simp [intOf]; omega
                  · obtain rfl : q = false := by
                      rw [← HQQ.out, decide_eq_false_iff_not]
                      rintro ⟨_, h⟩
                      have h1 := HX1.out
                      have h2 := HX2.out
                      subst h
                      rw [h1] at h2
                      injection h2
                      contradiction
                    have b1 := zbeq ez
                    go_wp2_with fail
                    refine wp_region_quiet_below (by kernel_rfl) (by kernel_rfl) ?_
                    repeat (go_big_quiet_step (fail))
                    refine wpQuiet_nil ?_
                    intro w5 hw5
                    have hb5 : Below wr.heap.size wr w5 := by
                      obtain ⟨p, rfl⟩ := hw5
                      exact below_regrown _ _ _
                    have HB5 := Lib.hid (HBL.out.trans (hb5.mono HBL.out.size))
                    have HQ5 := Lib.hid (HQ.out.below hb5 HQ.out.lt)
                    have HP5 := Lib.hid (HP.out.below hb5 HP.out.lt)
                    clear hw5 hb5 r0 r1 r2 r3 r4 r5
                    go_wp2_with fail
                    go_ret
                    exact ⟨by first | rfl | simp, HB5.out⟩
                · obtain rfl : q = false := by
                    rw [← HQQ.out, decide_eq_false_iff_not]
                    rintro ⟨_, h⟩
                    have h1 := HX1.out
                    have h2 := HX2.out
                    subst h
                    rw [h1] at h2
                    injection h2
                    contradiction
                  have b1 := ibeq ex
                  have b2 := nbeq ex
                  go_wp2_with fail
                  refine wp_region_quiet_below (by kernel_rfl) (by kernel_rfl) ?_
                  repeat (go_big_quiet_step (fail))
                  refine wpQuiet_nil ?_
                  intro w5 hw5
                  have hb5 : Below wr.heap.size wr w5 := by
                    obtain ⟨p, rfl⟩ := hw5
                    exact below_regrown _ _ _
                  have HB5 := Lib.hid (HBL.out.trans (hb5.mono HBL.out.size))
                  have HQ5 := Lib.hid (HQ.out.below hb5 HQ.out.lt)
                  have HP5 := Lib.hid (HP.out.below hb5 HP.out.lt)
                  clear hw5 hb5 r0 r1 r2 r3 r4 r5
                  go_wp2_with fail
                  go_ret
                  exact ⟨by first | rfl | simp, HB5.out⟩
              · obtain rfl : q = true := by
                  rw [← HQQ.out, decide_eq_true_iff]
                  refine ⟨by first | rfl | trivial, List.ext_getElem (by rw [HN1.out, HN2.out]) (fun j hj hj2 => HI.out j hj hj2 (by rw [HN1.out] at hj; omega))⟩
                go_wp2_with fail
                go_ret
                exact ⟨rfl, HBL.out⟩
          · obtain rfl : q = false := by
              rw [← HQQ.out, decide_eq_false_iff_not]
              rintro ⟨_, h⟩
              have h1 := HN1.out
              have h2 := HN2.out
              subst h
              omega
            have b1 := ibeq el
            have b2 := nbeq el
            clear HQQ hn1 hn2
            have HQ0 := Lib.hid ((Blk.new w 36 #[.int .u32 (a1 : Int), .int .i32 d1, .int .u8 (k1 : Int), .int .u32 (s1 : Int), .slice A1 n1 c1]).alloc (.cells #[.int .u32 (a1 : Int), .int .i32 d1, .int .u8 (k1 : Int), .int .u32 (s1 : Int), .slice A2 n2 c2] 36))
            have HP0 : Hid (Blk ((w.alloc (.cells #[.int .u32 (a1 : Int), .int .i32 d1, .int .u8 (k1 : Int), .int .u32 (s1 : Int), .slice A1 n1 c1] 36)).alloc (.cells #[.int .u32 (a1 : Int), .int .i32 d1, .int .u8 (k1 : Int), .int .u32 (s1 : Int), .slice A2 n2 c2] 36)) (w.heap.size + 1) 36 #[.int .u32 (a1 : Int), .int .i32 d1, .int .u8 (k1 : Int), .int .u32 (s1 : Int), .slice A2 n2 c2]) := Lib.hid (by
              have h := Blk.new (w.alloc (.cells #[.int .u32 (a1 : Int), .int .i32 d1, .int .u8 (k1 : Int), .int .u32 (s1 : Int), .slice A1 n1 c1] 36)) 36 #[.int .u32 (a1 : Int), .int .i32 d1, .int .u8 (k1 : Int), .int .u32 (s1 : Int), .slice A2 n2 c2]
              rw [show (w.alloc (.cells #[.int .u32 (a1 : Int), .int .i32 d1, .int .u8 (k1 : Int), .int .u32 (s1 : Int), .slice A1 n1 c1] 36)).heap.size = w.heap.size + 1 by simp] at h
              exact h)
            have HB0 := Lib.hid ((b_alloc w (.cells #[.int .u32 (a1 : Int), .int .i32 d1, .int .u8 (k1 : Int), .int .u32 (s1 : Int), .slice A1 n1 c1] 36)).alloc (by simp) (.cells #[.int .u32 (a1 : Int), .int .i32 d1, .int .u8 (k1 : Int), .int .u32 (s1 : Int), .slice A2 n2 c2] 36))
            go_enter Try.func13, Try.ntmps13
            go_wp2_with fail
            go_ret
            exact ⟨by first | rfl | simp, HB0.out⟩
        · obtain rfl : q = false := by
            rw [← HQQ.out, decide_eq_false_iff_not]
            rintro ⟨h, _⟩
            injection h
            contradiction
          have b1 := ibeq es
          have b2 := nbeq es
          clear HQQ hn1 hn2
          have HQ0 := Lib.hid ((Blk.new w 36 #[.int .u32 (a1 : Int), .int .i32 d1, .int .u8 (k1 : Int), .int .u32 (s1 : Int), .slice A1 n1 c1]).alloc (.cells #[.int .u32 (a1 : Int), .int .i32 d1, .int .u8 (k1 : Int), .int .u32 (s2 : Int), .slice A2 n2 c2] 36))
          have HP0 : Hid (Blk ((w.alloc (.cells #[.int .u32 (a1 : Int), .int .i32 d1, .int .u8 (k1 : Int), .int .u32 (s1 : Int), .slice A1 n1 c1] 36)).alloc (.cells #[.int .u32 (a1 : Int), .int .i32 d1, .int .u8 (k1 : Int), .int .u32 (s2 : Int), .slice A2 n2 c2] 36)) (w.heap.size + 1) 36 #[.int .u32 (a1 : Int), .int .i32 d1, .int .u8 (k1 : Int), .int .u32 (s2 : Int), .slice A2 n2 c2]) := Lib.hid (by
            have h := Blk.new (w.alloc (.cells #[.int .u32 (a1 : Int), .int .i32 d1, .int .u8 (k1 : Int), .int .u32 (s1 : Int), .slice A1 n1 c1] 36)) 36 #[.int .u32 (a1 : Int), .int .i32 d1, .int .u8 (k1 : Int), .int .u32 (s2 : Int), .slice A2 n2 c2]
            rw [show (w.alloc (.cells #[.int .u32 (a1 : Int), .int .i32 d1, .int .u8 (k1 : Int), .int .u32 (s1 : Int), .slice A1 n1 c1] 36)).heap.size = w.heap.size + 1 by simp] at h
            exact h)
          have HB0 := Lib.hid ((b_alloc w (.cells #[.int .u32 (a1 : Int), .int .i32 d1, .int .u8 (k1 : Int), .int .u32 (s1 : Int), .slice A1 n1 c1] 36)).alloc (by simp) (.cells #[.int .u32 (a1 : Int), .int .i32 d1, .int .u8 (k1 : Int), .int .u32 (s2 : Int), .slice A2 n2 c2] 36))
          go_enter Try.func13, Try.ntmps13
          go_wp2_with fail
          go_ret
          exact ⟨by first | rfl | simp, HB0.out⟩
      · obtain rfl : q = false := by
          rw [← HQQ.out, decide_eq_false_iff_not]
          rintro ⟨h, _⟩
          injection h
          contradiction
        have b1 := ibeq ek
        have b2 := nbeq ek
        clear HQQ hn1 hn2
        have HQ0 := Lib.hid ((Blk.new w 36 #[.int .u32 (a1 : Int), .int .i32 d1, .int .u8 (k1 : Int), .int .u32 (s1 : Int), .slice A1 n1 c1]).alloc (.cells #[.int .u32 (a1 : Int), .int .i32 d1, .int .u8 (k2 : Int), .int .u32 (s2 : Int), .slice A2 n2 c2] 36))
        have HP0 : Hid (Blk ((w.alloc (.cells #[.int .u32 (a1 : Int), .int .i32 d1, .int .u8 (k1 : Int), .int .u32 (s1 : Int), .slice A1 n1 c1] 36)).alloc (.cells #[.int .u32 (a1 : Int), .int .i32 d1, .int .u8 (k2 : Int), .int .u32 (s2 : Int), .slice A2 n2 c2] 36)) (w.heap.size + 1) 36 #[.int .u32 (a1 : Int), .int .i32 d1, .int .u8 (k2 : Int), .int .u32 (s2 : Int), .slice A2 n2 c2]) := Lib.hid (by
          have h := Blk.new (w.alloc (.cells #[.int .u32 (a1 : Int), .int .i32 d1, .int .u8 (k1 : Int), .int .u32 (s1 : Int), .slice A1 n1 c1] 36)) 36 #[.int .u32 (a1 : Int), .int .i32 d1, .int .u8 (k2 : Int), .int .u32 (s2 : Int), .slice A2 n2 c2]
          rw [show (w.alloc (.cells #[.int .u32 (a1 : Int), .int .i32 d1, .int .u8 (k1 : Int), .int .u32 (s1 : Int), .slice A1 n1 c1] 36)).heap.size = w.heap.size + 1 by simp] at h
          exact h)
        have HB0 := Lib.hid ((b_alloc w (.cells #[.int .u32 (a1 : Int), .int .i32 d1, .int .u8 (k1 : Int), .int .u32 (s1 : Int), .slice A1 n1 c1] 36)).alloc (by simp) (.cells #[.int .u32 (a1 : Int), .int .i32 d1, .int .u8 (k2 : Int), .int .u32 (s2 : Int), .slice A2 n2 c2] 36))
        go_enter Try.func13, Try.ntmps13
        go_wp2_with fail
        go_ret
        exact ⟨by first | rfl | simp, HB0.out⟩
    · obtain rfl : q = false := by
        rw [← HQQ.out, decide_eq_false_iff_not]
        rintro ⟨h, _⟩
        injection h
        contradiction
      have b1 := zbeq ed
      clear HQQ hn1 hn2
      have HQ0 := Lib.hid ((Blk.new w 36 #[.int .u32 (a1 : Int), .int .i32 d1, .int .u8 (k1 : Int), .int .u32 (s1 : Int), .slice A1 n1 c1]).alloc (.cells #[.int .u32 (a1 : Int), .int .i32 d2, .int .u8 (k2 : Int), .int .u32 (s2 : Int), .slice A2 n2 c2] 36))
      have HP0 : Hid (Blk ((w.alloc (.cells #[.int .u32 (a1 : Int), .int .i32 d1, .int .u8 (k1 : Int), .int .u32 (s1 : Int), .slice A1 n1 c1] 36)).alloc (.cells #[.int .u32 (a1 : Int), .int .i32 d2, .int .u8 (k2 : Int), .int .u32 (s2 : Int), .slice A2 n2 c2] 36)) (w.heap.size + 1) 36 #[.int .u32 (a1 : Int), .int .i32 d2, .int .u8 (k2 : Int), .int .u32 (s2 : Int), .slice A2 n2 c2]) := Lib.hid (by
        have h := Blk.new (w.alloc (.cells #[.int .u32 (a1 : Int), .int .i32 d1, .int .u8 (k1 : Int), .int .u32 (s1 : Int), .slice A1 n1 c1] 36)) 36 #[.int .u32 (a1 : Int), .int .i32 d2, .int .u8 (k2 : Int), .int .u32 (s2 : Int), .slice A2 n2 c2]
        rw [show (w.alloc (.cells #[.int .u32 (a1 : Int), .int .i32 d1, .int .u8 (k1 : Int), .int .u32 (s1 : Int), .slice A1 n1 c1] 36)).heap.size = w.heap.size + 1 by simp] at h
        exact h)
      have HB0 := Lib.hid ((b_alloc w (.cells #[.int .u32 (a1 : Int), .int .i32 d1, .int .u8 (k1 : Int), .int .u32 (s1 : Int), .slice A1 n1 c1] 36)).alloc (by simp) (.cells #[.int .u32 (a1 : Int), .int .i32 d2, .int .u8 (k2 : Int), .int .u32 (s2 : Int), .slice A2 n2 c2] 36))
      go_enter Try.func13, Try.ntmps13
      go_wp2_with fail
      go_ret
      exact ⟨by first | rfl | simp, HB0.out⟩
  · obtain rfl : q = false := by
      rw [← HQQ.out, decide_eq_false_iff_not]
      rintro ⟨h, _⟩
      injection h
      contradiction
    have b1 := ibeq ea
    have b2 := nbeq ea
    clear HQQ hn1 hn2
    have HQ0 := Lib.hid ((Blk.new w 36 #[.int .u32 (a1 : Int), .int .i32 d1, .int .u8 (k1 : Int), .int .u32 (s1 : Int), .slice A1 n1 c1]).alloc (.cells #[.int .u32 (a2 : Int), .int .i32 d2, .int .u8 (k2 : Int), .int .u32 (s2 : Int), .slice A2 n2 c2] 36))
    have HP0 : Hid (Blk ((w.alloc (.cells #[.int .u32 (a1 : Int), .int .i32 d1, .int .u8 (k1 : Int), .int .u32 (s1 : Int), .slice A1 n1 c1] 36)).alloc (.cells #[.int .u32 (a2 : Int), .int .i32 d2, .int .u8 (k2 : Int), .int .u32 (s2 : Int), .slice A2 n2 c2] 36)) (w.heap.size + 1) 36 #[.int .u32 (a2 : Int), .int .i32 d2, .int .u8 (k2 : Int), .int .u32 (s2 : Int), .slice A2 n2 c2]) := Lib.hid (by
      have h := Blk.new (w.alloc (.cells #[.int .u32 (a1 : Int), .int .i32 d1, .int .u8 (k1 : Int), .int .u32 (s1 : Int), .slice A1 n1 c1] 36)) 36 #[.int .u32 (a2 : Int), .int .i32 d2, .int .u8 (k2 : Int), .int .u32 (s2 : Int), .slice A2 n2 c2]
      rw [show (w.alloc (.cells #[.int .u32 (a1 : Int), .int .i32 d1, .int .u8 (k1 : Int), .int .u32 (s1 : Int), .slice A1 n1 c1] 36)).heap.size = w.heap.size + 1 by simp] at h
      exact h)
    have HB0 := Lib.hid ((b_alloc w (.cells #[.int .u32 (a1 : Int), .int .i32 d1, .int .u8 (k1 : Int), .int .u32 (s1 : Int), .slice A1 n1 c1] 36)).alloc (by simp) (.cells #[.int .u32 (a2 : Int), .int .i32 d2, .int .u8 (k2 : Int), .int .u32 (s2 : Int), .slice A2 n2 c2] 36))
    go_enter Try.func13, Try.ntmps13
    go_wp2_with fail
    go_ret
    exact ⟨by first | rfl | simp, HB0.out⟩
end Go.Proofs.Ytpphcifabmmimaa
