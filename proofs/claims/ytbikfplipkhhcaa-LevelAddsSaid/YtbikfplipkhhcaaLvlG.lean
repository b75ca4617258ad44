/-
  LevelAdds: the walk. Conditions: the numbers' kinds.
-/
import Derived.Test.YtbikfplipkhhcaaLvlE
import Derived.Lib.QuietBelow
import Derived.BigQuiet
namespace Go.Proofs.Ytbikfplipkhhcaa
open Go.RowKit

/-- The rows of a level loan. -/
def levF (p y P k : Nat) : Int × Int × Int := ((mi p (mit p y k P) : Nat), ((mit p y k P : Nat) : Int) - (mit p y (k + 1) P : Nat), (mit p y (k + 1) P : Nat))
theorem levF_rows {p y P n : Nat} (h : mit p y n P = 0) : rowsA (rowF p y P n) n = rowsA (levF p y P) n := by
  apply rowsA_ext
  intro i _
  unfold rowF levF
  by_cases hi : i + 1 = n
  · rw [if_pos hi, if_pos hi, hi, h]
    simp
  · rw [if_neg hi, if_neg hi]
theorem lev_pay {p y P k : Nat} (hy : mi p P ≤ y) : 0 ≤ (levF p y P k).2.1 ∧ 0 ≤ (levF p y P k).1 + (levF p y P k).2.1 ∧ (levF p y P k).1 + (levF p y P k).2.1 ≤ (y : Int) := by
  have hL := mit_le hy k P (Nat.le_refl _)
  have hs := mst_le hy hL
  unfold levF
  simp only []
  rw [mit_succ]
  unfold mst at hs ⊢
  omega
theorem lev_sum {p y P : Nat} (hy : mi p P ≤ y) : ∀ k : Nat, 0 ≤ paysTo (levF p y P) k ∧ paysTo (levF p y P) k ≤ (k * y : Nat)
  | 0 => by simp [paysTo]
  | k + 1 => by
    have h1 := lev_sum hy k
    have h2 := lev_pay (k := k) hy
    rw [paysTo, Nat.add_mul]
    omega
set_option maxRecDepth 20000 in
set_option maxHeartbeats 4000000 in
theorem LAdds_no {p b : Nat} {P n : Int} (h : ¬ lvB p b P n) (w : World) : Calls Try.prog 3 #[.int .i64 P, rv p b, .int .i64 n] w (Ret (.bool true) w) := by
  have hL1 := fun W => lr10 p b P n W
  rw [decide_eq_false h] at hL1
  have hR : ∀ W, Calls Try.prog 8 #[.int .u8 1, .int .i64 P, rv p b, .int .i64 n] W (Ret (.tuple #[.slice none 0 0, eno 1]) W) := fun W => Rows_no (kd := 1) (fun e => h e.2) W
  unfold rv eno at *
  clear h
  go_enter Try.func3, Try.ntmps3
  have HQ0 := Lib.hid (Blk.new w 25 #[.int .u32 (p : Int), .int .u8 (b : Int)])
  have HB0 := Lib.hid (b_alloc w (.cells #[.int .u32 (p : Int), .int .u8 (b : Int)] 25))
  go_wp2_with fail
  refine (awake10 _).mono ?_
  rintro e w1 ⟨rfl, hb1⟩
  have HQ1_0 := Lib.hid (HQ0.out.below hb1 HQ0.out.lt)
  have HB1 := Lib.hid (HB0.out.trans (hb1.mono HB0.out.size))
  clear hb1
  have c1_0_0 := HQ1_0.out.cell 0
  have c1_0_1 := HQ1_0.out.cell 1
  have z1_0 := HQ1_0.out.lt
  try simp at c1_0_0 c1_0_1
  go_wp2_with fail
  refine (hR _).mono ?_
  rintro e w2 ⟨rfl, hb2⟩
  have HQ2_0 := Lib.hid (HQ1_0.out.below hb2 HQ1_0.out.lt)
  have HB2 := Lib.hid (HB1.out.trans (hb2.mono HB1.out.size))
  clear hb2 c1_0_0 c1_0_1 z1_0
  have c2_0_0 := HQ2_0.out.cell 0
  have c2_0_1 := HQ2_0.out.cell 1
  have z2_0 := HQ2_0.out.lt
  try simp at c2_0_0 c2_0_1
  go_wp2_with fail
  refine (hL1 _).mono ?_
  rintro e w3 ⟨rfl, hb3⟩
  have HQ3_0 := Lib.hid (HQ2_0.out.below hb3 HQ2_0.out.lt)
  have HB3 := Lib.hid (HB2.out.trans (hb3.mono HB2.out.size))
  clear hb3 c2_0_0 c2_0_1 z2_0
  have c3_0_0 := HQ3_0.out.cell 0
  have c3_0_1 := HQ3_0.out.cell 1
  have z3_0 := HQ3_0.out.lt
  try simp at c3_0_0 c3_0_1
  go_wp2_with fail
  go_ret
  exact ⟨by first | rfl | simp, HB3.out⟩
set_option maxRecDepth 20000 in
set_option maxHeartbeats 4000000 in
theorem LAdds_yes {p b P n : Nat} (hr : rateB p b) (hP0 : 1 ≤ P) (hP : P ≤ 1000000000000) (hn0 : 1 ≤ n) (hn : n ≤ 480) (w : World) : Calls Try.prog 3 #[.int .i64 (P : Int), rv p b, .int .i64 (n : Int)] w (Ret (.bool true) w) := by
  obtain ⟨y, hy⟩ := lst_any (p := p) (n := n) (P := P) hn0
  have hmy : mi p P ≤ y := Nat.le_of_lt (hy.gt hP0)
  have hyb : y ≤ 2000000000000 := by
    have h1 := hy.high hn0
    have h2 := prt_bd hn0 hP0
    have h3 := mi_bd hP hr.1
    omega
  have hR := fun W => Rows_yes (kd := 1) hr hP hn0 hn hmy (by omega) (fun W => Usual_level hr hP0 hP hn0 hn hy W) W
  replace hR : ∀ W, Calls Try.prog 8 #[.int .u8 1, .int .i64 (P : Int), rv p b, .int .i64 (n : Int)] W (RowsPost p y P n W) := hR
  have hPy := fun W => Payment_yes hr hP0 hP hn0 hn hy W
  unfold RowsPost at hR
  rw [levF_rows hy.1] at hR
  obtain ⟨F, hF⟩ : ∃ F, levF p y P = F := ⟨_, rfl⟩
  have HPay : Hid (∀ k, 0 ≤ (F k).2.1 ∧ 0 ≤ (F k).1 + (F k).2.1 ∧ (F k).1 + (F k).2.1 ≤ (y : Int)) := Lib.hid (fun k => by rw [← hF]; exact lev_pay hmy)
  have HSum : Hid (∀ k, k ≤ n → 0 ≤ paysTo F k ∧ paysTo F k ≤ 1000000000000000) := Lib.hid (fun k hk => by
    have h := lev_sum hmy k
    rw [hF] at h
    have h2 : k * y ≤ 480 * 2000000000000 := Nat.mul_le_mul (by omega) hyb
    omega)
  obtain ⟨L, hL⟩ : ∃ L : Nat → Nat, (fun k => mit p y k P) = L := ⟨_, rfl⟩
  have hLk : ∀ k, mit p y k P = L k := fun k => congrFun hL k
  have HF : Hid (∀ k, (F k).2.1 = (L k : Int) - (L (k + 1) : Int) ∧ (F k).2.2 = (L (k + 1) : Int)) := Lib.hid (fun k => by
    rw [← hF, ← hLk, ← hLk]
    exact ⟨rfl, rfl⟩)
  have HL0 : Hid (L 0 = P) := Lib.hid (by rw [← hLk]; rfl)
  have HLn : Hid (L n = 0) := Lib.hid (by rw [← hLk]; exact hy.1)
  have HLb : Hid (∀ k, L k ≤ P) := Lib.hid (fun k => by rw [← hLk]; exact mit_le hmy k P (Nat.le_refl _))
  rw [hF] at hR
  have HYB := Lib.hid hyb
  have HP := Lib.hid hP
  have hS : ∀ g W, Blk W g 38 (rowsA F n) → Calls Try.prog 11 #[.slice (some ⟨g, 0, none⟩) n n] W (SumsPost F n W) := fun g W hW => Sums_any g hn W hW (fun k hk => by
    have h1 := HPay.out k
    have h2 := HSum.out (k + 1) hk
    have h3 := HYB.out
    omega)
  unfold SumsPost at hS
  unfold rv at *
  clear hr hmy hL hLk hF hyb hP0 hP hn0 hy
  go_enter Try.func3, Try.ntmps3
  have HQ0 := Lib.hid (Blk.new w 25 #[.int .u32 (p : Int), .int .u8 (b : Int)])
  have HB0 := Lib.hid (b_alloc w (.cells #[.int .u32 (p : Int), .int .u8 (b : Int)] 25))
  go_wp2_with fail
  refine (awake10 _).mono ?_
  rintro e w1 ⟨rfl, hb1⟩
  have HQ1_0 := Lib.hid (HQ0.out.below hb1 HQ0.out.lt)
  have HB1 := Lib.hid (HB0.out.trans (hb1.mono HB0.out.size))
  clear hb1
  have c1_0_0 := HQ1_0.out.cell 0
  have c1_0_1 := HQ1_0.out.cell 1
  have z1_0 := HQ1_0.out.lt
  try simp at c1_0_0 c1_0_1
  go_wp2_with fail
  refine (hR _).mono ?_
  rintro e w2 ⟨g, rfl, hg, hb2, hk2⟩
  have HQ2_0 := Lib.hid (HQ1_0.out.below hb2 HQ1_0.out.lt)
  have HB2 := Lib.hid (HB1.out.trans (hb2.mono HB1.out.size))
  have HK2 := Lib.hid hk2
  clear hb2 c1_0_0 c1_0_1 z1_0 hk2 hR
  have c2_0_0 := HQ2_0.out.cell 0
  have c2_0_1 := HQ2_0.out.cell 1
  have z2_0 := HQ2_0.out.lt
  simp at c2_0_0 c2_0_1
  go_wp2_with fail
  refine (hPy _).mono ?_
  rintro e w3 ⟨rfl, hb3⟩
  have HK3 := Lib.hid (HK2.out.below hb3 HK2.out.lt)
  have HB3 := Lib.hid (HB2.out.trans (hb3.mono HB2.out.size))
  clear hb3 c2_0_0 c2_0_1 z2_0 hg hPy
  go_wp2_with fail
  refine (hS g _ HK3.out).mono ?_
  rintro e w4 ⟨q, rfl, hq, hb4, hk4⟩
  have HK4 := Lib.hid (HK3.out.below hb4 HK3.out.lt)
  have HB4 := Lib.hid (HB3.out.trans (hb4.mono HB3.out.size))
  have HS4 := Lib.hid hk4
  clear hb4 hk4 hq hS
  go_wp2_with fail
  go_loopw [12, 13, 14, 45] (fun x s l i wr => ∃ (k : Nat), k ≤ n ∧ i = .int .i64 k ∧ x = .int .i64 ((P : Int) - (L k : Int)) ∧ s = .int .i64 (paysTo F k) ∧ l = .int .i64 (L k : Int) ∧ Hid (Blk wr g 38 (rowsA F n)) ∧ Hid (Blk wr q 22 (oneA (fun i => paysTo F (i + 1)) n)) ∧ Hid (Below w.heap.size w wr)) (fun _ _ _ i _ => n - (intOf i).toNat)
  case atStart => exact ⟨0, Nat.zero_le _, rfl, by rw [HL0.out, Int.sub_self], rfl, by rw [HL0.out], HK4, HS4, HB4⟩
  case round =>
    obtain ⟨k, hk, rfl, rfl, rfl, rfl, HGk, HSk, HBk⟩ := hrel
    by_cases hlt : k < n
    · obtain ⟨g0, g1, g2⟩ := rowsA_at F hlt
      obtain ⟨p0, p1, p2⟩ := HPay.out k
      obtain ⟨s0, s1⟩ := HSum.out k hk
      obtain ⟨s2, s3⟩ := HSum.out (k + 1) hlt
      have hyb := HYB.out
      have hlk := HLb.out k
      have hlk1 := HLb.out (k + 1)
      have hPb := HP.out
      obtain ⟨f1, f2⟩ := HF.out k
      obtain ⟨a, ha⟩ : ∃ a, (F k).1 = a := ⟨_, rfl⟩
      obtain ⟨v, hv⟩ : ∃ v, (F k).2.1 = v := ⟨_, rfl⟩
      obtain ⟨z, hz⟩ : ∃ z, (F k).2.2 = z := ⟨_, rfl⟩
      obtain ⟨s, hs⟩ : ∃ s, a + v = s := ⟨_, rfl⟩
      obtain ⟨S, hS⟩ : ∃ S, paysTo F k = S := ⟨_, rfl⟩
      obtain ⟨S2, hS2⟩ : ∃ S2, paysTo F (k + 1) = S2 := ⟨_, rfl⟩
      have hSs : S + s = S2 := by rw [← hS2, paysTo, ha, hv, hs, hS]
      rw [ha, hv, hs] at p1 p2
      rw [hv] at p0 f1
      rw [hz] at f2
      rw [hS] at s0 s1
      rw [hS2] at s2 s3
      rw [ha] at g0; rw [hv] at g1; rw [hz] at g2
      have HS2 := Lib.hid hS2
      rw [hS]
      obtain ⟨o, ho⟩ : ∃ o, (P : Int) - (L k : Int) = o := ⟨_, rfl⟩
      obtain ⟨o2, ho2⟩ : ∃ o2, (P : Int) - (L (k + 1) : Int) = o2 := ⟨_, rfl⟩
      obtain ⟨l, hl⟩ : ∃ l : Int, (L k : Int) = l := ⟨_, rfl⟩
      rw [ho, hl]
      rw [hl] at ho f1
      have hov : o + v = o2 := by omega
      have hlv : l - v = z := by omega
      have hP := fun W => Pay_any (l := z) hs (by omega) (by omega) W
      have w1_ : IntKind.i64.wrap S2 = S2 := by rw [IntKind.wrap_i64]; omega
      have w2_ : IntKind.i64.wrap o2 = o2 := by rw [IntKind.wrap_i64]; omega
      have w3_ : IntKind.i64.wrap z = z := by rw [IntKind.wrap_i64]; omega
      have w1c : wrap64 S2 = S2 := by unfold wrap64; omega
      have w2c : wrap64 o2 = o2 := by unfold wrap64; omega
      have w1b : IntKind.i64.wrap (S + s) = S2 := by rw [hSs, w1_]
      have w2b : IntKind.i64.wrap (o + v) = o2 := by rw [hov, w2_]
      have c1 : ¬ (y : Int) < s := by omega
      have c2 : ¬ v < 0 := by omega
      have HO2 := Lib.hid ho2
      have HZ := Lib.hid f2
      have d0 := (HGk.out.cell (k * 3)).trans g0
      have d1 := (HGk.out.cell (k * 3 + 1)).trans g1
      have d2 := (HGk.out.cell (k * 3 + 2)).trans g2
      have z0 := HGk.out.lt
      have HA := Lib.hid (Blk.new wr 38 #[.int .i64 a, .int .i64 v, .int .i64 z])
      have HG1 := Lib.hid (HGk.out.alloc (.cells #[.int .i64 a, .int .i64 v, .int .i64 z] 38))
      have HS1 := Lib.hid (HSk.out.alloc (.cells #[.int .i64 a, .int .i64 v, .int .i64 z] 38))
      have HB1_ := Lib.hid (HBk.out.alloc HBk.out.size (.cells #[.int .i64 a, .int .i64 v, .int .i64 z] 38))
      unfold rowV at hP
      clear g0 g1 g2 p0 p1 p2 s0 s1 s2 s3 ha hv hz hs hS hS2 ho ho2 hl f1 f2 hyb hlk hlk1 hPb
      clear HPay HSum HLb HYB HP HGk HSk HBk
      clear w1_ w2_
      go_wp2_with fail
      clear d0 d1 d2 z0
      have q11_0_0 := cell_regrown (HA.out.cell 0)
      have q11_0_1 := cell_regrown (HA.out.cell 1)
      have q11_0_2 := cell_regrown (HA.out.cell 2)
      simp at q11_0_0 q11_0_1 q11_0_2
      have A11_0 := fun (dd : Nat) (os : Array Obj) => Calls.regrown_of (hP (Go.Sort.grow (redrawn (wr.alloc (.cells #[.int .i64 a, .int .i64 v, .int .i64 z] 38)) dd) os))
      refine wp_region_quiet_below (by kernel_rfl) (by kernel_rfl) ?_
      repeat (go_big_quiet_step (first | (go_at_call 12; exact A11_0 _ _)))
      refine wpQuiet_nil ?_
      intro w11 hw11
      have hb11 : Below (wr.alloc (.cells #[.int .i64 a, .int .i64 v, .int .i64 z] 38)).heap.size (wr.alloc (.cells #[.int .i64 a, .int .i64 v, .int .i64 z] 38)) w11 := by
        obtain ⟨p, rfl⟩ := hw11
        exact below_regrown _ _ _
      clear hw11 q11_0_0 q11_0_1 q11_0_2 A11_0
      have HQ11_0 := Lib.hid (HA.out.below hb11 HA.out.lt)
      have HQ11_1 := Lib.hid (HG1.out.below hb11 HG1.out.lt)
      have HQ11_2 := Lib.hid (HS1.out.below hb11 HS1.out.lt)
      have HB11 := Lib.hid (HB1_.out.trans (hb11.mono HB1_.out.size))
      clear hb11
      have c11_0_0 := HQ11_0.out.cell 0
      have c11_0_1 := HQ11_0.out.cell 1
      have c11_0_2 := HQ11_0.out.cell 2
      have z11_0 := HQ11_0.out.lt
      have z11_1 := HQ11_1.out.lt
      have z11_2 := HQ11_2.out.lt
      try simp at c11_0_0 c11_0_1 c11_0_2
      go_wp2_with fail
      refine (hP _).mono ?_
      rintro e w12 ⟨rfl, hb12⟩
      have HQ12_0 := Lib.hid (HQ11_0.out.below hb12 HQ11_0.out.lt)
      have HQ12_1 := Lib.hid (HQ11_1.out.below hb12 HQ11_1.out.lt)
      have HQ12_2 := Lib.hid (HQ11_2.out.below hb12 HQ11_2.out.lt)
      have HB12 := Lib.hid (HB11.out.trans (hb12.mono HB11.out.size))
      clear hb12 c11_0_0 c11_0_1 c11_0_2 z11_0 z11_1 z11_2
      have c12_0_0 := HQ12_0.out.cell 0
      have c12_0_1 := HQ12_0.out.cell 1
      have c12_0_2 := HQ12_0.out.cell 2
      have z12_0 := HQ12_0.out.lt
      have z12_1 := HQ12_1.out.lt
      have z12_2 := HQ12_2.out.lt
      try simp at c12_0_0 c12_0_1 c12_0_2
      have b0 := (HQ12_2.out.cell k).trans (oneA_at _ hlt)
      rw [HS2.out] at b0
      go_wp2_with fail
      go_roundw
      case rel => exact ⟨k + 1, by omega, by go_num, by rw [HO2.out], by rw [HS2.out], by rw [HZ.out], HQ12_1, HQ12_2, HB12⟩
      case measure => simp [intOf]; omega
    · have hkn : k = n := by omega
      subst hkn
      have e1 := HLn.out
      rw [e1]
      have e2 : (P : Int) - ((0 : Nat) : Int) = (P : Int) := by omega
      rw [e2]
      go_wp2_with fail
      go_ret
      exact ⟨by first | rfl | simp, HBk.out⟩
theorem LAdds_any (p b : Nat) (P n : Int) (w : World) : Calls Try.prog 3 #[.int .i64 P, rv p b, .int .i64 n] w (Ret (.bool true) w) := by
  by_cases h : lvB p b P n
  · obtain ⟨hr, a1, a2, a3, a4⟩ := h
    obtain ⟨P, rfl⟩ : ∃ k : Nat, P = (k : Int) := ⟨P.toNat, by omega⟩
    obtain ⟨n, rfl⟩ : ∃ k : Nat, n = (k : Int) := ⟨n.toNat, by omega⟩
    exact LAdds_yes hr (by omega) (by omega) (by omega) (by omega) w
  · exact LAdds_no h w
end Go.Proofs.Ytbikfplipkhhcaa
