/-
  level: whether a payment leaves nothing; the least one. Conditions: the numbers' kinds.
-/
import Derived.Test.YtbikfplipkhhcaaLvlA
import Derived.LoopTactic
namespace Go.Proofs.Ytbikfplipkhhcaa
open Go.RowKit

set_option maxRecDepth 20000 in
set_option maxHeartbeats 4000000 in
theorem clears_any {P p b n y : Nat} (hP0 : 1 ≤ P) (hP : P ≤ 1000000000000) (hr : rateB p b) (hn : n ≤ 480) (hy : y ≤ 9223372036854775807) (w : World) :
    Calls Try.prog 20 #[.int .i64 (P : Int), rv p b, .int .i64 (n : Int), .int .i64 (y : Int)] w (Ret (.bool (clB p y n P)) w) := by
  have hM : ∀ (Q : Nat), Q ≤ 1000000000000 → ∀ W, Calls Try.prog 17 #[.int .i64 (Q : Int), rv p b, .int .i64 (y : Int)] W (Ret (.tuple #[rowV ((mi p Q : Nat) : Int) (min (y : Int) ((Q : Int) + (mi p Q : Nat)) - (mi p Q : Nat)) ((Q : Int) - (min (y : Int) ((Q : Int) + (mi p Q : Nat)) - (mi p Q : Nat))), .nilIface]) W) :=
    fun Q hQ W => month_any hQ hr (by omega) (by omega) W
  have HM := Lib.hid hM
  have HY := Lib.hid hy
  obtain ⟨B, HBV⟩ : ∃ B, Hid (clB p y n P = B) := ⟨_, Lib.hid rfl⟩
  rw [HBV.out]
  unfold rv rowV at HM
  unfold rv
  clear hM hy hr
  go_enter Try.func20, Try.ntmps20
  have HQ0 := Lib.hid (Blk.new w 25 #[.int .u32 (p : Int), .int .u8 (b : Int)])
  have HB0 := Lib.hid (b_alloc w (.cells #[.int .u32 (p : Int), .int .u8 (b : Int)] 25))
  go_wp2_with fail
  go_loopw [9, 14] (fun x i wr => ∃ (k Q : Nat), k ≤ n ∧ i = .int .i64 k ∧ x = .int .i64 Q ∧ 1 ≤ Q ∧ Q ≤ 1000000000000 ∧ Hid (clB p y (n - k) Q = B) ∧ Hid (Below (w.heap.size + 1) (w.alloc (.cells #[.int .u32 (p : Int), .int .u8 (b : Int)] 25)) wr)) (fun _ i _ => n - (intOf i).toNat)
  case atStart => exact ⟨0, P, Nat.zero_le _, rfl, rfl, hP0, hP, HBV, Lib.hid (Below.refl _ _)⟩
  case round =>
    obtain ⟨k, Q, hk, rfl, rfl, hQ0, hQ1, HC, HW⟩ := hrel
    have HK0 := Lib.hid (HQ0.out.below HW.out (by simp))
    have c0 := HK0.out.cell 0
    have c1 := HK0.out.cell 1
    have z0 := HK0.out.lt
    simp at c0 c1
    by_cases hlt : k < n
    · have hMQ := fun W => HM.out Q hQ1 W
      obtain ⟨m, HMM⟩ : ∃ m, Hid (mi p Q = m) := ⟨_, Lib.hid rfl⟩
      rw [HMM.out] at hMQ
      have hst : mst p y Q = Q + m - y := by unfold mst; rw [HMM.out]
      obtain ⟨j, hj⟩ : ∃ j, n - k = j + 1 := ⟨n - k - 1, by omega⟩
      have hcl := HC.out
      rw [hj, clB, hst] at hcl
      obtain ⟨o, ho⟩ : ∃ o, min (y : Int) ((Q : Int) + (m : Int)) - (m : Int) = o := ⟨_, rfl⟩
      rw [ho] at hMQ
      clear HC hst
      rcases (show Q ≤ Q + m - y ∨ (¬ Q ≤ Q + m - y ∧ Q + m - y = 0) ∨ (¬ Q ≤ Q + m - y ∧ ¬ Q + m - y = 0) by omega) with h1 | ⟨h1, h2⟩ | ⟨h1, h2⟩
      · rw [if_pos h1] at hcl
        subst hcl
        have i1 : o ≤ 0 := by omega
        clear h1 ho hQ1
        go_wp2_with fail
        refine (hMQ _).mono ?_
        rintro e w2 ⟨rfl, hb2⟩
        go_wp2_with fail
        go_ret
        exact ⟨rfl, (HB0.out.trans (HW.out.mono (by simp))).trans (hb2.mono (by have := HW.out.size; simp at this; omega)) |>.alloc (by have := HW.out.size; have := hb2.size; simp at *; omega) _⟩
      · rw [if_neg h1, if_pos h2] at hcl
        subst hcl
        have i1 : ¬ o ≤ 0 := by omega
        have i2 : (Q : Int) - o = 0 := by omega
        rw [i2] at hMQ
        clear h1 h2 ho hQ1 i2
        go_wp2_with fail
        refine (hMQ _).mono ?_
        rintro e w2 ⟨rfl, hb2⟩
        go_wp2_with fail
        go_ret
        exact ⟨rfl, (HB0.out.trans (HW.out.mono (by simp))).trans (hb2.mono (by have := HW.out.size; simp at this; omega)) |>.alloc (by have := HW.out.size; have := hb2.size; simp at *; omega) _⟩
      · rw [if_neg h1, if_neg h2] at hcl
        have i1 : ¬ o ≤ 0 := by omega
        obtain ⟨Q2, hq2⟩ : ∃ q, Q + m - y = q := ⟨_, rfl⟩
        rw [hq2] at hcl h1 h2
        have i2 : (Q : Int) - o = (Q2 : Int) := by omega
        have i3 : ¬ (Q2 : Int) = 0 := by omega
        have i4 : Q2 ≤ 1000000000000 := by omega
        have i5 : 1 ≤ Q2 := by omega
        rw [i2] at hMQ
        have HC2 : Hid (clB p y (n - (k + 1)) Q2 = B) := Lib.hid (by rw [show n - (k + 1) = j by omega]; exact hcl)
        clear h1 h2 ho hQ1 i2 hcl hq2 hj
        go_wp2_with fail
        refine (hMQ _).mono ?_
        rintro e w2 ⟨rfl, hb2⟩
        go_wp2_with fail
        go_roundw
        case rel => exact ⟨k + 1, Q2, by omega, by go_num, rfl, i5, i4, HC2, Lib.hid ((HW.out.trans (hb2.mono (by have := HW.out.size; simp at this; omega))).alloc (by have := HW.out.size; have := hb2.size; simp at *; omega) _)⟩
        case measure => simp [intOf]; omega
    · have hkn : k = n := by omega
      subst hkn
      have hB : B = false := by have := HC.out; rw [Nat.sub_self] at this; exact this.symm
      subst hB
      go_wp2_with fail
      go_ret
      exact ⟨rfl, HB0.out.trans (HW.out.mono (by simp))⟩
set_option maxRecDepth 20000 in
set_option maxHeartbeats 4000000 in
theorem Payment_yes {P p b n y : Nat} (hr : rateB p b) (hP0 : 1 ≤ P) (hP : P ≤ 1000000000000) (hn0 : 1 ≤ n) (hn : n ≤ 480) (hy : Lst p n P y) (w : World) :
    Calls Try.prog 10 #[.int .i64 (P : Int), rv p b, .int .i64 (n : Int)] w (Ret (.tuple #[.int .i64 (y : Int), .nilIface]) w) := by
  have hT := fun W => ltakes_yes (n := n) hr hP0 hP hn0 hn W
  have hM : ∀ W, Calls Try.prog 15 #[rv p b, .int .i64 (P : Int)] W (Ret (.tuple #[.int .i64 ((mi p P : Nat) : Int), .nilIface]) W) := fun W => Month_yes hP hr W
  have hA := fun W => part_any hP hn0 hn W
  have hm := mi_bd hP hr.1
  have hq := prt_bd hn0 hP0
  have hq1 := prt_pos hn0 hP0
  have hlo := hy.low hn0 hP0
  have hhi := hy.high hn0
  have hC : ∀ z : Nat, z ≤ 9223372036854775807 → ∀ W, Calls Try.prog 20 #[.int .i64 (P : Int), rv p b, .int .i64 (n : Int), .int .i64 (z : Int)] W (Ret (.bool (decide (y ≤ z))) W) := fun z hz W => by
    have h := clears_any hP0 hP hr hn hz W
    have e : clB p z n P = decide (y ≤ z) := by
      rw [Bool.eq_iff_iff, clB_iff n P hP0, hy.iff, decide_eq_true_eq]
    rwa [e] at h
  obtain ⟨m, hm2⟩ : ∃ m, mi p P = m := ⟨_, rfl⟩
  obtain ⟨q, hq2⟩ : ∃ q, prt P n = q := ⟨_, rfl⟩
  rw [hm2] at hM hm hhi
  rw [hq2] at hA hq hq1 hlo hhi
  have HC := Lib.hid hC
  obtain ⟨h, hh⟩ : ∃ h, q + m = h := ⟨_, rfl⟩
  have i1 : (q : Int) + (m : Int) = (h : Int) := by omega
  have i2 : h ≤ 2000000000000 := by omega
  have i3 : y ≤ h := by omega
  unfold rv at *
  clear hC hr hy hm2 hq2 hm hq hhi hn hP0 hP hh
  go_enter Try.func10, Try.ntmps10
  have HQ0 := Lib.hid (Blk.new w 25 #[.int .u32 (p : Int), .int .u8 (b : Int)])
  have HB0 := Lib.hid (b_alloc w (.cells #[.int .u32 (p : Int), .int .u8 (b : Int)] 25))
  go_wp2_with fail
  refine (hT _).mono ?_
  rintro e w1 ⟨rfl, hb1⟩
  have HQ1_0 := Lib.hid (HQ0.out.below hb1 HQ0.out.lt)
  have HB1 := Lib.hid (HB0.out.trans (hb1.mono HB0.out.size))
  clear hb1
  have c1_0_0 := HQ1_0.out.cell 0
  have c1_0_1 := HQ1_0.out.cell 1
  have z1_0 := HQ1_0.out.lt
  try simp at c1_0_0 c1_0_1
  go_wp2_with fail
  refine (hM _).mono ?_
  rintro e w2 ⟨rfl, hb2⟩
  have HQ2_0 := Lib.hid (HQ1_0.out.below hb2 HQ1_0.out.lt)
  have HB2 := Lib.hid (HB1.out.trans (hb2.mono HB1.out.size))
  clear hb2 c1_0_0 c1_0_1 z1_0
  have c2_0_0 := HQ2_0.out.cell 0
  have c2_0_1 := HQ2_0.out.cell 1
  have z2_0 := HQ2_0.out.lt
  try simp at c2_0_0 c2_0_1
  go_wp2_with fail
  refine (hA _).mono ?_
  rintro e w3 ⟨rfl, hb3⟩
  have HQ3_0 := Lib.hid (HQ2_0.out.below hb3 HQ2_0.out.lt)
  have HB3 := Lib.hid (HB2.out.trans (hb3.mono HB2.out.size))
  clear hb3 c2_0_0 c2_0_1 z2_0
  have c3_0_0 := HQ3_0.out.cell 0
  have c3_0_1 := HQ3_0.out.cell 1
  have z3_0 := HQ3_0.out.lt
  try simp at c3_0_0 c3_0_1
  go_wp2_with fail
  go_loopw [10, 11] (fun x z wr => ∃ (l u : Nat), l ≤ y ∧ y ≤ u ∧ u ≤ 2000000000000 ∧ x = .int .i64 l ∧ z = .int .i64 u ∧ Hid (Below w3.heap.size w3 wr)) (fun x z _ => (intOf z - intOf x).toNat)
  case atStart => exact ⟨q, h, hlo, i3, i2, rfl, by first | rfl | rw [← i1], Lib.hid (Below.refl _ _)⟩
  case round =>
    obtain ⟨l, u, hl, hu, hu2, rfl, rfl, HW⟩ := hrel
    clear c3_0_0 c3_0_1 z3_0
    have HK0 := Lib.hid (HQ3_0.out.below HW.out HQ3_0.out.lt)
    have c0 := HK0.out.cell 0
    have c1 := HK0.out.cell 1
    have z0 := HK0.out.lt
    simp at c0 c1
    by_cases hlt : l < u
    · obtain ⟨d, hd⟩ : ∃ d, u - l = d := ⟨_, rfl⟩
      obtain ⟨d2, hd2⟩ : ∃ d2, d / 2 = d2 := ⟨_, rfl⟩
      obtain ⟨v, hv⟩ : ∃ v, l + d2 = v := ⟨_, rfl⟩
      have j1 : (u : Int) - (l : Int) = (d : Int) := by omega
      have j2 : (d : Int).tdiv 2 = (d2 : Int) := by rw [← hd2]; exact Int.ofNat_tdiv d 2
      have j3 : (l : Int) + (d2 : Int) = (v : Int) := by omega
      have j4 : l ≤ v := by omega
      have j5 : v < u := by omega
      have j6 : d ≤ 2000000000000 := by omega
      have j7 : d2 ≤ 2000000000000 := by omega
      have hCv := fun W => HC.out v (by omega) W
      clear hd hd2 hv
      by_cases hyv : y ≤ v
      · rw [decide_eq_true hyv] at hCv
        go_wp2_with fail
        refine (hCv _).mono ?_
        rintro e w4 ⟨rfl, hb4⟩
        go_wp2_with fail
        go_roundw
        case rel => exact ⟨l, v, hl, hyv, by omega, rfl, rfl, Lib.hid (HW.out.trans (hb4.mono HW.out.size))⟩
        case measure => simp [intOf]; omega
      · rw [decide_eq_false hyv] at hCv
        go_wp2_with fail
        refine (hCv _).mono ?_
        rintro e w4 ⟨rfl, hb4⟩
        go_wp2_with fail
        go_roundw
        case rel => exact ⟨v + 1, u, by omega, hu, hu2, by go_num, rfl, Lib.hid (HW.out.trans (hb4.mono HW.out.size))⟩
        case measure => simp [intOf]; omega
    · obtain rfl : l = y := by omega
      go_wp2_with fail
      go_ret2
      exact ⟨rfl, HB3.out.trans (HW.out.mono HB3.out.size)⟩
set_option maxRecDepth 20000 in
set_option maxHeartbeats 4000000 in
theorem Payment_no {p b : Nat} {P n : Int} (h : ¬ lvB p b P n) (w : World) :
    Calls Try.prog 10 #[.int .i64 P, rv p b, .int .i64 n] w (Ret (.tuple #[.int .i64 0, eno 1]) w) := by
  have hT := fun W => ltakes_no h W
  unfold eno
  unfold rv at *
  clear h
  go_enter Try.func10, Try.ntmps10
  have HQ0 := Lib.hid (Blk.new w 25 #[.int .u32 (p : Int), .int .u8 (b : Int)])
  have HB0 := Lib.hid (b_alloc w (.cells #[.int .u32 (p : Int), .int .u8 (b : Int)] 25))
  go_wp2_with fail
  refine (hT _).mono ?_
  rintro e w1 ⟨rfl, hb1⟩
  have HQ1_0 := Lib.hid (HQ0.out.below hb1 HQ0.out.lt)
  have HB1 := Lib.hid (HB0.out.trans (hb1.mono HB0.out.size))
  clear hb1
  have c1_0_0 := HQ1_0.out.cell 0
  have c1_0_1 := HQ1_0.out.cell 1
  have z1_0 := HQ1_0.out.lt
  try simp at c1_0_0 c1_0_1
  go_wp2_with fail
  go_ret2
  exact ⟨rfl, HB1.out⟩
end Go.Proofs.Ytbikfplipkhhcaa
