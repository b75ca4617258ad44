/-
level: whether a payment leaves nothing; the least one. Conditions: the numbers' kinds.
level: names, Pay, Rows. Conditions: the numbers' kinds.
level: names, Sums, the example. Conditions: the numbers' kinds.
-/
import Derived.Test.YtpbfipeinblfgaaGreatDoorLvlAQ9
import Derived.LoopTactic
import Derived.Laws.MakeOwn
import Derived.Lib.Strings
namespace Go.Proofs.YtpbfipeinblfgaaGreatDoor
open Go.RowKit

set_option maxRecDepth 20000 in
set_option maxHeartbeats 4000000 in
theorem clears_any {P p b n y : Nat} (hP0 : 1 ≤ P) (hP : P ≤ 1000000000000) (hr : rateB p b) (hn : n ≤ 480) (hy : y ≤ 9223372036854775807) (w : World) :
    Calls Tryz.prog 178 #[.int .i64 (P : Int), rv p b, .int .i64 (n : Int), .int .i64 (y : Int)] w (Ret (.bool (clB p y n P)) w) := by
  have hM : ∀ (Q : Nat), Q ≤ 1000000000000 → ∀ W, Calls Tryz.prog 92 #[.int .i64 (Q : Int), rv p b, .int .i64 (y : Int)] W (Ret (.tuple #[rowV ((mi p Q : Nat) : Int) (min (y : Int) ((Q : Int) + (mi p Q : Nat)) - (mi p Q : Nat)) ((Q : Int) - (min (y : Int) ((Q : Int) + (mi p Q : Nat)) - (mi p Q : Nat))), .nilIface]) W) :=
    fun Q hQ W => month_any hQ hr (by omega) (by omega) W
  have HM := Lib.hid hM
  have HY := Lib.hid hy
  obtain ⟨B, HBV⟩ : ∃ B, Hid (clB p y n P = B) := ⟨_, Lib.hid rfl⟩
  rw [HBV.out]
  unfold rv rowV at HM
  unfold rv
  clear hM hy hr
  go_enter Tryz.func178, Tryz.ntmps178
  have HQ0 := Lib.hid (Blk.new w 25 #[.int .u32 (p : Int), .int .u8 (b : Int)])
  have HB0 := Lib.hid (b_alloc w (.cells #[.int .u32 (p : Int), .int .u8 (b : Int)] 25))
  go_wp2_with fail
  go_loopw [9, 14] (fun x i wr => ∃ (k Q : Nat), k ≤ n ∧ i = .int .i64 k ∧ x = .int .i64 Q ∧ 1 ≤ Q ∧ Q ≤ 1000000000000 ∧ Hid (clB p y (n - k) Q = B) ∧ Hid (Below (w.heap.size + 1) (w.alloc (.cells #[.int .u32 (p : Int), .int .u8 (b : Int)] 25)) wr)) (fun _ i _ => n - (intOf i).toNat)
  case atStart => exact ⟨0, P, Nat.zero_le _, rfl, rfl, hP0, hP, HBV, Lib.hid (Below.refl _ _)⟩
  case round =>
    obtain ⟨k, Q, hk, rfl, rfl, hQ0, hQ1, HC, HW⟩ := hrel
    have HK0 := Lib.hid (HQ0.out.below HW.out (by simp))
    have c0 := HK0.out.cell 0
    have c1 := HK0.out.cell 1
    have z0 := HK0.out.lt
    simp at c0 c1
    by_cases hlt : k < n
    · have hMQ := fun W => HM.out Q hQ1 W
      obtain ⟨m, HMM⟩ : ∃ m, Hid (mi p Q = m) := ⟨_, Lib.hid rfl⟩
      rw [HMM.out] at hMQ
      have hst : mst p y Q = Q + m - y := by unfold mst; rw [HMM.out]
      obtain ⟨j, hj⟩ : ∃ j, n - k = j + 1 := ⟨n - k - 1, by omega⟩
      have hcl := HC.out
      rw [hj, clB, hst] at hcl
      obtain ⟨o, ho⟩ : ∃ o, min (y : Int) ((Q : Int) + (m : Int)) - (m : Int) = o := ⟨_, rfl⟩
      rw [ho] at hMQ
      clear HC hst
      rcases (show Q ≤ Q + m - y ∨ (¬ Q ≤ Q + m - y ∧ Q + m - y = 0) ∨ (¬ Q ≤ Q + m - y ∧ ¬ Q + m - y = 0) by omega) with h1 | ⟨h1, h2⟩ | ⟨h1, h2⟩
      · rw [if_pos h1] at hcl
        subst hcl
        have i1 : o ≤ 0 := by omega
        clear h1 ho hQ1
        go_wp2_with fail
        refine (hMQ _).mono ?_
        rintro e w2 ⟨rfl, hb2⟩
        go_wp2_with fail
        go_ret
        exact ⟨rfl, (HB0.out.trans (HW.out.mono (by simp))).trans (hb2.mono (by have := HW.out.size; simp at this; omega)) |>.alloc (by have := HW.out.size; have := hb2.size; simp at *; omega) _⟩
      · rw [if_neg h1, if_pos h2] at hcl
        subst hcl
        have i1 : ¬ o ≤ 0 := by omega
        have i2 : (Q : Int) - o = 0 := by omega
        rw [i2] at hMQ
        clear h1 h2 ho hQ1 i2
        go_wp2_with fail
        refine (hMQ _).mono ?_
        rintro e w2 ⟨rfl, hb2⟩
        go_wp2_with fail
        go_ret
        exact ⟨rfl, (HB0.out.trans (HW.out.mono (by simp))).trans (hb2.mono (by have := HW.out.size; simp at this; omega)) |>.alloc (by have := HW.out.size; have := hb2.size; simp at *; omega) _⟩
      · rw [if_neg h1, if_neg h2] at hcl
        have i1 : ¬ o ≤ 0 := by omega
        obtain ⟨Q2, hq2⟩ : ∃ q, Q + m - y = q := ⟨_, rfl⟩
        rw [hq2] at hcl h1 h2
        have i2 : (Q : Int) - o = (Q2 : Int) := by omega
        have i3 : ¬ (Q2 : Int) = 0 := by omega
        have i4 : Q2 ≤ 1000000000000 := by omega
        have i5 : 1 ≤ Q2 := by omega
        rw [i2] at hMQ
        have HC2 : Hid (clB p y (n - (k + 1)) Q2 = B) := Lib.hid (by rw [show n - (k + 1) = j by omega]; exact hcl)
        clear h1 h2 ho hQ1 i2 hcl hq2 hj
        go_wp2_with fail
        refine (hMQ _).mono ?_
        rintro e w2 ⟨rfl, hb2⟩
        go_wp2_with fail
        go_roundw
        case rel => exact ⟨k + 1, Q2, by omega, by go_num, rfl, i5, i4, HC2, Lib.hid ((HW.out.trans (hb2.mono (by have := HW.out.size; simp at this; omega))).alloc (by have := HW.out.size; have := hb2.size; simp at *; omega) _)⟩
        case measure => simp [intOf]; omega
    · have hkn : k = n := by omega
      subst hkn
      have hB : B = false := by have := HC.out; rw [Nat.sub_self] at this; exact this.symm
      subst hB
      go_wp2_with fail
      go_ret
      exact ⟨rfl, HB0.out.trans (HW.out.mono (by simp))⟩
set_option maxRecDepth 20000 in
set_option maxHeartbeats 4000000 in
theorem Payment_yes {P p b n y : Nat} (hr : rateB p b) (hP0 : 1 ≤ P) (hP : P ≤ 1000000000000) (hn0 : 1 ≤ n) (hn : n ≤ 480) (hy : Lst p n P y) (w : World) :
    Calls Tryz.prog 139 #[.int .i64 (P : Int), rv p b, .int .i64 (n : Int)] w (Ret (.tuple #[.int .i64 (y : Int), .nilIface]) w) := by
  have hT := fun W => ltakes_yes (n := n) hr hP0 hP hn0 hn W
  have hM : ∀ W, Calls Tryz.prog 141 #[rv p b, .int .i64 (P : Int)] W (Ret (.tuple #[.int .i64 ((mi p P : Nat) : Int), .nilIface]) W) := fun W => Month_yes hP hr W
  have hA := fun W => part_any hP hn0 hn W
  have hm := mi_bd hP hr.1
  have hq := prt_bd hn0 hP0
  have hq1 := prt_pos hn0 hP0
  have hlo := hy.low hn0 hP0
  have hhi := hy.high hn0
  have hC : ∀ z : Nat, z ≤ 9223372036854775807 → ∀ W, Calls Tryz.prog 178 #[.int .i64 (P : Int), rv p b, .int .i64 (n : Int), .int .i64 (z : Int)] W (Ret (.bool (decide (y ≤ z))) W) := fun z hz W => by
    have h := clears_any hP0 hP hr hn hz W
    have e : clB p z n P = decide (y ≤ z) := by
      rw [Bool.eq_iff_iff, clB_iff n P hP0, hy.iff, decide_eq_true_eq]
    rwa [e] at h
  obtain ⟨m, hm2⟩ : ∃ m, mi p P = m := ⟨_, rfl⟩
  obtain ⟨q, hq2⟩ : ∃ q, prt P n = q := ⟨_, rfl⟩
  rw [hm2] at hM hm hhi
  rw [hq2] at hA hq hq1 hlo hhi
  have HC := Lib.hid hC
  obtain ⟨h, hh⟩ : ∃ h, q + m = h := ⟨_, rfl⟩
  have i1 : (q : Int) + (m : Int) = (h : Int) := by omega
  have i2 : h ≤ 2000000000000 := by omega
  have i3 : y ≤ h := by omega
  unfold rv at *
  clear hC hr hy hm2 hq2 hm hq hhi hn hP0 hP hh
  go_enter Tryz.func139, Tryz.ntmps139
  have HQ0 := Lib.hid (Blk.new w 25 #[.int .u32 (p : Int), .int .u8 (b : Int)])
  have HB0 := Lib.hid (b_alloc w (.cells #[.int .u32 (p : Int), .int .u8 (b : Int)] 25))
  go_wp2_with fail
  refine (hT _).mono ?_
  rintro e w1 ⟨rfl, hb1⟩
  have HQ1_0 := Lib.hid (HQ0.out.below hb1 HQ0.out.lt)
  have HB1 := Lib.hid (HB0.out.trans (hb1.mono HB0.out.size))
  clear hb1
  have c1_0_0 := HQ1_0.out.cell 0
  have c1_0_1 := HQ1_0.out.cell 1
  have z1_0 := HQ1_0.out.lt
  try simp at c1_0_0 c1_0_1
  go_wp2_with fail
  refine (hM _).mono ?_
  rintro e w2 ⟨rfl, hb2⟩
  have HQ2_0 := Lib.hid (HQ1_0.out.below hb2 HQ1_0.out.lt)
  have HB2 := Lib.hid (HB1.out.trans (hb2.mono HB1.out.size))
  clear hb2 c1_0_0 c1_0_1 z1_0
  have c2_0_0 := HQ2_0.out.cell 0
  have c2_0_1 := HQ2_0.out.cell 1
  have z2_0 := HQ2_0.out.lt
  try simp at c2_0_0 c2_0_1
  go_wp2_with fail
  refine (hA _).mono ?_
  rintro e w3 ⟨rfl, hb3⟩
  have HQ3_0 := Lib.hid (HQ2_0.out.below hb3 HQ2_0.out.lt)
  have HB3 := Lib.hid (HB2.out.trans (hb3.mono HB2.out.size))
  clear hb3 c2_0_0 c2_0_1 z2_0
  have c3_0_0 := HQ3_0.out.cell 0
  have c3_0_1 := HQ3_0.out.cell 1
  have z3_0 := HQ3_0.out.lt
  try simp at c3_0_0 c3_0_1
  go_wp2_with fail
  go_loopw [10, 11] (fun x z wr => ∃ (l u : Nat), l ≤ y ∧ y ≤ u ∧ u ≤ 2000000000000 ∧ x = .int .i64 l ∧ z = .int .i64 u ∧ Hid (Below w3.heap.size w3 wr)) (fun x z _ => (intOf z - intOf x).toNat)
  case atStart => exact ⟨q, h, hlo, i3, i2, rfl, by first | rfl | rw [← i1], Lib.hid (Below.refl _ _)⟩
  case round =>
    obtain ⟨l, u, hl, hu, hu2, rfl, rfl, HW⟩ := hrel
    clear c3_0_0 c3_0_1 z3_0
    have HK0 := Lib.hid (HQ3_0.out.below HW.out HQ3_0.out.lt)
    have c0 := HK0.out.cell 0
    have c1 := HK0.out.cell 1
    have z0 := HK0.out.lt
    simp at c0 c1
    by_cases hlt : l < u
    · obtain ⟨d, hd⟩ : ∃ d, u - l = d := ⟨_, rfl⟩
      obtain ⟨d2, hd2⟩ : ∃ d2, d / 2 = d2 := ⟨_, rfl⟩
      obtain ⟨v, hv⟩ : ∃ v, l + d2 = v := ⟨_, rfl⟩
      have j1 : (u : Int) - (l : Int) = (d : Int) := by omega
      have j2 : (d : Int).tdiv 2 = (d2 : Int) := by rw [← hd2]; exact Int.ofNat_tdiv d 2
      have j3 : (l : Int) + (d2 : Int) = (v : Int) := by omega
      have j4 : l ≤ v := by omega
      have j5 : v < u := by omega
      have j6 : d ≤ 2000000000000 := by omega
      have j7 : d2 ≤ 2000000000000 := by omega
      have hCv := fun W => HC.out v (by omega) W
      clear hd hd2 hv
      by_cases hyv : y ≤ v
      · rw [decide_eq_true hyv] at hCv
        go_wp2_with fail
        refine (hCv _).mono ?_
        rintro e w4 ⟨rfl, hb4⟩
        go_wp2_with fail
        go_roundw
        case rel => exact ⟨l, v, hl, hyv, by omega, rfl, rfl, Lib.hid (HW.out.trans (hb4.mono HW.out.size))⟩
        case measure => simp [intOf]; omega
      · rw [decide_eq_false hyv] at hCv
        go_wp2_with fail
        refine (hCv _).mono ?_
        rintro e w4 ⟨rfl, hb4⟩
        go_wp2_with fail
        go_roundw
        case rel => exact ⟨v + 1, u, by omega, hu, hu2, by go_num, rfl, Lib.hid (HW.out.trans (hb4.mono HW.out.size))⟩
        case measure => simp [intOf]; omega
    · obtain rfl : l = y := by omega
      go_wp2_with fail
      go_ret2
      exact ⟨rfl, HB3.out.trans (HW.out.mono HB3.out.size)⟩
set_option maxRecDepth 20000 in
set_option maxHeartbeats 4000000 in
theorem Payment_no {p b : Nat} {P n : Int} (h : ¬ lvB p b P n) (w : World) :
    Calls Tryz.prog 139 #[.int .i64 P, rv p b, .int .i64 n] w (Ret (.tuple #[.int .i64 0, eno 1]) w) := by
  have hT := fun W => ltakes_no h W
  unfold eno
  unfold rv at *
  clear h
  go_enter Tryz.func139, Tryz.ntmps139
  have HQ0 := Lib.hid (Blk.new w 25 #[.int .u32 (p : Int), .int .u8 (b : Int)])
  have HB0 := Lib.hid (b_alloc w (.cells #[.int .u32 (p : Int), .int .u8 (b : Int)] 25))
  go_wp2_with fail
  refine (hT _).mono ?_
  rintro e w1 ⟨rfl, hb1⟩
  have HQ1_0 := Lib.hid (HQ0.out.below hb1 HQ0.out.lt)
  have HB1 := Lib.hid (HB0.out.trans (hb1.mono HB0.out.size))
  clear hb1
  have c1_0_0 := HQ1_0.out.cell 0
  have c1_0_1 := HQ1_0.out.cell 1
  have z1_0 := HQ1_0.out.lt
  try simp at c1_0_0 c1_0_1
  go_wp2_with fail
  go_ret2
  exact ⟨rfl, HB1.out⟩
end Go.Proofs.YtpbfipeinblfgaaGreatDoor
namespace Go.Proofs.YtpbfipeinblfgaaGreatDoor
open Go.RowKit

set_option maxRecDepth 20000 in
set_option maxHeartbeats 4000000 in
theorem Pay_any {i o l s : Int} (hs : i + o = s) (h0 : -9223372036854775808 ≤ s) (h1 : s ≤ 9223372036854775807) (w : World) :
    Calls Tryz.prog 93 #[rowV i o l] w (Ret (.int .i64 s) w) := by
  have i1 : IntKind.i64.wrap s = s := by rw [IntKind.wrap_i64]; omega
  unfold rowV
  clear h0 h1
  go_enter Tryz.func93, Tryz.ntmps93
  go_wp2_with fail
  go_ret
  exact ⟨by first | rfl | (simp [hs, i1]; done), b_alloc _ _⟩
set_option maxRecDepth 20000 in
set_option maxHeartbeats 4000000 in
theorem Usual_level {P p b n y : Nat} (hr : rateB p b) (hP0 : 1 ≤ P) (hP : P ≤ 1000000000000) (hn0 : 1 ≤ n) (hn : n ≤ 480) (hy : Lst p n P y) (w : World) :
    Calls Tryz.prog 91 #[.int .u8 1, .int .i64 (P : Int), rv p b, .int .i64 (n : Int)] w (Ret (.tuple #[.int .i64 (y : Int), .nilIface]) w) := by
  have hA := fun W => Payment_yes hr hP0 hP hn0 hn hy W
  unfold rv at *
  clear hr hy
  go_enter Tryz.func91, Tryz.ntmps91
  have HQ0 := Lib.hid (Blk.new w 25 #[.int .u32 (p : Int), .int .u8 (b : Int)])
  have HB0 := Lib.hid (b_alloc w (.cells #[.int .u32 (p : Int), .int .u8 (b : Int)] 25))
  go_wp2_with fail
  refine (hA _).mono ?_
  rintro e w1 ⟨rfl, hb1⟩
  have HQ1_0 := Lib.hid (HQ0.out.below hb1 HQ0.out.lt)
  have HB1 := Lib.hid (HB0.out.trans (hb1.mono HB0.out.size))
  clear hb1
  have c1_0_0 := HQ1_0.out.cell 0
  have c1_0_1 := HQ1_0.out.cell 1
  have z1_0 := HQ1_0.out.lt
  try simp at c1_0_0 c1_0_1
  go_wp2_with fail
  go_ret2
  exact ⟨rfl, HB1.out⟩
set_option maxRecDepth 20000 in
set_option maxHeartbeats 4000000 in
theorem Usual_only {P p b n : Nat} (hr : rateB p b) (hP0 : 1 ≤ P) (hP : P ≤ 1000000000000) (hn0 : 1 ≤ n) (hn : n ≤ 480) (w : World) :
    Calls Tryz.prog 91 #[.int .u8 2, .int .i64 (P : Int), rv p b, .int .i64 (n : Int)] w (Ret (.tuple #[.int .i64 ((mi p P : Nat) : Int), .nilIface]) w) := by
  have hT := fun W => ltakes_yes (n := n) hr hP0 hP hn0 hn W
  have hM : ∀ W, Calls Tryz.prog 141 #[rv p b, .int .i64 (P : Int)] W (Ret (.tuple #[.int .i64 ((mi p P : Nat) : Int), .nilIface]) W) := fun W => Month_yes hP hr W
  obtain ⟨m, hm⟩ : ∃ m, mi p P = m := ⟨_, rfl⟩
  rw [hm] at hM ⊢
  unfold rv at *
  clear hr hm
  go_enter Tryz.func91, Tryz.ntmps91
  have HQ0 := Lib.hid (Blk.new w 25 #[.int .u32 (p : Int), .int .u8 (b : Int)])
  have HB0 := Lib.hid (b_alloc w (.cells #[.int .u32 (p : Int), .int .u8 (b : Int)] 25))
  go_wp2_with fail
  refine (hT _).mono ?_
  rintro e w1 ⟨rfl, hb1⟩
  have HQ1_0 := Lib.hid (HQ0.out.below hb1 HQ0.out.lt)
  have HB1 := Lib.hid (HB0.out.trans (hb1.mono HB0.out.size))
  clear hb1
  have c1_0_0 := HQ1_0.out.cell 0
  have c1_0_1 := HQ1_0.out.cell 1
  have z1_0 := HQ1_0.out.lt
  try simp at c1_0_0 c1_0_1
  go_wp2_with fail
  refine (hM _).mono ?_
  rintro e w2 ⟨rfl, hb2⟩
  have HQ2_0 := Lib.hid (HQ1_0.out.below hb2 HQ1_0.out.lt)
  have HB2 := Lib.hid (HB1.out.trans (hb2.mono HB1.out.size))
  clear hb2 c1_0_0 c1_0_1 z1_0
  have c2_0_0 := HQ2_0.out.cell 0
  have c2_0_1 := HQ2_0.out.cell 1
  have z2_0 := HQ2_0.out.lt
  try simp at c2_0_0 c2_0_1
  go_wp2_with fail
  go_ret2
  exact ⟨rfl, HB2.out⟩
set_option maxRecDepth 20000 in
set_option maxHeartbeats 4000000 in
theorem Usual_no {kd p b : Nat} {P n : Int} (h : ¬ ((kd = 1 ∨ kd = 2) ∧ lvB p b P n)) (w : World) :
    Calls Tryz.prog 91 #[.int .u8 (kd : Int), .int .i64 P, rv p b, .int .i64 n] w (Ret (.tuple #[.int .i64 0, eno 1]) w) := by
  by_cases h1 : kd = 1
  · subst h1
    have hA := fun W => Payment_no (fun hl => h ⟨Or.inl rfl, hl⟩) W
    unfold rv eno at *
    clear h
    go_enter Tryz.func91, Tryz.ntmps91
    have HQ0 := Lib.hid (Blk.new w 25 #[.int .u32 (p : Int), .int .u8 (b : Int)])
    have HB0 := Lib.hid (b_alloc w (.cells #[.int .u32 (p : Int), .int .u8 (b : Int)] 25))
    go_wp2_with fail
    refine (hA _).mono ?_
    rintro e w1 ⟨rfl, hb1⟩
    have HQ1_0 := Lib.hid (HQ0.out.below hb1 HQ0.out.lt)
    have HB1 := Lib.hid (HB0.out.trans (hb1.mono HB0.out.size))
    clear hb1
    have c1_0_0 := HQ1_0.out.cell 0
    have c1_0_1 := HQ1_0.out.cell 1
    have z1_0 := HQ1_0.out.lt
    try simp at c1_0_0 c1_0_1
    go_wp2_with fail
    go_ret2
    exact ⟨rfl, HB1.out⟩
  · by_cases h2 : kd = 2
    · subst h2
      have hT := fun W => ltakes_no (fun hl => h ⟨Or.inr rfl, hl⟩) W
      unfold rv eno at *
      clear h h1
      go_enter Tryz.func91, Tryz.ntmps91
      have HQ0 := Lib.hid (Blk.new w 25 #[.int .u32 (p : Int), .int .u8 (b : Int)])
      have HB0 := Lib.hid (b_alloc w (.cells #[.int .u32 (p : Int), .int .u8 (b : Int)] 25))
      go_wp2_with fail
      refine (hT _).mono ?_
      rintro e w1 ⟨rfl, hb1⟩
      have HQ1_0 := Lib.hid (HQ0.out.below hb1 HQ0.out.lt)
      have HB1 := Lib.hid (HB0.out.trans (hb1.mono HB0.out.size))
      clear hb1
      have c1_0_0 := HQ1_0.out.cell 0
      have c1_0_1 := HQ1_0.out.cell 1
      have z1_0 := HQ1_0.out.lt
      try simp at c1_0_0 c1_0_1
      go_wp2_with fail
      go_ret2
      exact ⟨rfl, HB1.out⟩
    · have j1 : ((kd : Int) == 1) = false := by rw [beq_eq_false_iff_ne]; omega
      have j2 : ((kd : Int) == 2) = false := by rw [beq_eq_false_iff_ne]; omega
      unfold rv eno at *
      clear h h1 h2
      go_enter Tryz.func91, Tryz.ntmps91
      have HB0 := Lib.hid (b_alloc w (.cells #[.int .u32 (p : Int), .int .u8 (b : Int)] 25))
      go_wp2_with fail
      go_ret2
      exact ⟨rfl, HB0.out⟩

theorem infoR : (Tryz.prog.info? 163).map (fun i => (i.zero, i.size, i.bytes)) = some (some (.agg #[.int .i64 0, .int .i64 0, .int .i64 0]), 3, 24) := by kernel_rfl
/-- Rows, cell by cell. -/
def rcell (r : Int × Int × Int) (j : Nat) : Value := if j = 0 then .int .i64 r.1 else if j = 1 then .int .i64 r.2.1 else .int .i64 r.2.2
def rowsA (F : Nat → Int × Int × Int) (n : Nat) : Array Value := Array.ofFn (n := n * 3) (fun j => rcell (F (j.val / 3)) (j.val % 3))
theorem rowsA_get (F : Nat → Int × Int × Int) (n j : Nat) : (rowsA F n)[j]? = if j < n * 3 then some (rcell (F (j / 3)) (j % 3)) else Option.none := by
  unfold rowsA
  rw [Array.getElem?_ofFn]
  split <;> rfl
theorem rowsA_at (F : Nat → Int × Int × Int) {n k : Nat} (h : k < n) :
    (rowsA F n)[k * 3]? = some (.int .i64 (F k).1) ∧ (rowsA F n)[k * 3 + 1]? = some (.int .i64 (F k).2.1) ∧ (rowsA F n)[k * 3 + 2]? = some (.int .i64 (F k).2.2) := by
  refine ⟨?_, ?_, ?_⟩ <;> rw [rowsA_get, if_pos (by omega)]
  · rw [show k * 3 / 3 = k by omega, show k * 3 % 3 = 0 by omega]; rfl
  · rw [show (k * 3 + 1) / 3 = k by omega, show (k * 3 + 1) % 3 = 1 by omega]; rfl
  · rw [show (k * 3 + 2) / 3 = k by omega, show (k * 3 + 2) % 3 = 2 by omega]; rfl
theorem rowsA_set (F : Nat → Int × Int × Int) {n k : Nat} (h : k < n) (x y z : Int) :
    (((rowsA F n).setIfInBounds (k * 3) (.int .i64 x)).setIfInBounds (k * 3 + 1) (.int .i64 y)).setIfInBounds (k * 3 + 2) (.int .i64 z) = rowsA (fun i => if i = k then (x, y, z) else F i) n := by
  apply Array.ext_getElem?
  intro j
  have hs : (rowsA F n).size = n * 3 := by simp [rowsA]
  simp only [Array.getElem?_setIfInBounds, Array.size_setIfInBounds, hs, rowsA_get]
  by_cases h2 : k * 3 + 2 = j
  · subst h2
    rw [if_pos rfl, if_pos (by omega), if_pos (by omega), show (k * 3 + 2) / 3 = k by omega, show (k * 3 + 2) % 3 = 2 by omega, if_pos rfl]; rfl
  · rw [if_neg h2]
    by_cases h1 : k * 3 + 1 = j
    · subst h1
      rw [if_pos rfl, if_pos (by omega), if_pos (by omega), show (k * 3 + 1) / 3 = k by omega, show (k * 3 + 1) % 3 = 1 by omega, if_pos rfl]; rfl
    · rw [if_neg h1]
      by_cases h0 : k * 3 = j
      · subst h0
        rw [if_pos rfl, if_pos (by omega), if_pos (by omega), show (k * 3) / 3 = k by omega, show (k * 3) % 3 = 0 by omega, if_pos rfl]; rfl
      · rw [if_neg h0]
        by_cases hj : j < n * 3
        · rw [if_pos hj, if_pos hj, if_neg (by omega)]
        · rw [if_neg hj, if_neg hj]
theorem rowsA_ext {F G : Nat → Int × Int × Int} {n : Nat} (h : ∀ i, i < n → F i = G i) : rowsA F n = rowsA G n := by
  apply Array.ext_getElem?
  intro j
  rw [rowsA_get, rowsA_get]
  by_cases hj : j < n * 3
  · rw [if_pos hj, if_pos hj, h _ (by omega)]
  · rw [if_neg hj, if_neg hj]
theorem makeRows (n : Nat) (hn : n ≤ 480) (u : World) :
    (Instr.makeSlice 120 (.int .i64 (n : Int)) (.int .i64 (n : Int))).run Tryz.prog u = .ok (.slice (some ⟨u.heap.size, 0, none⟩) n n) (u.alloc (.cells (rowsA (fun _ => (0, 0, 0)) n) 163)) := by
  obtain ⟨i0, hi, hz0, hz1, hz2⟩ := info_parts infoR
  have h := run_make (P := Tryz.prog) u 120 163 i0 (.agg #[.int .i64 0, .int .i64 0, .int .i64 0]) Tryz.underlying120 hi hz0 .i64 .i64 (n : Int) (n : Int) (by omega) (Int.le_refl _) (by rw [hz2]; omega) (by omega)
  rw [Int.toNat_natCast, hz1, show Value.cells (.agg #[.int .i64 0, .int .i64 0, .int .i64 0]) = #[.int .i64 0, .int .i64 0, .int .i64 0] from rfl] at h
  have e : madeCells #[.int .i64 0, .int .i64 0, .int .i64 0] (n * 3) = rowsA (fun _ => (0, 0, 0)) n := by
    apply Array.ext_getElem?
    intro j
    rw [rowsA_get]
    by_cases hj : j < n * 3
    · have h3 : j % 3 < 3 := Nat.mod_lt _ (by omega)
      rw [if_pos hj]
      rcases (show j % 3 = 0 ∨ j % 3 = 1 ∨ j % 3 = 2 by omega) with e | e | e <;> simp [madeCells, hj, e, rcell]
    · rw [if_neg hj]
      simp [madeCells, hj]
  rw [e] at h
  exact h
/-- The rows of a payment. -/
def rowF (p y P n k : Nat) : Int × Int × Int :=
  ((mi p (mit p y k P) : Nat), if k + 1 = n then (mit p y k P : Nat) else ((mit p y k P : Nat) - (mit p y (k + 1) P : Nat) : Int), if k + 1 = n then 0 else (mit p y (k + 1) P : Nat))
def partF (F : Nat → Int × Int × Int) (k i : Nat) : Int × Int × Int := if i < k then F i else (0, 0, 0)
theorem partF_next (F : Nat → Int × Int × Int) (k n : Nat) {x y z : Int} (h : F k = (x, y, z)) : rowsA (fun i => if i = k then (x, y, z) else partF F k i) n = rowsA (partF F (k + 1)) n := by
  apply rowsA_ext
  intro i _
  unfold partF
  by_cases hi : i = k
  · subst hi
    rw [if_pos rfl, if_pos (by omega), h]
  · rw [if_neg hi]
    by_cases hk : i < k
    · rw [if_pos hk, if_pos (by omega)]
    · rw [if_neg hk, if_neg (by omega)]
def RowsPost (p y P n : Nat) (w : World) (e : Ending) (w' : World) : Prop :=
  ∃ g, e = .returned (.tuple #[.slice (some ⟨g, 0, none⟩) n n, .nilIface]) ∧ w.heap.size ≤ g ∧ Below w.heap.size w w' ∧ Blk w' g 163 (rowsA (rowF p y P n) n)
theorem Blk.set3 {w : World} {g : Nat} {T : TypeId} {cs : Array Value} (h : Blk w g T cs) (o : Nat) (x y z : Value) :
    Blk (((w.setCell ⟨g, o, none⟩ x).setCell ⟨g, o + 1, none⟩ y).setCell ⟨g, o + 2, none⟩ z) g T (((cs.setIfInBounds o x).setIfInBounds (o + 1) y).setIfInBounds (o + 2) z) := ((h.set_ o x).set_ (o + 1) y).set_ (o + 2) z
theorem Blk.far3 {w : World} {g q : Nat} {T : TypeId} {cs : Array Value} (h : Blk w q T cs) (hq : q ≠ g) (o : Nat) (x y z : Value) :
    Blk (((w.setCell ⟨g, o, none⟩ x).setCell ⟨g, o + 1, none⟩ y).setCell ⟨g, o + 2, none⟩ z) q T cs := ((h.far hq _).far hq _).far hq _
theorem below_set3k {w w' : World} {B g : Nat} (h : Below B w w') (hg : B ≤ g) (o : Nat) (x y z : Value) :
    Below B w (((w'.setCell ⟨g, o, none⟩ x).setCell ⟨g, o + 1, none⟩ y).setCell ⟨g, o + 2, none⟩ z) := ((h.setCell hg _).setCell hg _).setCell hg _
set_option maxRecDepth 20000 in
set_option maxHeartbeats 4000000 in
theorem Rows_yes {kd P p b n y : Nat} (hr : rateB p b) (hP : P ≤ 1000000000000) (hn0 : 1 ≤ n) (hn : n ≤ 480) (hy : mi p P ≤ y) (hyb : y ≤ 9223372036854775807)
    (hU : ∀ W, Calls Tryz.prog 91 #[.int .u8 (kd : Int), .int .i64 (P : Int), rv p b, .int .i64 (n : Int)] W (Ret (.tuple #[.int .i64 (y : Int), .nilIface]) W)) (w : World) :
    Calls Tryz.prog 48 #[.int .u8 (kd : Int), .int .i64 (P : Int), rv p b, .int .i64 (n : Int)] w (RowsPost p y P n w) := by
  have hM : ∀ (Q : Nat), Q ≤ 1000000000000 → ∀ (z : Int), 0 ≤ z → z ≤ 9223372036854775807 → ∀ W, Calls Tryz.prog 92 #[.int .i64 (Q : Int), rv p b, .int .i64 z] W (Ret (.tuple #[rowV ((mi p Q : Nat) : Int) (min z ((Q : Int) + (mi p Q : Nat)) - (mi p Q : Nat)) ((Q : Int) - (min z ((Q : Int) + (mi p Q : Nat)) - (mi p Q : Nat))), .nilIface]) W) :=
    fun Q hQ z h0 h1 W => month_any hQ hr h0 h1 W
  have hmS := fun W => makeRows n hn W
  have HM := Lib.hid hM
  have HP := Lib.hid hP
  have HYB := Lib.hid hyb
  have HY := Lib.hid hy
  have HRT := Lib.hid hr
  obtain ⟨N, hN⟩ : ∃ N, n = N + 1 := ⟨n - 1, by omega⟩
  have e1 : (n : Int) - 1 = (N : Int) := by omega
  have HN := Lib.hid hN
  unfold rv rowV at HM
  unfold rv at hU ⊢
  clear hM hP hyb hy hr hN
  go_enter Tryz.func48, Tryz.ntmps48
  have HQ0 := Lib.hid (Blk.new w 25 #[.int .u32 (p : Int), .int .u8 (b : Int)])
  have HB0 := Lib.hid (b_alloc w (.cells #[.int .u32 (p : Int), .int .u8 (b : Int)] 25))
  go_wp2_with fail
  refine (hU _).mono ?_
  rintro e w1 ⟨rfl, hb1⟩
  have HQ1_0 := Lib.hid (HQ0.out.below hb1 HQ0.out.lt)
  have HB1 := Lib.hid (HB0.out.trans (hb1.mono HB0.out.size))
  clear hb1
  have c1_0_0 := HQ1_0.out.cell 0
  have c1_0_1 := HQ1_0.out.cell 1
  have z1_0 := HQ1_0.out.lt
  try simp at c1_0_0 c1_0_1
  go_wp2_with fail
  have HG := Lib.hid (Blk.new w1 163 (rowsA (fun _ => (0, 0, 0)) n))
  have HQ2 := Lib.hid (HQ1_0.out.alloc (.cells (rowsA (fun _ => (0, 0, 0)) n) 163))
  have HB2 := Lib.hid (HB1.out.alloc HB1.out.size (.cells (rowsA (fun _ => (0, 0, 0)) n) 163))
  have hgz : w.heap.size < w1.heap.size := by have := HQ1_0.out.lt; exact this
  have HGZ := Lib.hid hgz
  clear hgz c1_0_0 c1_0_1 z1_0 hmS
  go_loopw [10, 13, 31] (fun x v i wr => ∃ (k : Nat) (z : Int) (L : Nat), k ≤ n ∧ i = .int .i64 k ∧ x = .int .i64 z ∧ v = .int .i64 L ∧ Hid (k < n → z = y ∧ L = mit p y k P) ∧ Hid (Blk wr w1.heap.size 163 (rowsA (partF (rowF p y P n) k) n)) ∧ Hid (Blk wr w.heap.size 25 #[.int .u32 (p : Int), .int .u8 (b : Int)]) ∧ Hid (Below w.heap.size w wr)) (fun _ _ i _ => n - (intOf i).toNat)
  case atStart => exact ⟨0, y, P, Nat.zero_le _, rfl, rfl, rfl, Lib.hid (fun _ => ⟨rfl, rfl⟩), Lib.hid (by have := HG.out; rwa [rowsA_ext (G := partF (rowF p y P n) 0) (fun i _ => by unfold partF; rw [if_neg (by omega)])] at this), HQ2, HB2⟩
  case round =>
    obtain ⟨k, z, L, hk, rfl, rfl, rfl, HL, HGk, HQk, HBk⟩ := hrel
    have c0 := HQk.out.cell 0
    have c1 := HQk.out.cell 1
    have z0 := HQk.out.lt
    simp at c0 c1
    by_cases hlt : k < n
    · obtain ⟨hz, hL⟩ := HL.out hlt
      subst hz
      have hLP : L ≤ P := by rw [hL]; exact mit_le HY.out k P (Nat.le_refl _)
      have hLb : L ≤ 1000000000000 := Nat.le_trans hLP HP.out
      have hmL := mi_bd hLb HRT.out.1
      have hmy : mi p L ≤ y := Nat.le_trans (mi_mono hLP) HY.out
      obtain ⟨m, hm⟩ : ∃ m, mi p L = m := ⟨_, rfl⟩
      have hf : rowF p y P n k = ((m : Int), if k + 1 = n then (L : Int) else (L : Int) - (mst p y L : Nat), if k + 1 = n then 0 else ((mst p y L : Nat) : Int)) := by
        unfold rowF
        rw [mit_succ, ← hL, hm]
      have hst : mst p y L = L + m - y := by unfold mst; rw [hm]
      rw [hst] at hf
      rw [hm] at hmL hmy
      by_cases hkN : k = N
      · have hkn : k + 1 = n := by have := HN.out; omega
        rw [if_pos hkn, if_pos hkn] at hf
        have hMQ := fun W => HM.out L hLb 9223372036854775807 (by omega) (by omega) W
        rw [hm] at hMQ
        rw [show min (9223372036854775807 : Int) ((L : Int) + (m : Int)) - (m : Int) = (L : Int) by omega, show (L : Int) - (L : Int) = 0 by omega] at hMQ
        have HF := Lib.hid hf
        have hkz : (k : Int) = (N : Int) := by omega
        subst hkN
        clear hf hst hL hLP hm hmL hmy hLb
        go_wp2_with fail
        refine (hMQ _).mono ?_
        rintro e w2 ⟨rfl, hb2⟩
        have HG2 := Lib.hid (HGk.out.below hb2 HGk.out.lt)
        have HQ2k := Lib.hid (HQk.out.below hb2 HQk.out.lt)
        have HB2k := Lib.hid (HBk.out.trans (hb2.mono HBk.out.size))
        clear hb2
        obtain ⟨g0, g1, g2⟩ := rowsA_at (partF (rowF p y P n) k) hlt
        have d0 := (HG2.out.cell (k * 3)).trans g0
        have d1 := (HG2.out.cell (k * 3 + 1)).trans g1
        have d2 := (HG2.out.cell (k * 3 + 2)).trans g2
        have f0 := HG2.out.frozen (k * 3)
        have f1 := HG2.out.frozen (k * 3 + 1)
        have f2 := HG2.out.frozen (k * 3 + 2)
        clear g0 g1 g2
        go_wp2_with fail
        go_roundw
        case rel =>
          have hset := rowsA_set (partF (rowF p y P n) k) hlt (m : Int) (L : Int) 0
          rw [partF_next _ _ _ HF.out] at hset
          refine ⟨k + 1, _, 0, by omega, by go_num, rfl, rfl, Lib.hid (fun h => by have := HN.out; omega), Lib.hid ?_, Lib.hid (HQ2k.out.far3 (by have := HGZ.out; omega) _ _ _ _), Lib.hid (below_set3k HB2k.out (by have := HGZ.out; omega) _ _ _ _)⟩
          have h3 := HG2.out.set3 (k * 3) (.int .i64 (m : Int)) (.int .i64 (L : Int)) (.int .i64 0)
          rwa [hset] at h3
        case measure => simp [intOf]; omega
      · have hkn : ¬ k + 1 = n := by have := HN.out; omega
        rw [if_neg hkn, if_neg hkn] at hf
        obtain ⟨Q, hQ⟩ : ∃ Q, L + m - y = Q := ⟨_, rfl⟩
        rw [hQ] at hf hst
        have hQL : Q ≤ L := by omega
        obtain ⟨o, ho⟩ : ∃ o, (L : Int) - (Q : Int) = o := ⟨_, rfl⟩
        rw [ho] at hf
        have hMQ := fun W => HM.out L hLb (y : Int) (by omega) (by have := HYB.out; omega) W
        rw [hm] at hMQ
        rw [show min (y : Int) ((L : Int) + (m : Int)) - (m : Int) = o by omega, show (L : Int) - o = (Q : Int) by omega] at hMQ
        have HF := Lib.hid hf
        have HQs : Hid (mit p y (k + 1) P = Q) := Lib.hid (by rw [mit_succ, ← hL]; exact hst)
        have hkz : ((k : Int) == (N : Int)) = false := by rw [beq_eq_false_iff_ne]; omega
        clear hf hst hL hLP hm hmL hmy hLb ho hQL hQ
        clear hkn
        go_wp2_with fail
        refine (hMQ _).mono ?_
        rintro e w2 ⟨rfl, hb2⟩
        have HG2 := Lib.hid (HGk.out.below hb2 HGk.out.lt)
        have HQ2k := Lib.hid (HQk.out.below hb2 HQk.out.lt)
        have HB2k := Lib.hid (HBk.out.trans (hb2.mono HBk.out.size))
        clear hb2
        obtain ⟨g0, g1, g2⟩ := rowsA_at (partF (rowF p y P n) k) hlt
        have d0 := (HG2.out.cell (k * 3)).trans g0
        have d1 := (HG2.out.cell (k * 3 + 1)).trans g1
        have d2 := (HG2.out.cell (k * 3 + 2)).trans g2
        have f0 := HG2.out.frozen (k * 3)
        have f1 := HG2.out.frozen (k * 3 + 1)
        have f2 := HG2.out.frozen (k * 3 + 2)
        clear g0 g1 g2
        go_wp2_with fail
        go_roundw
        case rel =>
          have hset := rowsA_set (partF (rowF p y P n) k) hlt (m : Int) o (Q : Int)
          rw [partF_next _ _ _ HF.out] at hset
          refine ⟨k + 1, _, Q, by omega, by go_num, rfl, rfl, Lib.hid (fun h => ⟨rfl, HQs.out.symm⟩), Lib.hid ?_, Lib.hid (HQ2k.out.far3 (by have := HGZ.out; omega) _ _ _ _), Lib.hid (below_set3k HB2k.out (by have := HGZ.out; omega) _ _ _ _)⟩
          have h3 := HG2.out.set3 (k * 3) (.int .i64 (m : Int)) (.int .i64 o) (.int .i64 (Q : Int))
          rwa [hset] at h3
        case measure => simp [intOf]; omega
    · have hkn : k = n := by omega
      subst hkn
      go_wp2_with fail
      go_ret2
      refine ⟨w1.heap.size, rfl, Nat.le_of_lt HGZ.out, HBk.out, ?_⟩
      have h3 := HGk.out
      rwa [rowsA_ext (G := rowF p y P k) (fun i hi => by unfold partF; rw [if_pos hi])] at h3
set_option maxRecDepth 20000 in
set_option maxHeartbeats 4000000 in
theorem Rows_no {kd p b : Nat} {P n : Int} (h : ¬ ((kd = 1 ∨ kd = 2) ∧ lvB p b P n)) (w : World) :
    Calls Tryz.prog 48 #[.int .u8 (kd : Int), .int .i64 P, rv p b, .int .i64 n] w (Ret (.tuple #[.slice none 0 0, eno 1]) w) := by
  have hU := fun W => Usual_no h W
  unfold eno at *
  unfold rv at *
  clear h
  go_enter Tryz.func48, Tryz.ntmps48
  have HQ0 := Lib.hid (Blk.new w 25 #[.int .u32 (p : Int), .int .u8 (b : Int)])
  have HB0 := Lib.hid (b_alloc w (.cells #[.int .u32 (p : Int), .int .u8 (b : Int)] 25))
  go_wp2_with fail
  refine (hU _).mono ?_
  rintro e w1 ⟨rfl, hb1⟩
  have HQ1_0 := Lib.hid (HQ0.out.below hb1 HQ0.out.lt)
  have HB1 := Lib.hid (HB0.out.trans (hb1.mono HB0.out.size))
  clear hb1
  have c1_0_0 := HQ1_0.out.cell 0
  have c1_0_1 := HQ1_0.out.cell 1
  have z1_0 := HQ1_0.out.lt
  try simp at c1_0_0 c1_0_1
  go_wp2_with fail
  go_ret2
  exact ⟨rfl, HB1.out⟩
end Go.Proofs.YtpbfipeinblfgaaGreatDoor
namespace Go.Proofs.YtpbfipeinblfgaaGreatDoor
open Go.RowKit

theorem ba_eq {s : ByteArray} {l : List UInt8} (h : s.toList = l) : s = ⟨l.toArray⟩ := by
  obtain ⟨d⟩ := s
  rw [Go.Lib.toList_data] at h
  subst h
  simp
theorem ba_ne {s : ByteArray} {l : List UInt8} (h : ¬ s = ⟨l.toArray⟩) : (s.toList == l) = false := by
  rw [beq_eq_false_iff_ne]
  exact fun e => h (ba_eq e)
def levelS : ByteArray := ⟨#[108, 101, 118, 101, 108]⟩
def onlyS : ByteArray := ⟨#[111, 110, 108, 121]⟩
def kindB (s : ByteArray) : Nat := if s = levelS then 1 else if s = onlyS then 2 else 0
def nameB (k : Nat) : ByteArray := if k = 1 then levelS else if k = 2 then onlyS else ⟨#[]⟩
set_option maxRecDepth 20000 in
set_option maxHeartbeats 4000000 in
theorem Kind_any (s : ByteArray) (w : World) : Calls Tryz.prog 43 #[.string s] w fun e w' => e = .returned (.int .u8 (kindB s : Nat)) ∧ w = w' := by
  unfold kindB
  by_cases h1 : s = levelS
  · rw [if_pos h1]
    subst h1
    unfold levelS
    go_enter Tryz.func43, Tryz.ntmps43
    go_wp2_with fail
    go_ret
    exact ⟨rfl, rfl⟩
  · rw [if_neg h1]
    have j1 : (s.toList == [108, 101, 118, 101, 108]) = false := ba_ne h1
    by_cases h2 : s = onlyS
    · rw [if_pos h2]
      subst h2
      unfold onlyS
      clear h1 j1
      go_enter Tryz.func43, Tryz.ntmps43
      go_wp2_with fail
      go_ret
      exact ⟨rfl, rfl⟩
    · rw [if_neg h2]
      have j2 : (s.toList == [111, 110, 108, 121]) = false := ba_ne h2
      clear h1 h2
      go_enter Tryz.func43, Tryz.ntmps43
      go_wp2_with fail
      go_ret
      exact ⟨rfl, rfl⟩
set_option maxRecDepth 20000 in
set_option maxHeartbeats 4000000 in
theorem Name_any (k : Nat) (w : World) : Calls Tryz.prog 82 #[.int .u8 (k : Int)] w fun e w' => e = .returned (.string (nameB k)) ∧ w = w' := by
  unfold nameB
  by_cases h1 : k = 1
  · subst h1
    go_enter Tryz.func82, Tryz.ntmps82
    go_wp2_with fail
    go_ret
    exact ⟨rfl, rfl⟩
  · rw [if_neg h1]
    by_cases h2 : k = 2
    · subst h2
      go_enter Tryz.func82, Tryz.ntmps82
      go_wp2_with fail
      go_ret
      exact ⟨rfl, rfl⟩
    · rw [if_neg h2]
      have j1 : ((k : Int) == 1) = false := by rw [beq_eq_false_iff_ne]; omega
      have j2 : ((k : Int) == 2) = false := by rw [beq_eq_false_iff_ne]; omega
      clear h1 h2
      go_enter Tryz.func82, Tryz.ntmps82
      go_wp2_with fail
      go_ret
      exact ⟨rfl, rfl⟩

theorem infoC : (Tryz.prog.info? 22).map (fun i => (i.zero, i.size, i.bytes)) = some (some (.int .i64 0), 1, 8) := by kernel_rfl
/-- Numbers, cell by cell. -/
def oneA (F : Nat → Int) (n : Nat) : Array Value := Array.ofFn (n := n) (fun j => Value.int .i64 (F j.val))
theorem oneA_get (F : Nat → Int) (n j : Nat) : (oneA F n)[j]? = if j < n then some (.int .i64 (F j)) else Option.none := by
  unfold oneA
  rw [Array.getElem?_ofFn]
  split <;> rfl
theorem oneA_at (F : Nat → Int) {n k : Nat} (h : k < n) : (oneA F n)[k]? = some (.int .i64 (F k)) := by rw [oneA_get, if_pos h]
def partO (F : Nat → Int) (k i : Nat) : Int := if i < k then F i else 0
theorem oneA_set (F : Nat → Int) {n k : Nat} (h : k < n) {x : Int} (hx : F k = x) :
    (oneA (partO F k) n).setIfInBounds k (.int .i64 x) = oneA (partO F (k + 1)) n := by
  apply Array.ext_getElem?
  intro j
  have hs : (oneA (partO F k) n).size = n := by simp [oneA]
  rw [Array.getElem?_setIfInBounds, hs, oneA_get, oneA_get]
  unfold partO
  by_cases h0 : k = j
  · subst h0
    rw [if_pos rfl, if_pos h, if_pos h, if_pos (by omega), hx]
  · rw [if_neg h0]
    by_cases hj : j < n
    · rw [if_pos hj, if_pos hj]
      by_cases hk : j < k
      · rw [if_pos hk, if_pos (by omega)]
      · rw [if_neg hk, if_neg (by omega)]
    · rw [if_neg hj, if_neg hj]
theorem oneA_ext {F G : Nat → Int} {n : Nat} (h : ∀ i, i < n → F i = G i) : oneA F n = oneA G n := by
  apply Array.ext_getElem?
  intro j
  rw [oneA_get, oneA_get]
  by_cases hj : j < n
  · rw [if_pos hj, if_pos hj, h _ hj]
  · rw [if_neg hj, if_neg hj]
theorem makeCoins (n : Nat) (hn : n ≤ 480) (u : World) :
    (Instr.makeSlice 63 (.int .i64 (n : Int)) (.int .i64 (n : Int))).run Tryz.prog u = .ok (.slice (some ⟨u.heap.size, 0, none⟩) n n) (u.alloc (.cells (oneA (fun _ => 0) n) 22)) := by
  obtain ⟨i0, hi, hz0, hz1, hz2⟩ := info_parts infoC
  have h := run_make (P := Tryz.prog) u 63 22 i0 (.int .i64 0) Tryz.underlying63 hi hz0 .i64 .i64 (n : Int) (n : Int) (by omega) (Int.le_refl _) (by rw [hz2]; omega) (by omega)
  rw [Int.toNat_natCast, hz1, show Value.cells (.int .i64 0) = #[.int .i64 0] from rfl, Nat.mul_one] at h
  have e : madeCells #[.int .i64 0] n = oneA (fun _ => 0) n := by
    apply Array.ext_getElem?
    intro j
    rw [oneA_get]
    by_cases hj : j < n
    · rw [if_pos hj]
      simp [madeCells, hj, Nat.mod_one]
    · rw [if_neg hj]
      simp [madeCells, hj]
  rw [e] at h
  exact h
/-- What the first k rows pay. -/
def paysTo (F : Nat → Int × Int × Int) : Nat → Int
  | 0 => 0
  | k + 1 => paysTo F k + ((F k).1 + (F k).2.1)
def SumsPost (F : Nat → Int × Int × Int) (n : Nat) (w : World) (e : Ending) (w' : World) : Prop :=
  ∃ g, e = .returned (.slice (some ⟨g, 0, none⟩) n n) ∧ w.heap.size ≤ g ∧ Below w.heap.size w w' ∧ Blk w' g 22 (oneA (fun i => paysTo F (i + 1)) n)
set_option maxRecDepth 20000 in
set_option maxHeartbeats 4000000 in
theorem Sums_any {F : Nat → Int × Int × Int} {n : Nat} (g : Nat) (hn : n ≤ 480) (w : World) (hg : Blk w g 163 (rowsA F n))
    (hb : ∀ k, k < n → -9223372036854775808 ≤ (F k).1 + (F k).2.1 ∧ (F k).1 + (F k).2.1 ≤ 9223372036854775807 ∧ -9223372036854775808 ≤ paysTo F (k + 1) ∧ paysTo F (k + 1) ≤ 9223372036854775807) :
    Calls Tryz.prog 49 #[.slice (some ⟨g, 0, none⟩) n n] w (SumsPost F n w) := by
  have hmS := fun W => makeCoins n hn W
  have HG := Lib.hid hg
  have HB := Lib.hid hb
  have hgl := hg.lt
  clear hg hb
  go_enter Tryz.func49, Tryz.ntmps49
  go_wp2_with fail
  have HA := Lib.hid (Blk.new w 22 (oneA (fun _ => 0) n))
  have HB0 := Lib.hid (b_alloc w (.cells (oneA (fun _ => 0) n) 22))
  clear hmS
  go_loopw [4, 12] (fun x i wr => ∃ (k : Nat), k ≤ n ∧ i = .int .i64 k ∧ x = .int .i64 (paysTo F k) ∧ Hid (Blk wr w.heap.size 22 (oneA (partO (fun i => paysTo F (i + 1)) k) n)) ∧ Hid (Blk wr g 163 (rowsA F n)) ∧ Hid (Below w.heap.size w wr)) (fun _ i _ => n - (intOf i).toNat)
  case atStart => exact ⟨0, Nat.zero_le _, rfl, rfl, Lib.hid (by have := HA.out; rwa [oneA_ext (G := partO (fun i => paysTo F (i + 1)) 0) (fun i _ => by unfold partO; rw [if_neg (by omega)])] at this), Lib.hid (HG.out.alloc _), HB0⟩
  case round =>
    obtain ⟨k, hk, rfl, rfl, HAk, HGk, HBk⟩ := hrel
    by_cases hlt : k < n
    · obtain ⟨g0, g1, g2⟩ := rowsA_at F hlt
      obtain ⟨b0, b1, b2, b3⟩ := HB.out k hlt
      obtain ⟨x, hx⟩ : ∃ x, (F k).1 = x := ⟨_, rfl⟩
      obtain ⟨y, hy⟩ : ∃ y, (F k).2.1 = y := ⟨_, rfl⟩
      obtain ⟨z, hz⟩ : ∃ z, (F k).2.2 = z := ⟨_, rfl⟩
      obtain ⟨s, hs⟩ : ∃ s, x + y = s := ⟨_, rfl⟩
      obtain ⟨S, hS⟩ : ∃ S, paysTo F k = S := ⟨_, rfl⟩
      obtain ⟨S2, hS2⟩ : ∃ S2, paysTo F (k + 1) = S2 := ⟨_, rfl⟩
      have hSs : S + s = S2 := by rw [← hS2, paysTo, hx, hy, hs, hS]
      rw [hx, hy, hs] at b0 b1
      rw [hS2] at b2 b3
      have HS2 := Lib.hid hS2
      rw [hx] at g0; rw [hy] at g1; rw [hz] at g2
      rw [hS]
      have hP := fun W => Pay_any (l := z) hs b0 b1 W
      have d0 := (HGk.out.cell (k * 3)).trans g0
      have d1 := (HGk.out.cell (k * 3 + 1)).trans g1
      have d2 := (HGk.out.cell (k * 3 + 2)).trans g2
      have z0 := HGk.out.lt
      have i1 : IntKind.i64.wrap S2 = S2 := by rw [IntKind.wrap_i64]; omega
      unfold rowV at hP
      clear g0 g1 g2 hx hy hz hS hS2 hs b0 b1 b2 b3
      go_wp2_with fail
      refine (hP _).mono ?_
      rintro e w2 ⟨rfl, hb2⟩
      have HA1 := Lib.hid (HAk.out.alloc (.cells #[.int .i64 x, .int .i64 y, .int .i64 z] 163))
      have HG1 := Lib.hid (HGk.out.alloc (.cells #[.int .i64 x, .int .i64 y, .int .i64 z] 163))
      have HB1 := Lib.hid (HBk.out.alloc HBk.out.size (.cells #[.int .i64 x, .int .i64 y, .int .i64 z] 163))
      have HA2 := Lib.hid (HA1.out.below hb2 HA1.out.lt)
      have HG2 := Lib.hid (HG1.out.below hb2 HG1.out.lt)
      have HB2 := Lib.hid (HB1.out.trans (hb2.mono HB1.out.size))
      have a0 := (HA2.out.cell k).trans (oneA_at _ hlt)
      have f0 := HA2.out.frozen k
      clear hb2 d0 d1 d2 z0
      go_wp2_with fail
      go_roundw
      case rel =>
        refine ⟨k + 1, by omega, by go_num, by rw [HS2.out], Lib.hid ?_, Lib.hid (HG2.out.far (by show g ≠ w.heap.size; omega) _), Lib.hid (HB2.out.setCell (Nat.le_refl _) _)⟩
        have h3 := HA2.out.set_ k (.int .i64 S2)
        rwa [oneA_set _ hlt HS2.out] at h3
      case measure => simp [intOf]; omega
    · have hkn : k = n := by omega
      subst hkn
      go_wp2_with fail
      go_ret
      refine ⟨w.heap.size, rfl, Nat.le_refl _, HBk.out, ?_⟩
      have h3 := HAk.out
      rwa [oneA_ext (G := fun i => paysTo F (i + 1)) (fun i hi => by unfold partO; rw [if_pos hi])] at h3
set_option maxRecDepth 20000 in
set_option maxHeartbeats 4000000 in
theorem Sums_nil (w : World) : Calls Tryz.prog 49 #[.slice none 0 0] w fun e w' => (∃ g, e = .returned (.slice (some ⟨g, 0, none⟩) 0 0)) ∧ Below w.heap.size w w' := by
  have hmS : ∀ W, (Instr.makeSlice 63 (.int .i64 0) (.int .i64 0)).run Tryz.prog W = .ok (.slice (some ⟨W.heap.size, 0, none⟩) 0 0) (W.alloc (.cells (oneA (fun _ => 0) 0) 22)) := fun W => makeCoins 0 (by omega) W
  go_enter Tryz.func49, Tryz.ntmps49
  go_wp2_with fail
  have HB0 := Lib.hid (b_alloc w (.cells (oneA (fun _ => 0) 0) 22))
  clear hmS
  go_loopw [4, 12] (fun x i wr => i = .int .i64 0 ∧ Hid (Below w.heap.size w wr)) (fun _ i _ => 0)
  case atStart => exact ⟨rfl, HB0⟩
  case round =>
    obtain ⟨rfl, HBk⟩ := hrel
    go_wp2_with fail
    go_ret
    exact ⟨⟨_, rfl⟩, HBk.out⟩

theorem lst_ex : Lst 0 3 1000 334 := by
  refine ⟨by decide, fun z hz => ?_⟩
  rcases Nat.lt_or_ge z 334 with h | h
  · have := mit_low (p := 0) (y := z) 3 1000
    unfold Clr at hz
    omega
  · exact h
end Go.Proofs.YtpbfipeinblfgaaGreatDoor
