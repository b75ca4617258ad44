/-
  LevelPays: the document's Left, the walk. Conditions: the numbers' kinds; errors.errorType is laid.
-/
import Derived.Test.YtbikfplipkhhcaaDoorLvlE
import Derived.Test.YtbikfplipkhhcaaDoorRMon
import Derived.Test.YtbikfplipkhhcaaDoorCodeC
namespace Go.Proofs.YtbikfplipkhhcaaDoor
open Go.RowKit

theorem rlN_nil (p y Q : Nat) : rlN p y 0 Q = Q := by rw [rlN]
theorem rlN_zero (p y : Nat) : ∀ n, rlN p y n 0 = 0
  | 0 => rlN_nil p y 0
  | n + 1 => by rw [rlN]; exact if_pos (Eq.refl 0)
set_option maxRecDepth 20000 in
set_option maxHeartbeats 4000000 in
theorem RLeft_any {P p n y : Nat} (th : Bool) (hP : P ≤ 1000000000000) (hp : p ≤ 1000000) (hn : n ≤ 480) (hy : y ≤ 9000000000000000000) (w : World) :
    Calls Tryd.prog 9 #[.int .i64 (P : Int), rr p th, .int .i64 (n : Int), .int .i64 (y : Int)] w (Ret (.int .i64 ((rlN p y n P : Nat) : Int)) w) := by
  have hM : ∀ (Q : Nat), Q ≤ 1000000000000 → ∀ W, Calls Tryd.prog 20 #[rr p th, .int .i64 (Q : Int)] W (Ret (.int .i64 ((mi p Q : Nat) : Int)) W) := fun Q hQ W => RMonth_any th hQ hp W
  have HM := Lib.hid hM
  have HPP := Lib.hid hp
  have HY := Lib.hid hy
  obtain ⟨B, HBV⟩ : ∃ B, Hid (rlN p y n P = B) := ⟨_, Lib.hid rfl⟩
  rw [HBV.out]
  unfold rr at HM ⊢
  clear hM hp hy
  go_enter Tryd.func9, Tryd.ntmps9
  have HQ0 := Lib.hid (Blk.new w 36 #[.int .u32 (p : Int), .bool th])
  have HB0 := Lib.hid (b_alloc w (.cells #[.int .u32 (p : Int), .bool th] 36))
  go_wp2_with fail
  go_loopw [0, 9] (fun x i wr => ∃ (k Q : Nat), k ≤ n ∧ i = .int .i64 k ∧ x = .int .i64 Q ∧ Q ≤ 1000000000000 ∧ Hid (rlN p y (n - k) Q = B) ∧ Hid (Below (w.heap.size + 1) (w.alloc (.cells #[.int .u32 (p : Int), .bool th] 36)) wr)) (fun _ i _ => n - (intOf i).toNat)
  case atStart => exact ⟨0, P, Nat.zero_le _, rfl, rfl, hP, HBV, Lib.hid (Below.refl _ _)⟩
  case round =>
    obtain ⟨k, Q, hk, rfl, rfl, hQ1, HC, HW⟩ := hrel
    have HK0 := Lib.hid (HQ0.out.below HW.out (by simp))
    have c0 := HK0.out.cell 0
    have c1 := HK0.out.cell 1
    have z0 := HK0.out.lt
    simp at c0 c1
    by_cases hlt : k < n
    · by_cases hQ0 : 0 < Q
      · have hMQ := fun W => HM.out Q hQ1 W
        have hmb := mi_bd hQ1 HPP.out
        obtain ⟨m, HMM⟩ : ∃ m, Hid (mi p Q = m) := ⟨_, Lib.hid rfl⟩
        rw [HMM.out] at hMQ hmb
        have hst : mst p y Q = Q + m - y := by unfold mst; rw [HMM.out]
        obtain ⟨j, hj⟩ : ∃ j, n - k = j + 1 := ⟨n - k - 1, by omega⟩
        have hcl := HC.out
        rw [hj, rlN, hst, HMM.out, if_neg (by omega)] at hcl
        obtain ⟨o, ho⟩ : ∃ o, Q + m = o := ⟨_, rfl⟩
        have i0 : (Q : Int) + (m : Int) = (o : Int) := by omega
        rw [ho] at hcl
        clear HC hst
        rcases (show o ≤ y ∨ (¬ o ≤ y ∧ Q ≤ o - y) ∨ (¬ o ≤ y ∧ ¬ Q ≤ o - y) by omega) with h1 | ⟨h1, h2⟩ | ⟨h1, h2⟩
        · rw [if_pos h1] at hcl
          subst hcl
          have i1 : (o : Int) ≤ (y : Int) := by omega
          have i2 : o ≤ 2000000000000 := by omega
          clear h1 ho hQ1 hmb hj
          go_wp2_with fail
          refine (hMQ _).mono ?_
          rintro e w2 ⟨rfl, hb2⟩
          go_wp2_with fail
          go_ret
          exact ⟨rfl, (HB0.out.trans (HW.out.mono (by simp))).trans (hb2.mono (by have := HW.out.size; simp at this; omega))⟩
        · rw [if_neg h1, if_pos h2] at hcl
          subst hcl
          obtain ⟨d, hd⟩ : ∃ d, o - y = d := ⟨_, rfl⟩
          have i1 : ¬ (o : Int) ≤ (y : Int) := by omega
          have i2 : (o : Int) - (y : Int) = (d : Int) := by omega
          have i3 : (Q : Int) ≤ (d : Int) := by omega
          have i4 : o ≤ 2000000000000 := by omega
          have i5 : d ≤ 2000000000000 := by omega
          clear h1 h2 ho hQ1 hmb hd hj
          go_wp2_with fail
          refine (hMQ _).mono ?_
          rintro e w2 ⟨rfl, hb2⟩
          go_wp2_with fail
          go_ret
          exact ⟨rfl, (HB0.out.trans (HW.out.mono (by simp))).trans (hb2.mono (by have := HW.out.size; simp at this; omega))⟩
        · rw [if_neg h1, if_neg h2] at hcl
          obtain ⟨d, hd⟩ : ∃ d, o - y = d := ⟨_, rfl⟩
          rw [hd] at hcl
          have i1 : ¬ (o : Int) ≤ (y : Int) := by omega
          have i2 : (o : Int) - (y : Int) = (d : Int) := by omega
          have i3 : ¬ (Q : Int) ≤ (d : Int) := by omega
          have i4 : o ≤ 2000000000000 := by omega
          have i5 : d ≤ 2000000000000 := by omega
          have i6 : d ≤ 1000000000000 := by omega
          have HC2 : Hid (rlN p y (n - (k + 1)) d = B) := Lib.hid (by rw [show n - (k + 1) = j by omega]; exact hcl)
          clear h1 h2 ho hQ1 hmb hd hcl hj
          go_wp2_with fail
          refine (hMQ _).mono ?_
          rintro e w2 ⟨rfl, hb2⟩
          go_wp2_with fail
          go_roundw
          case rel => exact ⟨k + 1, d, by omega, by go_num, rfl, i6, HC2, Lib.hid (HW.out.trans (hb2.mono (by have := HW.out.size; simp at this; omega)))⟩
          case measure => simp [intOf]; omega
      · obtain rfl : Q = 0 := by omega
        have hB : B = 0 := by
          exact (HC.out.symm.trans (rlN_zero p y _))
        subst hB
        go_wp2_with fail
        go_ret
        exact ⟨rfl, HB0.out.trans (HW.out.mono (by simp))⟩
    · have hkn : k = n := by omega
      subst hkn
      have hB : B = Q := HC.out.symm.trans (by rw [Nat.sub_self]; exact rlN_nil p y Q)
      subst hB
      go_wp2_with fail
      go_ret
      exact ⟨rfl, HB0.out.trans (HW.out.mono (by simp))⟩
set_option maxRecDepth 20000 in
set_option maxHeartbeats 4000000 in
theorem own10_1 (p : Nat) (w : World) : Calls Tryd.prog 10 #[rv p 1] w (Ret (rr p false) w) := by
  have HK := Blk.new (w.alloc (.cells #[.int .u32 (p : Int), .int .u8 1] 25)) 36 #[.int .u32 (p : Int), .bool false]
  have s0 := HK.cell 0
  have s1 := HK.cell 1
  simp at s0 s1
  clear HK
  unfold rv rr
  go_enter Tryd.func10, Tryd.ntmps10
  go_wp2_with fail
  exact bodyPost_ret (v := .agg #[.int .u32 (p : Int), .bool false]) (by simp [results, Tryd.results10, go_sem, s0, s1, Result.andThen]) rfl ⟨rfl, (b_alloc w _).alloc (by simp) _⟩
set_option maxRecDepth 20000 in
set_option maxHeartbeats 4000000 in
theorem own10_2 (p : Nat) (w : World) : Calls Tryd.prog 10 #[rv p 2] w (Ret (rr p true) w) := by
  have HK := Blk.new (w.alloc (.cells #[.int .u32 (p : Int), .int .u8 2] 25)) 36 #[.int .u32 (p : Int), .bool true]
  have s0 := HK.cell 0
  have s1 := HK.cell 1
  simp at s0 s1
  clear HK
  unfold rv rr
  go_enter Tryd.func10, Tryd.ntmps10
  go_wp2_with fail
  exact bodyPost_ret (v := .agg #[.int .u32 (p : Int), .bool true]) (by simp [results, Tryd.results10, go_sem, s0, s1, Result.andThen]) rfl ⟨rfl, (b_alloc w _).alloc (by simp) _⟩
theorem own10_any {p b : Nat} (hb : b = 1 ∨ b = 2) (w : World) : Calls Tryd.prog 10 #[rv p b] w (Ret (rr p (decide (b = 2))) w) := by
  rcases hb with rfl | rfl
  · exact own10_1 p w
  · exact own10_2 p w
set_option maxRecDepth 20000 in
set_option maxHeartbeats 4000000 in
theorem LPays_no {p b : Nat} {P n : Int} (h : ¬ lvB p b P n) (w : World) (hg : Laid w) : Calls Tryd.prog 3 #[.int .i64 P, rv p b, .int .i64 n] w (Ret (.bool true) w) := by
  have HG := Lib.hid hg
  have hL1 := fun W => lr10 p b P n W
  rw [decide_eq_false h] at hL1
  have hR := fun W => Payment_no h W
  unfold rv eno at *
  clear h hg
  go_enter Tryd.func3, Tryd.ntmps3
  have HQ0 := Lib.hid (Blk.new w 25 #[.int .u32 (p : Int), .int .u8 (b : Int)])
  have HB0 := Lib.hid (b_alloc w (.cells #[.int .u32 (p : Int), .int .u8 (b : Int)] 25))
  go_wp2_with fail
  refine (awake10 _).mono ?_
  rintro e w1 ⟨rfl, hb1⟩
  have HQ1_0 := Lib.hid (HQ0.out.below hb1 HQ0.out.lt)
  have HB1 := Lib.hid (HB0.out.trans (hb1.mono HB0.out.size))
  clear hb1
  have c1_0_0 := HQ1_0.out.cell 0
  have c1_0_1 := HQ1_0.out.cell 1
  have z1_0 := HQ1_0.out.lt
  try simp at c1_0_0 c1_0_1
  go_wp2_with fail
  refine (hR _).mono ?_
  rintro e w2 ⟨rfl, hb2⟩
  have HQ2_0 := Lib.hid (HQ1_0.out.below hb2 HQ1_0.out.lt)
  have HB2 := Lib.hid (HB1.out.trans (hb2.mono HB1.out.size))
  clear hb2 c1_0_0 c1_0_1 z1_0
  have c2_0_0 := HQ2_0.out.cell 0
  have c2_0_1 := HQ2_0.out.cell 1
  have z2_0 := HQ2_0.out.lt
  try simp at c2_0_0 c2_0_1
  go_wp2_with fail
  refine (hL1 _).mono ?_
  rintro e w3 ⟨rfl, hb3⟩
  have HQ3_0 := Lib.hid (HQ2_0.out.below hb3 HQ2_0.out.lt)
  have HB3 := Lib.hid (HB2.out.trans (hb3.mono HB2.out.size))
  clear hb3 c2_0_0 c2_0_1 z2_0
  have c3_0_0 := HQ3_0.out.cell 0
  have c3_0_1 := HQ3_0.out.cell 1
  have z3_0 := HQ3_0.out.lt
  try simp at c3_0_0 c3_0_1
  go_wp2_with fail
  refine (Code_errno 1 _ (HG.out.below HB3.out)).mono ?_
  rintro e w4 ⟨rfl, hb4⟩
  have HQ4_0 := Lib.hid (HQ3_0.out.below hb4 HQ3_0.out.lt)
  have HB4 := Lib.hid (HB3.out.trans (hb4.mono HB3.out.size))
  clear hb4 c3_0_0 c3_0_1 z3_0
  have c4_0_0 := HQ4_0.out.cell 0
  have c4_0_1 := HQ4_0.out.cell 1
  have z4_0 := HQ4_0.out.lt
  try simp at c4_0_0 c4_0_1
  go_wp2_with fail
  go_ret
  exact ⟨by first | rfl | simp, HB4.out⟩
set_option maxRecDepth 20000 in
set_option maxHeartbeats 4000000 in
theorem LPays_yes {p b P n : Nat} (hr : rateB p b) (hP0 : 1 ≤ P) (hP : P ≤ 1000000000000) (hn0 : 1 ≤ n) (hn : n ≤ 480) (w : World) : Calls Tryd.prog 3 #[.int .i64 (P : Int), rv p b, .int .i64 (n : Int)] w (Ret (.bool true) w) := by
  have hL1 := fun W => lr10 p b P n W
  rw [decide_eq_true (show lvB p b P n from ⟨hr, by omega, by omega, by omega, by omega⟩)] at hL1
  obtain ⟨y, hy⟩ := lst_any (p := p) (n := n) (P := P) hn0
  have hPy := fun W => Payment_yes hr hP0 hP hn0 hn hy W
  have hy1 : 1 ≤ y := Nat.le_trans (prt_pos hn0 hP0) (hy.low hn0 hP0)
  have hyb : y ≤ 2000000000000 := by
    have h1 := hy.high hn0
    have h2 := prt_bd hn0 hP0
    have h3 := mi_bd hP hr.1
    omega
  have hO := fun W => own10_any (p := p) hr.2 W
  obtain ⟨th, hth⟩ : ∃ th, decide (b = 2) = th := ⟨_, rfl⟩
  rw [hth] at hO
  have hA := fun W => RLeft_any (n := n) (y := y) th hP hr.1 hn (by omega) W
  rw [(rlN_iff n P).2 hy.1] at hA
  replace hA : ∀ W, Calls Tryd.prog 9 #[.int .i64 (P : Int), rr p th, .int .i64 (n : Int), .int .i64 (y : Int)] W (Ret (.int .i64 0) W) := hA
  have i1 : (1 : Int) ≤ (y : Int) := by omega
  by_cases hy2 : y = 1
  · subst hy2
    replace hA : ∀ W, Calls Tryd.prog 9 #[.int .i64 (P : Int), rr p th, .int .i64 (n : Int), .int .i64 1] W (Ret (.int .i64 0) W) := hA
    replace hPy : ∀ W, Calls Tryd.prog 6 #[.int .i64 (P : Int), rv p b, .int .i64 (n : Int)] W (Ret (.tuple #[.int .i64 1, .nilIface]) W) := hPy
    unfold rv rr at *
    clear hr hP0 hP hn0 hn hy hy1 hyb hth i1
    go_enter Tryd.func3, Tryd.ntmps3
    have HQ0 := Lib.hid (Blk.new w 25 #[.int .u32 (p : Int), .int .u8 (b : Int)])
    have HB0 := Lib.hid (b_alloc w (.cells #[.int .u32 (p : Int), .int .u8 (b : Int)] 25))
    go_wp2_with fail
    refine (awake10 _).mono ?_
    rintro e w1 ⟨rfl, hb1⟩
    have HQ1_0 := Lib.hid (HQ0.out.below hb1 HQ0.out.lt)
    have HB1 := Lib.hid (HB0.out.trans (hb1.mono HB0.out.size))
    clear hb1
    have c1_0_0 := HQ1_0.out.cell 0
    have c1_0_1 := HQ1_0.out.cell 1
    have z1_0 := HQ1_0.out.lt
    try simp at c1_0_0 c1_0_1
    go_wp2_with fail
    refine (hPy _).mono ?_
    rintro e w2 ⟨rfl, hb2⟩
    have HQ2_0 := Lib.hid (HQ1_0.out.below hb2 HQ1_0.out.lt)
    have HB2 := Lib.hid (HB1.out.trans (hb2.mono HB1.out.size))
    clear hb2 c1_0_0 c1_0_1 z1_0
    have c2_0_0 := HQ2_0.out.cell 0
    have c2_0_1 := HQ2_0.out.cell 1
    have z2_0 := HQ2_0.out.lt
    try simp at c2_0_0 c2_0_1
    go_wp2_with fail
    refine (hL1 _).mono ?_
    rintro e w3 ⟨rfl, hb3⟩
    have HQ3_0 := Lib.hid (HQ2_0.out.below hb3 HQ2_0.out.lt)
    have HB3 := Lib.hid (HB2.out.trans (hb3.mono HB2.out.size))
    clear hb3 c2_0_0 c2_0_1 z2_0
    have c3_0_0 := HQ3_0.out.cell 0
    have c3_0_1 := HQ3_0.out.cell 1
    have z3_0 := HQ3_0.out.lt
    try simp at c3_0_0 c3_0_1
    go_wp2_with fail
    refine (hO _).mono ?_
    rintro e w4 ⟨rfl, hb4⟩
    have HQ4_0 := Lib.hid (HQ3_0.out.below hb4 HQ3_0.out.lt)
    have HB4 := Lib.hid (HB3.out.trans (hb4.mono HB3.out.size))
    clear hb4 c3_0_0 c3_0_1 z3_0
    have c4_0_0 := HQ4_0.out.cell 0
    have c4_0_1 := HQ4_0.out.cell 1
    have z4_0 := HQ4_0.out.lt
    try simp at c4_0_0 c4_0_1
    go_wp2_with fail
    refine (hA _).mono ?_
    rintro e w5 ⟨rfl, hb5⟩
    have HQ5_0 := Lib.hid (HQ4_0.out.below hb5 HQ4_0.out.lt)
    have HB5 := Lib.hid (HB4.out.trans (hb5.mono HB4.out.size))
    clear hb5 c4_0_0 c4_0_1 z4_0
    have c5_0_0 := HQ5_0.out.cell 0
    have c5_0_1 := HQ5_0.out.cell 1
    have z5_0 := HQ5_0.out.lt
    try simp at c5_0_0 c5_0_1
    go_wp2_with fail
    go_ret
    exact ⟨by first | rfl | (simp; done) | (simp; omega), HB5.out⟩
  · obtain ⟨z, hz⟩ : ∃ z, y = z + 1 := ⟨y - 1, by omega⟩
    have hA2 := fun W => RLeft_any (n := n) (y := z) th hP hr.1 hn (by omega) W
    have hne : 0 < rlN p z n P := by
      rcases Nat.eq_zero_or_pos (rlN p z n P) with h0 | h0
      · have := hy.2 z ((rlN_iff n P).1 h0)
        omega
      · exact h0
    obtain ⟨v, hv⟩ : ∃ v, rlN p z n P = v := ⟨_, rfl⟩
    rw [hv] at hA2 hne
    have j1 : ((y : Int) == 1) = false := by rw [beq_eq_false_iff_ne]; omega
    have j2 : (y : Int) - 1 = (z : Int) := by omega
    have j3 : (0 : Int) < (v : Int) := by omega
    have j4 : z ≤ 2000000000000 := by omega
    unfold rv rr at *
    clear hr hP0 hP hn0 hn hy hy1 hyb hth hv hne hy2 hz
    go_enter Tryd.func3, Tryd.ntmps3
    have HQ0 := Lib.hid (Blk.new w 25 #[.int .u32 (p : Int), .int .u8 (b : Int)])
    have HB0 := Lib.hid (b_alloc w (.cells #[.int .u32 (p : Int), .int .u8 (b : Int)] 25))
    go_wp2_with fail
    refine (awake10 _).mono ?_
    rintro e w1 ⟨rfl, hb1⟩
    have HQ1_0 := Lib.hid (HQ0.out.below hb1 HQ0.out.lt)
    have HB1 := Lib.hid (HB0.out.trans (hb1.mono HB0.out.size))
    clear hb1
    have c1_0_0 := HQ1_0.out.cell 0
    have c1_0_1 := HQ1_0.out.cell 1
    have z1_0 := HQ1_0.out.lt
    try simp at c1_0_0 c1_0_1
    go_wp2_with fail
    refine (hPy _).mono ?_
    rintro e w2 ⟨rfl, hb2⟩
    have HQ2_0 := Lib.hid (HQ1_0.out.below hb2 HQ1_0.out.lt)
    have HB2 := Lib.hid (HB1.out.trans (hb2.mono HB1.out.size))
    clear hb2 c1_0_0 c1_0_1 z1_0
    have c2_0_0 := HQ2_0.out.cell 0
    have c2_0_1 := HQ2_0.out.cell 1
    have z2_0 := HQ2_0.out.lt
    try simp at c2_0_0 c2_0_1
    go_wp2_with fail
    refine (hL1 _).mono ?_
    rintro e w3 ⟨rfl, hb3⟩
    have HQ3_0 := Lib.hid (HQ2_0.out.below hb3 HQ2_0.out.lt)
    have HB3 := Lib.hid (HB2.out.trans (hb3.mono HB2.out.size))
    clear hb3 c2_0_0 c2_0_1 z2_0
    have c3_0_0 := HQ3_0.out.cell 0
    have c3_0_1 := HQ3_0.out.cell 1
    have z3_0 := HQ3_0.out.lt
    try simp at c3_0_0 c3_0_1
    go_wp2_with fail
    refine (hO _).mono ?_
    rintro e w4 ⟨rfl, hb4⟩
    have HQ4_0 := Lib.hid (HQ3_0.out.below hb4 HQ3_0.out.lt)
    have HB4 := Lib.hid (HB3.out.trans (hb4.mono HB3.out.size))
    clear hb4 c3_0_0 c3_0_1 z3_0
    have c4_0_0 := HQ4_0.out.cell 0
    have c4_0_1 := HQ4_0.out.cell 1
    have z4_0 := HQ4_0.out.lt
    try simp at c4_0_0 c4_0_1
    go_wp2_with fail
    refine (hA _).mono ?_
    rintro e w5 ⟨rfl, hb5⟩
    have HQ5_0 := Lib.hid (HQ4_0.out.below hb5 HQ4_0.out.lt)
    have HB5 := Lib.hid (HB4.out.trans (hb5.mono HB4.out.size))
    clear hb5 c4_0_0 c4_0_1 z4_0
    have c5_0_0 := HQ5_0.out.cell 0
    have c5_0_1 := HQ5_0.out.cell 1
    have z5_0 := HQ5_0.out.lt
    try simp at c5_0_0 c5_0_1
    go_wp2_with fail
    refine (hO _).mono ?_
    rintro e w6 ⟨rfl, hb6⟩
    have HQ6_0 := Lib.hid (HQ5_0.out.below hb6 HQ5_0.out.lt)
    have HB6 := Lib.hid (HB5.out.trans (hb6.mono HB5.out.size))
    clear hb6 c5_0_0 c5_0_1 z5_0
    have c6_0_0 := HQ6_0.out.cell 0
    have c6_0_1 := HQ6_0.out.cell 1
    have z6_0 := HQ6_0.out.lt
    try simp at c6_0_0 c6_0_1
    go_wp2_with fail
    refine (hA2 _).mono ?_
    rintro e w7 ⟨rfl, hb7⟩
    have HQ7_0 := Lib.hid (HQ6_0.out.below hb7 HQ6_0.out.lt)
    have HB7 := Lib.hid (HB6.out.trans (hb7.mono HB6.out.size))
    clear hb7 c6_0_0 c6_0_1 z6_0
    have c7_0_0 := HQ7_0.out.cell 0
    have c7_0_1 := HQ7_0.out.cell 1
    have z7_0 := HQ7_0.out.lt
    try simp at c7_0_0 c7_0_1
    go_wp2_with fail
    go_ret
    exact ⟨by first | rfl | (simp; done) | (simp; omega), HB7.out⟩
theorem LPays_any {p b : Nat} {P n : Int} (w : World) (hg : Laid w) : Calls Tryd.prog 3 #[.int .i64 P, rv p b, .int .i64 n] w (Ret (.bool true) w) := by
  by_cases h : lvB p b P n
  · obtain ⟨hr, a1, a2, a3, a4⟩ := h
    obtain ⟨P, rfl⟩ : ∃ k : Nat, P = (k : Int) := ⟨P.toNat, by omega⟩
    obtain ⟨n, rfl⟩ : ∃ k : Nat, n = (k : Int) := ⟨n.toNat, by omega⟩
    exact LPays_yes hr (by omega) (by omega) (by omega) (by omega) w
  · exact LPays_no h w hg
end Go.Proofs.YtbikfplipkhhcaaDoor
