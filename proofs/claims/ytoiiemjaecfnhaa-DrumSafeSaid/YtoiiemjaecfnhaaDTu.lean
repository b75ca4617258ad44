/-
  DrumTurns: the law's walk. Conditions: the arguments are there.
-/
import Derived.Test.YtoiiemjaecfnhaaDrumY
namespace Go.Proofs.Ytoiiemjaecfnhaa
open Go.RowKit

theorem full_self (l : List UInt8) (h : l.length = 256) : full l = l := by unfold full; rw [h, Nat.sub_self, List.replicate_zero, List.append_nil]
theorem zeros_length : zeros.length = 256 := List.length_replicate ..
theorem take_len (l : List UInt8) : (l.take 256).length ≤ 256 := by rw [List.length_take]; exact Nat.min_le_left _ _
theorem lost_nat (mask e m : Nat) (h : e + m = 32) : mask * 2 ^ e % 4294967296 / 2 ^ e = mask % 2 ^ m := by
  have q : (4294967296 : Nat) = 2 ^ m * 2 ^ e := by rw [← Nat.pow_add, Nat.add_comm, h]
  rw [q, Nat.mul_mod_mul_right, Nat.mul_div_cancel _ (Nat.two_pow_pos e)]
theorem lost_one (mask k m : Nat) (hk : k < 2048) (hm : m = 2048 - k) (h : m < 32) : (((mask : Int) * 2 ^ (32 - (2048 - (k : Int))).toNat % 4294967296 / 2 ^ (32 - (2048 - (k : Int))).toNat) == 0) = decide (mask % 2 ^ m = 0) := by
  obtain ⟨e, he⟩ : ∃ e, e = 32 - m := ⟨_, rfl⟩
  rw [show (32 - (2048 - (k : Int))).toNat = e by omega, ← lost_nat mask e m (by omega)]
  have q0 : ((2 : Int) ^ e) = ((2 ^ e : Nat) : Int) := by push_cast; rfl
  have q : ((mask : Int) * 2 ^ e % 4294967296 / 2 ^ e) = ((mask * 2 ^ e % 4294967296 / 2 ^ e : Nat) : Int) := by
    rw [q0, ← Int.natCast_mul, show (4294967296 : Int) = ((4294967296 : Nat) : Int) from rfl, ← Int.natCast_emod, ← Int.natCast_ediv]
  rw [q, Bool.eq_iff_iff]
  simp only [beq_iff_eq, decide_eq_true_eq]
  omega
theorem lost_all (mask m : Nat) (hm : m = 32) : ((mask : Int) % 4294967296 == 0) = decide (mask % 2 ^ m = 0) := by
  subst hm
  rw [Bool.eq_iff_iff]
  simp only [beq_iff_eq, decide_eq_true_eq]
  omega
theorem min_lost (m k : Nat) (h : m = min 32 (2048 - k)) : m ≤ 32 ∧ k + m ≤ 2048 ∨ 2048 < k := by omega

set_option maxRecDepth 20000 in
set_option maxHeartbeats 8000000 in
theorem DTurns_true (A : Option Addr) (n c B : Nat) (l : List UInt8) (bit mask : Nat) (w : World) (hR : Rd w B A l) (hB : B ≤ w.heap.size) (hn : l.length = n) (hm : n ≤ 140737488355328) (hbit : bit < 65536) (hmask : mask < 4294967296) :
    Calls Try.prog 4 #[.slice A n c, .int .u16 (bit : Int), .int .u32 (mask : Int), .bool true] w fun e w' => e = .returned (.bool true) ∧ Below w.heap.size w w' := by
  go_enter Try.func4, Try.ntmps4
  go_wp2_with fail
  refine (awake1_any w).mono ?_
  rintro e w1 ⟨rfl, hb1⟩
  have HB1 := Lib.hid hb1
  go_wp2_with fail
  refine (Cut_any A n c B 256 l w1 (hR.below (hb1.mono hB)) hn hm (by decide) (by have := hb1.size; omega)).mono ?_
  rintro e w2 ⟨A2, c2, rfl, hc2, hcm2, hr2, hb2⟩
  have HB2 : Hid (Below w.heap.size w w2) := Lib.hid (hb1.trans (hb2.mono hb1.size))
  clear hb1 hb2 HB1 hR
  obtain ⟨L, hL⟩ : ∃ L, L = l.take 256 := ⟨_, rfl⟩
  rw [← hL] at hr2 hc2 ⊢
  have hLl : L.length ≤ 256 := by rw [hL]; exact take_len l
  clear hL
  go_wp2_with fail
  refine (Full_any A2 L.length c2 w2.heap.size L w2 hr2 (Nat.le_refl _) rfl hLl).mono ?_
  rintro e w3 ⟨rfl, hb3, hw3⟩
  obtain ⟨P, hP⟩ : ∃ P, P = full L := ⟨_, rfl⟩
  rw [← hP] at hb3
  have HPL : Hid (P.length = 256) := Lib.hid (by rw [hP]; exact full_length L hLl)
  have HB3 : Hid (Below w.heap.size w w3) := Lib.hid (HB2.out.trans (hw3.mono HB2.out.size))
  have HP3 := Lib.hid hb3
  clear hw3 hb3 hP hr2 hLl hc2 HB2
  go_wp2_with fail
  refine (New_dr 2 (by decide) (by decide) _).mono ?_
  rintro e w4 ⟨d, o, rfl, hd4, hw4⟩
  have HD4 := Lib.hid hd4
  have hlt2 : w2.heap.size < w3.heap.size := HP3.out.lt
  have hr4 : RdK o w4 (some ⟨w2.heap.size, 0, none⟩) P := RdK.of_rd (B := w3.heap.size) (blk_rd (HP3.out.below hw4 hlt2) hlt2) hw4.size hd4.ge
  have HB4 : Hid (Below w.heap.size w w4) := Lib.hid (HB3.out.trans (hw4.mono HB3.out.size))
  have HS3 : Hid (w.heap.size ≤ w3.heap.size) := Lib.hid HB3.out.size
  obtain ⟨q2, hq2⟩ : ∃ q, q = w2.heap.size := ⟨_, rfl⟩
  rw [← hq2] at hr4 ⊢
  have HR4 := Lib.hid hr4
  clear hd4 hw4 hr4 HP3 HB3 hlt2 hq2
  go_wp2_with fail
  refine (Write_dr HD4.out (by decide) (by decide) 1 256 (by decide) HR4.out HPL.out (Nat.le_refl _) (by decide)).mono ?_
  rintro e w5 ⟨rfl, o5, hd5, hk5, ho5⟩
  rw [full_self P HPL.out] at hd5
  have HD5 := Lib.hid hd5
  have HR5 := Lib.hid (HR4.out.kept hk5 ho5)
  have HB5 : Hid (Below w.heap.size w w5) := Lib.hid (HB4.out.trans (hk5.below (B := w.heap.size) HB4.out.size (fun i hi e => absurd (HD4.out.ge i e) (by have := HS3.out; omega))))
  clear hd5 hk5 ho5 HD4 HR4 HB4
  go_wp2_with fail
  have HD6 : Hid (Dr w5 w3.heap.size d o5 [zeros, zeros] [(1, P)] (-1)) := HD5
  have HR6 := HR5
  have HB6 := HB5
  clear HD5 HR5 HB5
  obtain ⟨k, hk⟩ : ∃ k, k = bit % 2048 := ⟨_, rfl⟩
  have hkl : k < 2048 := by omega
  obtain ⟨m, hmm⟩ : ∃ m, m = min 32 (2048 - k) := ⟨_, rfl⟩
  have hm1 : m ≤ 32 := by omega
  have hm2 : k + m ≤ 2048 := by omega
  have hki : ((bit : Int) % 2048) = (k : Int) := by omega
  obtain ⟨X, hX⟩ : ∃ X, X = P := ⟨_, rfl⟩
  have HXL : Hid (X.length = 256) := Lib.hid (by rw [hX]; exact HPL.out)
  have hc1 : IntKind.i64.wrap (bit : Int) = (bit : Int) := by rw [IntKind.wrap_i64]; omega
  have HX := Lib.hid hX
  have HM := Lib.hid hmm
  have HK := Lib.hid hk
  clear hX hk
  go_wp2_with fail
  rw [hki]
  refine (Turn_dr HD6.out 1 k mask (by show 1 < 2; decide) hkl hmask).mono ?_
  rintro e w7 ⟨rfl, hd7, hk7⟩
  rw [← hmm] at hd7
  have HD7 := Lib.hid hd7
  have HR7 := Lib.hid (HR6.out.kept hk7 fun _ _ h => h)
  have HB7 : Hid (Below w.heap.size w w7) := Lib.hid (HB6.out.trans (hk7.below (B := w.heap.size) HB6.out.size (fun i hi e => absurd (HD6.out.ge i e) (by have := HS3.out; omega))))
  clear hd7 hk7 HD6 HR6 HB6
  go_wp2_with fail
  refine (Read_dr HD7.out 1 (by rw [List.length_set]; show 1 < 2; decide)).mono ?_
  rintro e w8 ⟨rfl, hb8, hw8⟩
  have hn8 : now (([zeros, zeros] : List (List UInt8)).set 1 (turnK (([zeros, zeros] : List (List UInt8)).getD 1 []) k mask m)) [(1, P)] 1 = X := by rw [HX.out]; rfl
  rw [hn8] at hb8
  have HP8 := Lib.hid (blk_rd hb8 hb8.lt)
  have HD8 := Lib.hid (HD7.out.below hw8)
  have HR8 := Lib.hid (HR7.out.below hw8)
  have HB8 : Hid (Below w.heap.size w w8) := Lib.hid (HB7.out.trans (hw8.mono HB7.out.size))
  clear hb8 hw8 HD7 HR7 HB7
  go_wp2_with fail
  refine (Same_any (some ⟨q2, 0, none⟩) _ 256 256 w8.heap.size 256 256 w8.heap.size P X w8 HR8.out.rd HPL.out (by decide) HP8.out HXL.out (by decide)).mono ?_
  rintro e w9 hq
  obtain ⟨rfl, hw9⟩ := below_all hq
  have HD9 := Lib.hid (HD8.out.below hw9)
  have HR9 := Lib.hid (HR8.out.below hw9)
  have HB9 : Hid (Below w.heap.size w w9) := Lib.hid (HB8.out.trans (hw9.mono HB8.out.size))
  clear hq hw9 HD8 HR8 HB8 HP8
  go_wp2_with fail
  refine (Turn_dr HD9.out 1 k mask (by rw [List.length_set]; show 1 < 2; decide) hkl hmask).mono ?_
  rintro e w10 ⟨rfl, hd10, hk10⟩
  rw [← hmm] at hd10
  have HD10 := Lib.hid hd10
  have HR10 := Lib.hid (HR9.out.kept hk10 fun _ _ h => h)
  have HB10 : Hid (Below w.heap.size w w10) := Lib.hid (HB9.out.trans (hk10.below (B := w.heap.size) HB9.out.size (fun i hi e => absurd (HD9.out.ge i e) (by have := HS3.out; omega))))
  clear hd10 hk10 HD9 HR9 HB9
  go_wp2_with fail
  refine (Read_dr HD10.out 1 (by rw [List.length_set, List.length_set]; show 1 < 2; decide)).mono ?_
  rintro e w11 ⟨rfl, hb11, hw11⟩
  have hn11 : now ((([zeros, zeros] : List (List UInt8)).set 1 (turnK (([zeros, zeros] : List (List UInt8)).getD 1 []) k mask m)).set 1 (turnK ((([zeros, zeros] : List (List UInt8)).set 1 (turnK (([zeros, zeros] : List (List UInt8)).getD 1 []) k mask m)).getD 1 []) k mask m)) [(1, P)] 1 = P := by rfl
  rw [hn11] at hb11
  have HP11 := Lib.hid (blk_rd hb11 hb11.lt)
  have HR11 := Lib.hid (HR10.out.below hw11)
  have HB11 : Hid (Below w.heap.size w w11) := Lib.hid (HB10.out.trans (hw11.mono HB10.out.size))
  clear hb11 hw11 HD10 HR10 HB10
  go_wp2_with fail
  · rw [lost_one mask k m hkl (by have := HM.out; omega) (by have := HM.out; omega)]
    obtain ⟨LB, hLB⟩ : ∃ b, b = decide (mask % 2 ^ m = 0) := ⟨_, rfl⟩
    rw [← hLB]
    have hs : decide (P = X) = true := by rw [HX.out]; exact decide_eq_true rfl
    rw [hs]
    clear hLB hs
    refine (Same_any (some ⟨q2, 0, none⟩) _ 256 256 w11.heap.size 256 256 w11.heap.size P P w11 HR11.out.rd HPL.out (by decide) HP11.out HPL.out (by decide)).mono ?_
    rintro e w12 hq
    obtain ⟨rfl, hw12⟩ := below_all hq
    rw [decide_eq_true (show P = P from rfl)]
    have HB12 : Hid (Below w.heap.size w w12) := Lib.hid (HB11.out.trans (hw12.mono HB11.out.size))
    clear hq hw12 HR11 HB11 HP11
    cases LB
    · go_wp2
      go_ret
      exact ⟨rfl, HB12.out⟩
    · go_wp2
      go_ret
      exact ⟨rfl, HB12.out⟩
  · rw [lost_all mask m (by have := HM.out; omega)]
    obtain ⟨LB, hLB⟩ : ∃ b, b = decide (mask % 2 ^ m = 0) := ⟨_, rfl⟩
    rw [← hLB]
    have hs : decide (P = X) = true := by rw [HX.out]; exact decide_eq_true rfl
    rw [hs]
    clear hLB hs
    refine (Same_any (some ⟨q2, 0, none⟩) _ 256 256 w11.heap.size 256 256 w11.heap.size P P w11 HR11.out.rd HPL.out (by decide) HP11.out HPL.out (by decide)).mono ?_
    rintro e w12 hq
    obtain ⟨rfl, hw12⟩ := below_all hq
    rw [decide_eq_true (show P = P from rfl)]
    have HB12 : Hid (Below w.heap.size w w12) := Lib.hid (HB11.out.trans (hw12.mono HB11.out.size))
    clear hq hw12 HR11 HB11 HP11
    cases LB
    · go_wp2
      go_ret
      exact ⟨rfl, HB12.out⟩
    · go_wp2
      go_ret
      exact ⟨rfl, HB12.out⟩

set_option maxRecDepth 20000 in
set_option maxHeartbeats 8000000 in
theorem DTurns_false (A : Option Addr) (n c B : Nat) (l : List UInt8) (bit mask : Nat) (w : World) (hR : Rd w B A l) (hB : B ≤ w.heap.size) (hn : l.length = n) (hm : n ≤ 140737488355328) (hbit : bit < 65536) (hmask : mask < 4294967296) :
    Calls Try.prog 4 #[.slice A n c, .int .u16 (bit : Int), .int .u32 (mask : Int), .bool false] w fun e w' => e = .returned (.bool true) ∧ Below w.heap.size w w' := by
  go_enter Try.func4, Try.ntmps4
  go_wp2_with fail
  refine (awake1_any w).mono ?_
  rintro e w1 ⟨rfl, hb1⟩
  have HB1 := Lib.hid hb1
  go_wp2_with fail
  refine (Cut_any A n c B 256 l w1 (hR.below (hb1.mono hB)) hn hm (by decide) (by have := hb1.size; omega)).mono ?_
  rintro e w2 ⟨A2, c2, rfl, hc2, hcm2, hr2, hb2⟩
  have HB2 : Hid (Below w.heap.size w w2) := Lib.hid (hb1.trans (hb2.mono hb1.size))
  clear hb1 hb2 HB1 hR
  obtain ⟨L, hL⟩ : ∃ L, L = l.take 256 := ⟨_, rfl⟩
  rw [← hL] at hr2 hc2 ⊢
  have hLl : L.length ≤ 256 := by rw [hL]; exact take_len l
  clear hL
  go_wp2_with fail
  refine (Full_any A2 L.length c2 w2.heap.size L w2 hr2 (Nat.le_refl _) rfl hLl).mono ?_
  rintro e w3 ⟨rfl, hb3, hw3⟩
  obtain ⟨P, hP⟩ : ∃ P, P = full L := ⟨_, rfl⟩
  rw [← hP] at hb3
  have HPL : Hid (P.length = 256) := Lib.hid (by rw [hP]; exact full_length L hLl)
  have HB3 : Hid (Below w.heap.size w w3) := Lib.hid (HB2.out.trans (hw3.mono HB2.out.size))
  have HP3 := Lib.hid hb3
  clear hw3 hb3 hP hr2 hLl hc2 HB2
  go_wp2_with fail
  refine (New_dr 2 (by decide) (by decide) _).mono ?_
  rintro e w4 ⟨d, o, rfl, hd4, hw4⟩
  have HD4 := Lib.hid hd4
  have hlt2 : w2.heap.size < w3.heap.size := HP3.out.lt
  have hr4 : RdK o w4 (some ⟨w2.heap.size, 0, none⟩) P := RdK.of_rd (B := w3.heap.size) (blk_rd (HP3.out.below hw4 hlt2) hlt2) hw4.size hd4.ge
  have HB4 : Hid (Below w.heap.size w w4) := Lib.hid (HB3.out.trans (hw4.mono HB3.out.size))
  have HS3 : Hid (w.heap.size ≤ w3.heap.size) := Lib.hid HB3.out.size
  obtain ⟨q2, hq2⟩ : ∃ q, q = w2.heap.size := ⟨_, rfl⟩
  rw [← hq2] at hr4 ⊢
  have HR4 := Lib.hid hr4
  clear hd4 hw4 hr4 HP3 HB3 hlt2 hq2
  go_wp2_with fail
  refine (Write_dr HD4.out (by decide) (by decide) 1 256 (by decide) HR4.out HPL.out (Nat.le_refl _) (by decide)).mono ?_
  rintro e w5 ⟨rfl, o5, hd5, hk5, ho5⟩
  rw [full_self P HPL.out] at hd5
  have HD5 := Lib.hid hd5
  have HR5 := Lib.hid (HR4.out.kept hk5 ho5)
  have HB5 : Hid (Below w.heap.size w w5) := Lib.hid (HB4.out.trans (hk5.below (B := w.heap.size) HB4.out.size (fun i hi e => absurd (HD4.out.ge i e) (by have := HS3.out; omega))))
  clear hd5 hk5 ho5 HD4 HR4 HB4
  go_wp2_with fail
  refine (Flush_dr HD5.out (by decide) (by decide)).mono ?_
  rintro e w6 ⟨rfl, o6, hd6, hk6, ho6⟩
  have HD6 : Hid (Dr w6 w3.heap.size d o6 [zeros, P] [] (-1)) := Lib.hid hd6
  have HR6 := Lib.hid (HR5.out.kept hk6 ho6)
  have HB6 : Hid (Below w.heap.size w w6) := Lib.hid (HB5.out.trans (hk6.below (B := w.heap.size) HB5.out.size (fun i hi e => absurd (HD5.out.ge i e) (by have := HS3.out; omega))))
  clear hd6 hk6 ho6 HD5 HR5 HB5
  obtain ⟨k, hk⟩ : ∃ k, k = bit % 2048 := ⟨_, rfl⟩
  have hkl : k < 2048 := by omega
  obtain ⟨m, hmm⟩ : ∃ m, m = min 32 (2048 - k) := ⟨_, rfl⟩
  have hm1 : m ≤ 32 := by omega
  have hm2 : k + m ≤ 2048 := by omega
  have hki : ((bit : Int) % 2048) = (k : Int) := by omega
  obtain ⟨X, hX⟩ : ∃ X, X = turnK P (bit % 2048) mask (min 32 (2048 - bit % 2048)) := ⟨_, rfl⟩
  have HXL : Hid (X.length = 256) := Lib.hid (by rw [hX]; rw [turnK_length]; exact HPL.out)
  have hc1 : IntKind.i64.wrap (bit : Int) = (bit : Int) := by rw [IntKind.wrap_i64]; omega
  have HX := Lib.hid hX
  have HM := Lib.hid hmm
  have HK := Lib.hid hk
  clear hX hk
  go_wp2_with fail
  rw [hki]
  refine (Turn_dr HD6.out 1 k mask (by show 1 < 2; decide) hkl hmask).mono ?_
  rintro e w7 ⟨rfl, hd7, hk7⟩
  rw [← hmm] at hd7
  have HD7 := Lib.hid hd7
  have HR7 := Lib.hid (HR6.out.kept hk7 fun _ _ h => h)
  have HB7 : Hid (Below w.heap.size w w7) := Lib.hid (HB6.out.trans (hk7.below (B := w.heap.size) HB6.out.size (fun i hi e => absurd (HD6.out.ge i e) (by have := HS3.out; omega))))
  clear hd7 hk7 HD6 HR6 HB6
  go_wp2_with fail
  refine (Read_dr HD7.out 1 (by rw [List.length_set]; show 1 < 2; decide)).mono ?_
  rintro e w8 ⟨rfl, hb8, hw8⟩
  have hn8 : now (([zeros, P] : List (List UInt8)).set 1 (turnK (([zeros, P] : List (List UInt8)).getD 1 []) k mask m)) [] 1 = X := by rw [HX.out]; rw [← HK.out, ← HM.out]; rfl
  rw [hn8] at hb8
  have HP8 := Lib.hid (blk_rd hb8 hb8.lt)
  have HD8 := Lib.hid (HD7.out.below hw8)
  have HR8 := Lib.hid (HR7.out.below hw8)
  have HB8 : Hid (Below w.heap.size w w8) := Lib.hid (HB7.out.trans (hw8.mono HB7.out.size))
  clear hb8 hw8 HD7 HR7 HB7
  go_wp2_with fail
  refine (Same_any (some ⟨q2, 0, none⟩) _ 256 256 w8.heap.size 256 256 w8.heap.size P X w8 HR8.out.rd HPL.out (by decide) HP8.out HXL.out (by decide)).mono ?_
  rintro e w9 hq
  obtain ⟨rfl, hw9⟩ := below_all hq
  have HD9 := Lib.hid (HD8.out.below hw9)
  have HR9 := Lib.hid (HR8.out.below hw9)
  have HB9 : Hid (Below w.heap.size w w9) := Lib.hid (HB8.out.trans (hw9.mono HB8.out.size))
  clear hq hw9 HD8 HR8 HB8 HP8
  go_wp2_with fail
  refine (Turn_dr HD9.out 1 k mask (by rw [List.length_set]; show 1 < 2; decide) hkl hmask).mono ?_
  rintro e w10 ⟨rfl, hd10, hk10⟩
  rw [← hmm] at hd10
  have HD10 := Lib.hid hd10
  have HR10 := Lib.hid (HR9.out.kept hk10 fun _ _ h => h)
  have HB10 : Hid (Below w.heap.size w w10) := Lib.hid (HB9.out.trans (hk10.below (B := w.heap.size) HB9.out.size (fun i hi e => absurd (HD9.out.ge i e) (by have := HS3.out; omega))))
  clear hd10 hk10 HD9 HR9 HB9
  go_wp2_with fail
  refine (Read_dr HD10.out 1 (by rw [List.length_set, List.length_set]; show 1 < 2; decide)).mono ?_
  rintro e w11 ⟨rfl, hb11, hw11⟩
  have hn11 : now ((([zeros, P] : List (List UInt8)).set 1 (turnK (([zeros, P] : List (List UInt8)).getD 1 []) k mask m)).set 1 (turnK ((([zeros, P] : List (List UInt8)).set 1 (turnK (([zeros, P] : List (List UInt8)).getD 1 []) k mask m)).getD 1 []) k mask m)) [] 1 = P := by exact turnK_twice P k mask m (by rw [HPL.out]; omega)
  rw [hn11] at hb11
  have HP11 := Lib.hid (blk_rd hb11 hb11.lt)
  have HR11 := Lib.hid (HR10.out.below hw11)
  have HB11 : Hid (Below w.heap.size w w11) := Lib.hid (HB10.out.trans (hw11.mono HB10.out.size))
  clear hb11 hw11 HD10 HR10 HB10
  go_wp2_with fail
  · rw [lost_one mask k m hkl (by have := HM.out; omega) (by have := HM.out; omega)]
    obtain ⟨LB, hLB⟩ : ∃ b, b = decide (mask % 2 ^ m = 0) := ⟨_, rfl⟩
    rw [← hLB]
    have hs : decide (P = X) = LB := by rw [hLB]; apply decide_eq_decide.2; rw [HX.out, ← HK.out, ← HM.out, eq_comm]; exact turnK_same P k mask m (by rw [HPL.out]; omega)
    rw [hs]
    clear hLB hs
    refine (Same_any (some ⟨q2, 0, none⟩) _ 256 256 w11.heap.size 256 256 w11.heap.size P P w11 HR11.out.rd HPL.out (by decide) HP11.out HPL.out (by decide)).mono ?_
    rintro e w12 hq
    obtain ⟨rfl, hw12⟩ := below_all hq
    rw [decide_eq_true (show P = P from rfl)]
    have HB12 : Hid (Below w.heap.size w w12) := Lib.hid (HB11.out.trans (hw12.mono HB11.out.size))
    clear hq hw12 HR11 HB11 HP11
    cases LB
    · go_wp2
      go_ret
      exact ⟨rfl, HB12.out⟩
    · go_wp2
      go_ret
      exact ⟨rfl, HB12.out⟩
  · rw [lost_all mask m (by have := HM.out; omega)]
    obtain ⟨LB, hLB⟩ : ∃ b, b = decide (mask % 2 ^ m = 0) := ⟨_, rfl⟩
    rw [← hLB]
    have hs : decide (P = X) = LB := by rw [hLB]; apply decide_eq_decide.2; rw [HX.out, ← HK.out, ← HM.out, eq_comm]; exact turnK_same P k mask m (by rw [HPL.out]; omega)
    rw [hs]
    clear hLB hs
    refine (Same_any (some ⟨q2, 0, none⟩) _ 256 256 w11.heap.size 256 256 w11.heap.size P P w11 HR11.out.rd HPL.out (by decide) HP11.out HPL.out (by decide)).mono ?_
    rintro e w12 hq
    obtain ⟨rfl, hw12⟩ := below_all hq
    rw [decide_eq_true (show P = P from rfl)]
    have HB12 : Hid (Below w.heap.size w w12) := Lib.hid (HB11.out.trans (hw12.mono HB11.out.size))
    clear hq hw12 HR11 HB11 HP11
    cases LB
    · go_wp2
      go_ret
      exact ⟨rfl, HB12.out⟩
    · go_wp2
      go_ret
      exact ⟨rfl, HB12.out⟩
theorem DTurns_any (A : Option Addr) (n c B : Nat) (l : List UInt8) (bit mask : Nat) (fresh : Bool) (w : World) (hR : Rd w B A l) (hB : B ≤ w.heap.size) (hn : l.length = n) (hm : n ≤ 140737488355328) (hbit : bit < 65536) (hmask : mask < 4294967296) :
    Calls Try.prog 4 #[.slice A n c, .int .u16 (bit : Int), .int .u32 (mask : Int), .bool fresh] w fun e w' => e = .returned (.bool true) ∧ Below w.heap.size w w' := by
  cases fresh
  · exact DTurns_false A n c B l bit mask w hR hB hn hm hbit hmask
  · exact DTurns_true A n c B l bit mask w hR hB hn hm hbit hmask
end Go.Proofs.Ytoiiemjaecfnhaa
