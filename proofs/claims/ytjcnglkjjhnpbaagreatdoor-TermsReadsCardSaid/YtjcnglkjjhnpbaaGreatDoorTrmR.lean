/-
  TermsReads: the walk. Conditions: the laid variables' cells.
-/
import Derived.Test.YtjcnglkjjhnpbaaGreatDoorTrmY
import Derived.Test.YtjcnglkjjhnpbaaGreatDoorTrmZ2
import Derived.Test.YtjcnglkjjhnpbaaGreatDoorTrmS
import Derived.Test.YtjcnglkjjhnpbaaGreatDoorEqT
import Derived.Test.YtjcnglkjjhnpbaaGreatDoorTrmH
import Derived.Test.YtjcnglkjjhnpbaaGreatDoorCodeC
namespace Go.Proofs.YtjcnglkjjhnpbaaGreatDoor
open Go.ChangeShapes Go.WideShapes Go.ChangeAt Go.RowKit

set_option maxRecDepth 20000 in
set_option maxHeartbeats 1000000 in
theorem Text120_rd (s : ByteArray) (hs : s.size ≤ maxLen) (w : World) :
    Calls Tryz.prog 22 #[.string s, .int .i64 120] w fun e w' => (∃ s' : ByteArray, s'.size ≤ 120 ∧ e = .returned (.string s')) ∧ w = w' := by
  unfold maxLen at hs
  by_cases h : s.size ≤ 120
  · have h2 : min (s.size : Int) 120 = (s.size : Int) := by omega
    go_enter Tryz.func22, Tryz.ntmps22
    go_wp2_with fail
    go_ret
    refine ⟨⟨_, ?_, rfl⟩, rfl⟩
    first | exact h | (simp [ByteArray.size_extract] <;> omega)
  · go_enter Tryz.func22, Tryz.ntmps22
    go_wp2_with fail
    go_ret
    refine ⟨⟨_, ?_, rfl⟩, rfl⟩
    first | exact h | (simp [ByteArray.size_extract] <;> omega)
theorem cRText {t : Trm} (h : t.Right) (w : World) : Calls Tryz.prog 25 #[t.r] w (Ret (.string t.text) w) := by
  obtain ⟨K, P, R, B, M, S, F, G⟩ := t
  have hM := h.M
  have hG := h.G
  dsimp only at hM hG
  obtain ⟨M, rfl⟩ : ∃ n : Nat, M = n := ⟨M.toNat, by omega⟩
  obtain ⟨G, rfl⟩ : ∃ n : Nat, G = n := ⟨G.toNat, by omega⟩
  have h9 := RText_nat h w
  have e : Trm.text ⟨K, P, R, B, (M : Int), S, F, (G : Int)⟩ = sps [nameB K, textC P, dec R, spanB (B : Int), dec M, dayText S, textC F, dec G] := by
    unfold Trm.text Trm.l
    dsimp only
    rw [itS_dec, itS_dec]
  rw [e]
  exact h9
theorem trm_in {t : Trm} (h : t.Right) : t.In := by
  obtain ⟨hK, ⟨hR, hB⟩, hP, hM, hS, hF, hG⟩ := h
  exact ⟨by omega, by omega, by omega, by omega, by omega, by omega, by omega, by omega⟩
theorem bne_self (x : ByteArray) : (x.toList != x.toList) = false := by simp
set_option maxRecDepth 100000 in
set_option maxHeartbeats 8000000 in
theorem TReads_no {t : Trm} (hi : t.In) (h : ¬ t.Right) (s : ByteArray) (hs : s.size ≤ maxLen) (w : World) (hld : TLd w) (hle : Laid w)
    (cA : ∀ W, Below w.heap.size w W → Calls Tryz.prog 7 #[] W (Ret (.bool true) W)) :
    Calls Tryz.prog 5 #[t.v, .string s] w (Ret (.bool true) w) := by
  have cO := fun W => own16_any hi W
  have cQ := fun W => QRight_false hi h W
  have cT := fun W (_ : Lens W) (_ : Pows W) => TText_no h W
  have cZ : ∀ W, (Op.equalIn 10000 28 (.agg #[.int .u8 0, .int .i64 0, .int .u32 0, .int .u8 0, .int .i64 0, .int .i32 0, .int .i64 0, .int .i64 0]) (.agg #[.int .u8 0, .int .i64 0, .int .u32 0, .int .u8 0, .int .i64 0, .int .i32 0, .int .i64 0, .int .i64 0])).run Tryz.prog W = .ok true W := fun W => by rw [eqT]; simp
  obtain ⟨K, P, R, B, M, S, F, G⟩ := t
  unfold Trm.v Trm.r at *
  dsimp only at cO cQ cT ⊢
  clear hi h
  have HQ0 := Lib.hid (Blk.new w 28 #[.int .u8 (K : Int), .int .i64 P, .int .u32 (R : Int), .int .u8 (B : Int), .int .i64 M, .int .i32 S, .int .i64 F, .int .i64 G])
  have HB0 := Lib.hid (b_alloc w (.cells #[.int .u8 (K : Int), .int .i64 P, .int .u32 (R : Int), .int .u8 (B : Int), .int .i64 M, .int .i32 S, .int .i64 F, .int .i64 G] 28))
  have HLD := Lib.hid hld
  have HLE := Lib.hid hle
  have cA1 := cA _ HB0.out
  have cS := fun W => Text120_rd s hs W
  clear hle hld hs cA
  go_enter Tryz.func5, Tryz.ntmps5
  go_wp2_with fail
  refine cA1.mono ?_
  rintro e w1 ⟨rfl, hb⟩
  have HB1 := Lib.hid (HB0.out.trans (hb.mono HB0.out.size))
  have HQ1 := Lib.hid (HQ0.out.below hb HQ0.out.lt)
  clear hb HB0 HQ0 cA1
  go_wp2_with fail
  refine (cS _).mono ?_
  rintro e w2 ⟨⟨s1, hs1, rfl⟩, rfl⟩
  clear cS
  have cT1 := cT w1 (HLD.out.below HB1.out).le (HLD.out.below HB1.out).po
  clear cT
  obtain ⟨n0, n1, n2, n3, n4, n5, n6, n7⟩ := blk8 HQ1.out
  go_wp2_with fail
  refine cT1.mono ?_
  rintro e w3 ⟨rfl, hb⟩
  have HB3 := Lib.hid (HB1.out.trans (hb.mono HB1.out.size))
  have HQ3 := Lib.hid (HQ1.out.below hb HQ1.out.lt)
  clear hb HB1 HQ1 cT1 n0 n1 n2 n3 n4 n5 n6 n7
  obtain ⟨n0, n1, n2, n3, n4, n5, n6, n7⟩ := blk8 HQ3.out
  go_wp2_with fail
  refine (cO _).mono ?_
  rintro e w4 ⟨rfl, hb⟩
  have HB4 := Lib.hid (HB3.out.trans (hb.mono HB3.out.size))
  have HQ4 := Lib.hid (HQ3.out.below hb HQ3.out.lt)
  clear hb HB3 HQ3 n0 n1 n2 n3 n4 n5 n6 n7
  go_wp2_with fail
  refine (cQ _).mono ?_
  rintro e w5 ⟨rfl, hb⟩
  have HB5 := Lib.hid (HB4.out.trans (hb.mono HB4.out.size))
  have HQ5 := Lib.hid (HQ4.out.below hb HQ4.out.lt)
  clear hb HB4 HQ4 cQ
  have HB9 := HB5
  obtain ⟨w9, hw9⟩ : ∃ W, w5 = W := ⟨_, rfl⟩
  rw [hw9] at HB9 ⊢
  clear hw9 HB5 HQ5 cO
  have cR2 := TRead_any s1 hs1 w9 (HLD.out.below HB9.out)
  clear hs1
  go_wp2_with fail
  refine cR2.mono ?_
  rintro e w10 ⟨hcase, hb⟩
  have HB10 := Lib.hid (HB9.out.trans (hb.mono HB9.out.size))
  clear hb cR2
  rcases hcase with ⟨u, hu, hut, rfl⟩ | rfl
  · have cX := TText_yes hu (by have := u.len hu; omega)
    have cO2 := fun W => own16_any (trm_in hu) W
    have cY2 := fun W => cRText hu W
    rw [hut] at cX cY2
    obtain ⟨uK, uP, uR, uB, uM, uS, uF, uG⟩ := u
    unfold Trm.v at cX cO2 ⊢
    unfold Trm.r at cO2 cY2
    dsimp only at cX cO2 cY2 ⊢
    have hb11 := b_alloc w10 (.cells #[.int .u8 (uK : Int), .int .i64 uP, .int .u32 (uR : Int), .int .u8 (uB : Int), .int .i64 uM, .int .i32 uS, .int .i64 uF, .int .i64 uG] 28)
    have HU := Lib.hid (Blk.new w10 28 #[.int .u8 (uK : Int), .int .i64 uP, .int .u32 (uR : Int), .int .u8 (uB : Int), .int .i64 uM, .int .i32 uS, .int .i64 uF, .int .i64 uG])
    have HB11 := Lib.hid (HB10.out.trans (hb11.mono HB10.out.size))
    obtain ⟨w11, hw11⟩ : ∃ W, w10.alloc (.cells #[.int .u8 (uK : Int), .int .i64 uP, .int .u32 (uR : Int), .int .u8 (uB : Int), .int .i64 uM, .int .i32 uS, .int .i64 uF, .int .i64 uG] 28) = W := ⟨_, rfl⟩
    obtain ⟨gu, hgu⟩ : ∃ g, w10.heap.size = g := ⟨_, rfl⟩
    rw [hw11] at HB11 HU
    rw [hgu] at HU
    have HW11 := Lib.hid (And.intro hw11 hgu)
    have cX1 := cX w11 (HLD.out.below HB11.out).le (HLD.out.below HB11.out).po
    clear hb11 hw11 hgu HB10 hu hut cX
    go_upto_region 12 with (fail)
    rw [HW11.out.1, HW11.out.2]
    obtain ⟨n0, n1, n2, n3, n4, n5, n6, n7⟩ := blk8 HU.out
    go_wp2_with fail
    refine cX1.mono ?_
    rintro e w12 ⟨rfl, hb⟩
    have HU12 := Lib.hid (HU.out.below hb HU.out.lt)
    have HB12 := Lib.hid (HB11.out.trans (hb.mono HB11.out.size))
    clear hb cX1 HU HB11 HW11 n0 n1 n2 n3 n4 n5 n6 n7
    have hse : (s1.toList == s1.toList) = true := beq_self_eq_true _
    obtain ⟨n0, n1, n2, n3, n4, n5, n6, n7⟩ := blk8 HU12.out
    go_wp2_with fail
    refine (cO2 _).mono ?_
    rintro e w13 ⟨rfl, hb⟩
    have HB13 := Lib.hid (HB12.out.trans (hb.mono HB12.out.size))
    clear hb cO2 HU12 HB12 n0 n1 n2 n3 n4 n5 n6 n7
    go_wp2_with fail
    refine (cY2 _).mono ?_
    rintro e w14 ⟨rfl, hb⟩
    have HB14 := Lib.hid (HB13.out.trans (hb.mono HB13.out.size))
    clear hb cY2 HB13
    go_wp2_with fail
    go_ret
    exact ⟨by first | rfl | simp, HB14.out⟩
  · have hb11 := b_alloc w10 (.cells #[.int .u8 0, .int .i64 0, .int .u32 0, .int .u8 0, .int .i64 0, .int .i32 0, .int .i64 0, .int .i64 0] 28)
    have HU := Lib.hid (Blk.new w10 28 #[.int .u8 0, .int .i64 0, .int .u32 0, .int .u8 0, .int .i64 0, .int .i32 0, .int .i64 0, .int .i64 0])
    have HB11 := Lib.hid (HB10.out.trans (hb11.mono HB10.out.size))
    obtain ⟨w11, hw11⟩ : ∃ W, w10.alloc (.cells #[.int .u8 0, .int .i64 0, .int .u32 0, .int .u8 0, .int .i64 0, .int .i32 0, .int .i64 0, .int .i64 0] 28) = W := ⟨_, rfl⟩
    obtain ⟨gu, hgu⟩ : ∃ g, w10.heap.size = g := ⟨_, rfl⟩
    rw [hw11] at HB11 HU
    rw [hgu] at HU
    have HW11 := Lib.hid (And.intro hw11 hgu)
    have cC := Code_errno 15 w11 (HLE.out.below HB11.out)
    clear hb11 hw11 hgu HB10
    unfold zeroT8
    go_upto_region 12 with (fail)
    rw [HW11.out.1, HW11.out.2]
    go_wp2_with fail
    refine cC.mono ?_
    rintro e w12 ⟨rfl, hb⟩
    have HU12 := Lib.hid (HU.out.below hb HU.out.lt)
    have HB12 := Lib.hid (HB11.out.trans (hb.mono HB11.out.size))
    clear hb cC HU HB11 HW11
    obtain ⟨n0, n1, n2, n3, n4, n5, n6, n7⟩ := blk8 HU12.out
    go_wp2_with fail
    go_ret
    exact ⟨by first | rfl | simp, HB12.out⟩
set_option maxRecDepth 100000 in
set_option maxHeartbeats 8000000 in
theorem TReads_yes {t : Trm} (hi : t.In) (h : t.Right) (s : ByteArray) (hs : s.size ≤ maxLen) (w : World) (hld : TLd w) (hle : Laid w)
    (cA : ∀ W, Below w.heap.size w W → Calls Tryz.prog 7 #[] W (Ret (.bool true) W)) :
    Calls Tryz.prog 5 #[t.v, .string s] w (Ret (.bool true) w) := by
  have cO := fun W => own16_any hi W
  have cQ := fun W => QRight_true hi h W
  have cT := fun W h1 h2 => TText_yes h (by have := t.len h; omega) W h1 h2
  have cZ : ∀ W, (Op.equalIn 10000 28 (.agg #[.int .u8 0, .int .i64 0, .int .u32 0, .int .u8 0, .int .i64 0, .int .i32 0, .int .i64 0, .int .i64 0]) (.agg #[.int .u8 0, .int .i64 0, .int .u32 0, .int .u8 0, .int .i64 0, .int .i32 0, .int .i64 0, .int .i64 0])).run Tryz.prog W = .ok true W := fun W => by rw [eqT]; simp
  have kR := fun W (hW : TLd W) => (by
    obtain ⟨m, hm⟩ := hW.mx
    obtain ⟨a, ha⟩ := hW.er
    exact TRead_text h W hW.le hW.po m hm _ _ ha : Calls Tryz.prog 24 #[.string t.text] W fun e w' => e = .returned (.tuple #[t.v, .nilIface]) ∧ Below W.heap.size W w')
  have cY := fun W => cRText h W
  obtain ⟨X, hX⟩ : ∃ X, t.text = X := ⟨_, rfl⟩
  rw [hX] at cT kR cY
  have hXX := bne_self X
  obtain ⟨K, P, R, B, M, S, F, G⟩ := t
  have cE : ∀ W, (Op.equalIn 10000 28 (.agg #[.int .u8 (K : Int), .int .i64 P, .int .u32 (R : Int), .int .u8 (B : Int), .int .i64 M, .int .i32 S, .int .i64 F, .int .i64 G]) (.agg #[.int .u8 (K : Int), .int .i64 P, .int .u32 (R : Int), .int .u8 (B : Int), .int .i64 M, .int .i32 S, .int .i64 F, .int .i64 G])).run Tryz.prog W = .ok true W := fun W => by rw [eqT]; simp
  unfold Trm.v Trm.r at *
  dsimp only at cO cQ cT kR cY ⊢
  clear hi h hX
  have HQ0 := Lib.hid (Blk.new w 28 #[.int .u8 (K : Int), .int .i64 P, .int .u32 (R : Int), .int .u8 (B : Int), .int .i64 M, .int .i32 S, .int .i64 F, .int .i64 G])
  have HB0 := Lib.hid (b_alloc w (.cells #[.int .u8 (K : Int), .int .i64 P, .int .u32 (R : Int), .int .u8 (B : Int), .int .i64 M, .int .i32 S, .int .i64 F, .int .i64 G] 28))
  have HLD := Lib.hid hld
  have HLE := Lib.hid hle
  have cA1 := cA _ HB0.out
  have cS := fun W => Text120_rd s hs W
  clear hle hld hs cA
  go_enter Tryz.func5, Tryz.ntmps5
  go_wp2_with fail
  refine cA1.mono ?_
  rintro e w1 ⟨rfl, hb⟩
  have HB1 := Lib.hid (HB0.out.trans (hb.mono HB0.out.size))
  have HQ1 := Lib.hid (HQ0.out.below hb HQ0.out.lt)
  clear hb HB0 HQ0 cA1
  go_wp2_with fail
  refine (cS _).mono ?_
  rintro e w2 ⟨⟨s1, hs1, rfl⟩, rfl⟩
  clear cS
  have cT1 := cT w1 (HLD.out.below HB1.out).le (HLD.out.below HB1.out).po
  clear cT
  obtain ⟨n0, n1, n2, n3, n4, n5, n6, n7⟩ := blk8 HQ1.out
  go_wp2_with fail
  refine cT1.mono ?_
  rintro e w3 ⟨rfl, hb⟩
  have HB3 := Lib.hid (HB1.out.trans (hb.mono HB1.out.size))
  have HQ3 := Lib.hid (HQ1.out.below hb HQ1.out.lt)
  clear hb HB1 HQ1 cT1 n0 n1 n2 n3 n4 n5 n6 n7
  obtain ⟨n0, n1, n2, n3, n4, n5, n6, n7⟩ := blk8 HQ3.out
  go_wp2_with fail
  refine (cO _).mono ?_
  rintro e w4 ⟨rfl, hb⟩
  have HB4 := Lib.hid (HB3.out.trans (hb.mono HB3.out.size))
  have HQ4 := Lib.hid (HQ3.out.below hb HQ3.out.lt)
  clear hb HB3 HQ3 n0 n1 n2 n3 n4 n5 n6 n7
  go_wp2_with fail
  refine (cQ _).mono ?_
  rintro e w5 ⟨rfl, hb⟩
  have HB5 := Lib.hid (HB4.out.trans (hb.mono HB4.out.size))
  have HQ5 := Lib.hid (HQ4.out.below hb HQ4.out.lt)
  clear hb HB4 HQ4 cQ
  have cR1 := kR w5 (HLD.out.below HB5.out)
  clear kR
  go_wp2_with fail
  refine cR1.mono ?_
  rintro e w6 ⟨rfl, hb⟩
  have hb6 := HB5.out.trans (hb.mono HB5.out.size)
  have hb7 := b_alloc w6 (.cells #[.int .u8 (K : Int), .int .i64 P, .int .u32 (R : Int), .int .u8 (B : Int), .int .i64 M, .int .i32 S, .int .i64 F, .int .i64 G] 28)
  have HX7 := Lib.hid (Blk.new w6 28 #[.int .u8 (K : Int), .int .i64 P, .int .u32 (R : Int), .int .u8 (B : Int), .int .i64 M, .int .i32 S, .int .i64 F, .int .i64 G])
  have HQ7 := Lib.hid ((HQ5.out.below hb HQ5.out.lt).below hb7 (HQ5.out.below hb HQ5.out.lt).lt)
  have HB7 := Lib.hid (hb6.trans (hb7.mono hb6.size))
  obtain ⟨w7, hw7⟩ : ∃ W, w6.alloc (.cells #[.int .u8 (K : Int), .int .i64 P, .int .u32 (R : Int), .int .u8 (B : Int), .int .i64 M, .int .i32 S, .int .i64 F, .int .i64 G] 28) = W := ⟨_, rfl⟩
  obtain ⟨gx, hgx⟩ : ∃ g, w6.heap.size = g := ⟨_, rfl⟩
  rw [hw7] at HX7 HQ7 HB7
  rw [hgx] at HX7
  have HW7 := Lib.hid (And.intro hw7 hgx)
  clear hb hb6 hb7 hw7 hgx HB5 HQ5 cR1
  go_upto_region 7 with (fail)
  rw [HW7.out.1, HW7.out.2]
  obtain ⟨n0, n1, n2, n3, n4, n5, n6, n7⟩ := blk8 HQ7.out
  go_wp2_with fail
  refine (cO _).mono ?_
  rintro e w8 ⟨rfl, hb⟩
  have HB8 := Lib.hid (HB7.out.trans (hb.mono HB7.out.size))
  have HQ8 := Lib.hid (HQ7.out.below hb HQ7.out.lt)
  have HX8 := Lib.hid (HX7.out.below hb HX7.out.lt)
  clear hb HB7 HQ7 HX7 HW7 cO n0 n1 n2 n3 n4 n5 n6 n7
  go_wp2_with fail
  refine (cY _).mono ?_
  rintro e w9 ⟨rfl, hb⟩
  have HB9 := Lib.hid (HB8.out.trans (hb.mono HB8.out.size))
  have HQ9 := Lib.hid (HQ8.out.below hb HQ8.out.lt)
  have HX9 := Lib.hid (HX8.out.below hb HX8.out.lt)
  clear hb HB8 HQ8 HX8 cY
  obtain ⟨n0, n1, n2, n3, n4, n5, n6, n7⟩ := blk8 HQ9.out
  obtain ⟨m0, m1, m2, m3, m4, m5, m6, m7⟩ := blk8 HX9.out
  have cR2 := TRead_any s1 hs1 w9 (HLD.out.below HB9.out)
  clear hs1
  go_wp2_with fail
  refine cR2.mono ?_
  rintro e w10 ⟨hcase, hb⟩
  have HB10 := Lib.hid (HB9.out.trans (hb.mono HB9.out.size))
  clear hb cR2
  rcases hcase with ⟨u, hu, hut, rfl⟩ | rfl
  · have cX := TText_yes hu (by have := u.len hu; omega)
    have cO2 := fun W => own16_any (trm_in hu) W
    have cY2 := fun W => cRText hu W
    rw [hut] at cX cY2
    obtain ⟨uK, uP, uR, uB, uM, uS, uF, uG⟩ := u
    unfold Trm.v at cX cO2 ⊢
    unfold Trm.r at cO2 cY2
    dsimp only at cX cO2 cY2 ⊢
    have hb11 := b_alloc w10 (.cells #[.int .u8 (uK : Int), .int .i64 uP, .int .u32 (uR : Int), .int .u8 (uB : Int), .int .i64 uM, .int .i32 uS, .int .i64 uF, .int .i64 uG] 28)
    have HU := Lib.hid (Blk.new w10 28 #[.int .u8 (uK : Int), .int .i64 uP, .int .u32 (uR : Int), .int .u8 (uB : Int), .int .i64 uM, .int .i32 uS, .int .i64 uF, .int .i64 uG])
    have HB11 := Lib.hid (HB10.out.trans (hb11.mono HB10.out.size))
    obtain ⟨w11, hw11⟩ : ∃ W, w10.alloc (.cells #[.int .u8 (uK : Int), .int .i64 uP, .int .u32 (uR : Int), .int .u8 (uB : Int), .int .i64 uM, .int .i32 uS, .int .i64 uF, .int .i64 uG] 28) = W := ⟨_, rfl⟩
    obtain ⟨gu, hgu⟩ : ∃ g, w10.heap.size = g := ⟨_, rfl⟩
    rw [hw11] at HB11 HU
    rw [hgu] at HU
    have HW11 := Lib.hid (And.intro hw11 hgu)
    have cX1 := cX w11 (HLD.out.below HB11.out).le (HLD.out.below HB11.out).po
    clear hb11 hw11 hgu HB10 hu hut cX
    go_upto_region 12 with (fail)
    rw [HW11.out.1, HW11.out.2]
    obtain ⟨n0, n1, n2, n3, n4, n5, n6, n7⟩ := blk8 HU.out
    go_wp2_with fail
    refine cX1.mono ?_
    rintro e w12 ⟨rfl, hb⟩
    have HU12 := Lib.hid (HU.out.below hb HU.out.lt)
    have HB12 := Lib.hid (HB11.out.trans (hb.mono HB11.out.size))
    clear hb cX1 HU HB11 HW11 n0 n1 n2 n3 n4 n5 n6 n7
    have hse : (s1.toList == s1.toList) = true := beq_self_eq_true _
    obtain ⟨n0, n1, n2, n3, n4, n5, n6, n7⟩ := blk8 HU12.out
    go_wp2_with fail
    refine (cO2 _).mono ?_
    rintro e w13 ⟨rfl, hb⟩
    have HB13 := Lib.hid (HB12.out.trans (hb.mono HB12.out.size))
    clear hb cO2 HU12 HB12 n0 n1 n2 n3 n4 n5 n6 n7
    go_wp2_with fail
    refine (cY2 _).mono ?_
    rintro e w14 ⟨rfl, hb⟩
    have HB14 := Lib.hid (HB13.out.trans (hb.mono HB13.out.size))
    clear hb cY2 HB13
    go_wp2_with fail
    go_ret
    exact ⟨by first | rfl | simp, HB14.out⟩
  · have hb11 := b_alloc w10 (.cells #[.int .u8 0, .int .i64 0, .int .u32 0, .int .u8 0, .int .i64 0, .int .i32 0, .int .i64 0, .int .i64 0] 28)
    have HU := Lib.hid (Blk.new w10 28 #[.int .u8 0, .int .i64 0, .int .u32 0, .int .u8 0, .int .i64 0, .int .i32 0, .int .i64 0, .int .i64 0])
    have HB11 := Lib.hid (HB10.out.trans (hb11.mono HB10.out.size))
    obtain ⟨w11, hw11⟩ : ∃ W, w10.alloc (.cells #[.int .u8 0, .int .i64 0, .int .u32 0, .int .u8 0, .int .i64 0, .int .i32 0, .int .i64 0, .int .i64 0] 28) = W := ⟨_, rfl⟩
    obtain ⟨gu, hgu⟩ : ∃ g, w10.heap.size = g := ⟨_, rfl⟩
    rw [hw11] at HB11 HU
    rw [hgu] at HU
    have HW11 := Lib.hid (And.intro hw11 hgu)
    have cC := Code_errno 15 w11 (HLE.out.below HB11.out)
    clear hb11 hw11 hgu HB10
    unfold zeroT8
    go_upto_region 12 with (fail)
    rw [HW11.out.1, HW11.out.2]
    go_wp2_with fail
    refine cC.mono ?_
    rintro e w12 ⟨rfl, hb⟩
    have HU12 := Lib.hid (HU.out.below hb HU.out.lt)
    have HB12 := Lib.hid (HB11.out.trans (hb.mono HB11.out.size))
    clear hb cC HU HB11 HW11
    obtain ⟨n0, n1, n2, n3, n4, n5, n6, n7⟩ := blk8 HU12.out
    go_wp2_with fail
    go_ret
    exact ⟨by first | rfl | simp, HB12.out⟩
theorem TReads_any {t : Trm} (hi : t.In) (s : ByteArray) (hs : s.size ≤ maxLen) (w : World) (hld : TLd w) (hle : Laid w) :
    Calls Tryz.prog 5 #[t.v, .string s] w (Ret (.bool true) w) := by
  have cA : ∀ W, Below w.heap.size w W → Calls Tryz.prog 7 #[] W (Ret (.bool true) W) := fun W hb => by
    have h := hld.below hb
    obtain ⟨m, hm⟩ := h.mx
    obtain ⟨a, ha⟩ := h.er
    exact awake16 W h.le h.po m hm _ _ ha
  by_cases h : t.Right
  · exact TReads_yes hi h s hs w hld hle cA
  · exact TReads_no hi h s hs w hld hle cA
end Go.Proofs.YtjcnglkjjhnpbaaGreatDoor
