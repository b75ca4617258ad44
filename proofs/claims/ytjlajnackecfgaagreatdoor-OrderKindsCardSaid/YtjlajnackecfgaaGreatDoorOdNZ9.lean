/-
OrderKinds: the law's walk. Conditions: the numbers' kinds, what is laid.
-/
import Derived.Test.YtjlajnackecfgaaGreatDoorOdMZ9
import Derived.Test.YtjlajnackecfgaaGreatDoorOdDZ9
namespace Go.Proofs.YtjlajnackecfgaaGreatDoor
open Go.ChangeShapes Go.WideShapes Go.ChangeAt Go.RowKit Go.Shelf
set_option maxRecDepth 100000 in
set_option maxHeartbeats 4000000 in
theorem OKinds_0 {k a K R B s ek K2 R2 B2 loan seq : Nat} {P M S F G d m P2 M2 S2 F2 G2 : Int} (hT : ∀ W, Calls Tryz.prog 12 #[.agg #[.int .u8 (k : Int), .int .u32 (a : Int), .int .u8 (K : Int), .int .i64 P, .int .u32 (R : Int), .int .u8 (B : Int), .int .i64 M, .int .i32 S, .int .i64 F, .int .i64 G, .int .u32 (s : Int), .int .i32 d, .int .u8 (ek : Int), .int .i64 m]] W (Ret (.bool false) W)) (cB : ∀ W, Calls Tryz.prog 9 #[.agg #[.int .u8 (k : Int), .int .u32 (a : Int), .int .u8 (K : Int), .int .i64 P, .int .u32 (R : Int), .int .u8 (B : Int), .int .i64 M, .int .i32 S, .int .i64 F, .int .i64 G, .int .u32 (s : Int), .int .i32 d, .int .u8 (ek : Int), .int .i64 m]] W (Ret (.slice none 0 0) W)) (cX : ∀ W, Calls Tryz.prog 20 #[.agg #[.int .u8 (k : Int), .int .u32 (a : Int), .int .u8 (K : Int), .int .i64 P, .int .u32 (R : Int), .int .u8 (B : Int), .int .i64 M, .int .i32 S, .int .i64 F, .int .i64 G, .int .u32 (s : Int), .int .i32 d, .int .u8 (ek : Int), .int .i64 m]] W (Ret (.string ⟨#[]⟩) W)) (w : World) (hl : TLd w) :
    Calls Tryz.prog 6 #[.agg #[.int .u8 (k : Int), .int .u32 (a : Int), .int .u8 (K : Int), .int .i64 P, .int .u32 (R : Int), .int .u8 (B : Int), .int .i64 M, .int .i32 S, .int .i64 F, .int .i64 G, .int .u32 (s : Int), .int .i32 d, .int .u8 (ek : Int), .int .i64 m], .int .u32 (loan : Int), .int .u32 (seq : Int), .agg #[.int .u8 (K2 : Int), .int .i64 P2, .int .u32 (R2 : Int), .int .u8 (B2 : Int), .int .i64 M2, .int .i32 S2, .int .i64 F2, .int .i64 G2]] w (Ret (.bool true) w) := by
  have HO0 := Lib.hid ((Blk.new w 32 #[.int .u8 (k : Int), .int .u32 (a : Int), .int .u8 (K : Int), .int .i64 P, .int .u32 (R : Int), .int .u8 (B : Int), .int .i64 M, .int .i32 S, .int .i64 F, .int .i64 G, .int .u32 (s : Int), .int .i32 d, .int .u8 (ek : Int), .int .i64 m]).alloc (.cells #[.int .u8 (K2 : Int), .int .i64 P2, .int .u32 (R2 : Int), .int .u8 (B2 : Int), .int .i64 M2, .int .i32 S2, .int .i64 F2, .int .i64 G2] 28))
  have ht0 := Blk.new (w.alloc (.cells #[.int .u8 (k : Int), .int .u32 (a : Int), .int .u8 (K : Int), .int .i64 P, .int .u32 (R : Int), .int .u8 (B : Int), .int .i64 M, .int .i32 S, .int .i64 F, .int .i64 G, .int .u32 (s : Int), .int .i32 d, .int .u8 (ek : Int), .int .i64 m] 32)) 28 #[.int .u8 (K2 : Int), .int .i64 P2, .int .u32 (R2 : Int), .int .u8 (B2 : Int), .int .i64 M2, .int .i32 S2, .int .i64 F2, .int .i64 G2]
  rw [World.size_alloc] at ht0
  have HT0 := Lib.hid ht0
  have hb0 := (b_alloc w (.cells #[.int .u8 (k : Int), .int .u32 (a : Int), .int .u8 (K : Int), .int .i64 P, .int .u32 (R : Int), .int .u8 (B : Int), .int .i64 M, .int .i32 S, .int .i64 F, .int .i64 G, .int .u32 (s : Int), .int .i32 d, .int .u8 (ek : Int), .int .i64 m] 32)).alloc (by simp) (.cells #[.int .u8 (K2 : Int), .int .i64 P2, .int .u32 (R2 : Int), .int .u8 (B2 : Int), .int .i64 M2, .int .i32 S2, .int .i64 F2, .int .i64 G2] 28)
  have HL0 := Lib.hid (hl.below hb0)
  have HB0 := Lib.hid hb0
  have hl0 := Lib.hid hl
  clear ht0 hb0 hl
  go_enter Tryz.func6, Tryz.ntmps6
  go_wp2_with fail
  refine (awake20 _ HL0.out).mono ?_
  rintro e w1 ⟨rfl, hb⟩
  have HB1 := Lib.hid (HB0.out.trans (hb.mono HB0.out.size))
  have HO1 := Lib.hid (HO0.out.below hb HO0.out.lt)
  have HT1 := Lib.hid (HT0.out.below hb HT0.out.lt)
  have HL1 := Lib.hid (HL0.out.below hb)
  clear hb HB0 HO0 HT0 HL0
  obtain ⟨b, hb⟩ : ∃ b, w.heap.size = b := ⟨_, rfl⟩
  rw [hb] at HO1 HT1
  rw [hb]
  have HWB := Lib.hid hb
  clear hb
  obtain ⟨z0, z1, z2, z3, z4, z5, z6, z7, z8, z9, z10, z11, z12, z13⟩ := blk14 HO1.out
  go_wp2_with fail
  refine (hT _).mono ?_
  rintro e w2 ⟨rfl, hb⟩
  have HB2 := Lib.hid (HB1.out.trans (hb.mono HB1.out.size))
  have HO2 := Lib.hid (HO1.out.below hb HO1.out.lt)
  have HT2 := Lib.hid (HT1.out.below hb HT1.out.lt)
  have HL2 := Lib.hid (HL1.out.below hb)
  clear hb HB1 HO1 HT1 HL1 hT z0 z1 z2 z3 z4 z5 z6 z7 z8 z9 z10 z11 z12 z13
  obtain ⟨z0, z1, z2, z3, z4, z5, z6, z7, z8, z9, z10, z11, z12, z13⟩ := blk14 HO2.out
  go_wp2_with fail
  refine (cB _).mono ?_
  rintro e w3 ⟨rfl, hb⟩
  have HB3 := Lib.hid (HB2.out.trans (hb.mono HB2.out.size))
  have HO3 := Lib.hid (HO2.out.below hb HO2.out.lt)
  clear hb HB2 HO2 HT2 HL2 cB z0 z1 z2 z3 z4 z5 z6 z7 z8 z9 z10 z11 z12 z13
  obtain ⟨z0, z1, z2, z3, z4, z5, z6, z7, z8, z9, z10, z11, z12, z13⟩ := blk14 HO3.out
  go_wp2_with fail
  refine (cX _).mono ?_
  rintro e w4 ⟨rfl, hb⟩
  have HB4 := Lib.hid (HB3.out.trans (hb.mono HB3.out.size))
  clear hb HB3 HO3 cX z0 z1 z2 z3 z4 z5 z6 z7 z8 z9 z10 z11 z12 z13
  go_wp2_with fail
  go_ret
  exact ⟨by first | rfl | simp, HB4.out⟩
set_option maxRecDepth 100000 in
set_option maxHeartbeats 4000000 in
theorem OKinds_1 {a K R B s ek K2 R2 B2 loan seq : Nat} {P M S F G d m P2 M2 S2 F2 G2 : Int} (hT : ∀ W, Calls Tryz.prog 12 #[.agg #[.int .u8 1, .int .u32 (a : Int), .int .u8 (K : Int), .int .i64 P, .int .u32 (R : Int), .int .u8 (B : Int), .int .i64 M, .int .i32 S, .int .i64 F, .int .i64 G, .int .u32 (s : Int), .int .i32 d, .int .u8 (ek : Int), .int .i64 m]] W (Ret (.bool true) W)) {tx : ByteArray} (cX : ∀ W, TLd W → Calls Tryz.prog 20 #[.agg #[.int .u8 1, .int .u32 (a : Int), .int .u8 (K : Int), .int .i64 P, .int .u32 (R : Int), .int .u8 (B : Int), .int .i64 M, .int .i32 S, .int .i64 F, .int .i64 G, .int .u32 (s : Int), .int .i32 d, .int .u8 (ek : Int), .int .i64 m]] W (Ret (.string tx) W)) {x : Int} (hx : max (seq : Int) 1 = x) (hx6 : (6 : Int) ≤ (tx.size : Int)) (hxe : (tx.extract 0 6).toList = [98, 111, 97, 114, 100, 32]) (cF : ∀ W, Calls Tryz.prog 12 #[.agg #[.int .u8 1, .int .u32 (a : Int), .int .u8 (K : Int), .int .i64 P, .int .u32 (R : Int), .int .u8 (B : Int), .int .i64 M, .int .i32 S, .int .i64 F, .int .i64 G, .int .u32 x, .int .i32 d, .int .u8 (ek : Int), .int .i64 m]] W (Ret (.bool false) W)) (w : World) (hl : TLd w) :
    Calls Tryz.prog 6 #[.agg #[.int .u8 1, .int .u32 (a : Int), .int .u8 (K : Int), .int .i64 P, .int .u32 (R : Int), .int .u8 (B : Int), .int .i64 M, .int .i32 S, .int .i64 F, .int .i64 G, .int .u32 (s : Int), .int .i32 d, .int .u8 (ek : Int), .int .i64 m], .int .u32 (loan : Int), .int .u32 (seq : Int), .agg #[.int .u8 (K2 : Int), .int .i64 P2, .int .u32 (R2 : Int), .int .u8 (B2 : Int), .int .i64 M2, .int .i32 S2, .int .i64 F2, .int .i64 G2]] w (Ret (.bool true) w) := by
  have HO0 := Lib.hid ((Blk.new w 32 #[.int .u8 1, .int .u32 (a : Int), .int .u8 (K : Int), .int .i64 P, .int .u32 (R : Int), .int .u8 (B : Int), .int .i64 M, .int .i32 S, .int .i64 F, .int .i64 G, .int .u32 (s : Int), .int .i32 d, .int .u8 (ek : Int), .int .i64 m]).alloc (.cells #[.int .u8 (K2 : Int), .int .i64 P2, .int .u32 (R2 : Int), .int .u8 (B2 : Int), .int .i64 M2, .int .i32 S2, .int .i64 F2, .int .i64 G2] 28))
  have ht0 := Blk.new (w.alloc (.cells #[.int .u8 1, .int .u32 (a : Int), .int .u8 (K : Int), .int .i64 P, .int .u32 (R : Int), .int .u8 (B : Int), .int .i64 M, .int .i32 S, .int .i64 F, .int .i64 G, .int .u32 (s : Int), .int .i32 d, .int .u8 (ek : Int), .int .i64 m] 32)) 28 #[.int .u8 (K2 : Int), .int .i64 P2, .int .u32 (R2 : Int), .int .u8 (B2 : Int), .int .i64 M2, .int .i32 S2, .int .i64 F2, .int .i64 G2]
  rw [World.size_alloc] at ht0
  have HT0 := Lib.hid ht0
  have hb0 := (b_alloc w (.cells #[.int .u8 1, .int .u32 (a : Int), .int .u8 (K : Int), .int .i64 P, .int .u32 (R : Int), .int .u8 (B : Int), .int .i64 M, .int .i32 S, .int .i64 F, .int .i64 G, .int .u32 (s : Int), .int .i32 d, .int .u8 (ek : Int), .int .i64 m] 32)).alloc (by simp) (.cells #[.int .u8 (K2 : Int), .int .i64 P2, .int .u32 (R2 : Int), .int .u8 (B2 : Int), .int .i64 M2, .int .i32 S2, .int .i64 F2, .int .i64 G2] 28)
  have HL0 := Lib.hid (hl.below hb0)
  have HB0 := Lib.hid hb0
  have hl0 := Lib.hid hl
  clear ht0 hb0 hl
  go_enter Tryz.func6, Tryz.ntmps6
  go_wp2_with fail
  refine (awake20 _ HL0.out).mono ?_
  rintro e w1 ⟨rfl, hb⟩
  have HB1 := Lib.hid (HB0.out.trans (hb.mono HB0.out.size))
  have HO1 := Lib.hid (HO0.out.below hb HO0.out.lt)
  have HT1 := Lib.hid (HT0.out.below hb HT0.out.lt)
  have HL1 := Lib.hid (HL0.out.below hb)
  clear hb HB0 HO0 HT0 HL0
  obtain ⟨b, hb⟩ : ∃ b, w.heap.size = b := ⟨_, rfl⟩
  rw [hb] at HO1 HT1
  rw [hb]
  have HWB := Lib.hid hb
  clear hb
  obtain ⟨z0, z1, z2, z3, z4, z5, z6, z7, z8, z9, z10, z11, z12, z13⟩ := blk14 HO1.out
  go_wp2_with fail
  refine (hT _).mono ?_
  rintro e w2 ⟨rfl, hb⟩
  have HB2 := Lib.hid (HB1.out.trans (hb.mono HB1.out.size))
  have HO2 := Lib.hid (HO1.out.below hb HO1.out.lt)
  have HT2 := Lib.hid (HT1.out.below hb HT1.out.lt)
  have HL2 := Lib.hid (HL1.out.below hb)
  clear hb HB1 HO1 HT1 HL1 hT z0 z1 z2 z3 z4 z5 z6 z7 z8 z9 z10 z11 z12 z13
  obtain ⟨z0, z1, z2, z3, z4, z5, z6, z7, z8, z9, z10, z11, z12, z13⟩ := blk14 HO2.out
  have hP := Blk.new w2 32 #[.int .u8 1, .int .u32 (a : Int), .int .u8 (K : Int), .int .i64 P, .int .u32 (R : Int), .int .u8 (B : Int), .int .i64 M, .int .i32 S, .int .i64 F, .int .i64 G, .int .u32 (s : Int), .int .i32 d, .int .u8 (ek : Int), .int .i64 m]
  have HO3 := Lib.hid (HO2.out.alloc (.cells #[.int .u8 1, .int .u32 (a : Int), .int .u8 (K : Int), .int .i64 P, .int .u32 (R : Int), .int .u8 (B : Int), .int .i64 M, .int .i32 S, .int .i64 F, .int .i64 G, .int .u32 (s : Int), .int .i32 d, .int .u8 (ek : Int), .int .i64 m] 32))
  have HT3 := Lib.hid (HT2.out.alloc (.cells #[.int .u8 1, .int .u32 (a : Int), .int .u8 (K : Int), .int .i64 P, .int .u32 (R : Int), .int .u8 (B : Int), .int .i64 M, .int .i32 S, .int .i64 F, .int .i64 G, .int .u32 (s : Int), .int .i32 d, .int .u8 (ek : Int), .int .i64 m] 32))
  have HB3 := Lib.hid (HB2.out.alloc HB2.out.size (.cells #[.int .u8 1, .int .u32 (a : Int), .int .u8 (K : Int), .int .i64 P, .int .u32 (R : Int), .int .u8 (B : Int), .int .i64 M, .int .i32 S, .int .i64 F, .int .i64 G, .int .u32 (s : Int), .int .i32 d, .int .u8 (ek : Int), .int .i64 m] 32))
  have HL3 := Lib.hid (HL2.out.below (b_alloc w2 (.cells #[.int .u8 1, .int .u32 (a : Int), .int .u8 (K : Int), .int .i64 P, .int .u32 (R : Int), .int .u8 (B : Int), .int .i64 M, .int .i32 S, .int .i64 F, .int .i64 G, .int .u32 (s : Int), .int .i32 d, .int .u8 (ek : Int), .int .i64 m] 32)))
  have hbp : b < w2.heap.size := HO2.out.lt
  have hbq : b + 1 < w2.heap.size := HT2.out.lt
  obtain ⟨w3, hw3⟩ : ∃ W, w2.alloc (.cells #[.int .u8 1, .int .u32 (a : Int), .int .u8 (K : Int), .int .i64 P, .int .u32 (R : Int), .int .u8 (B : Int), .int .i64 M, .int .i32 S, .int .i64 F, .int .i64 G, .int .u32 (s : Int), .int .i32 d, .int .u8 (ek : Int), .int .i64 m] 32) = W := ⟨_, rfl⟩
  obtain ⟨p, hp⟩ : ∃ p, w2.heap.size = p := ⟨_, rfl⟩
  rw [hw3, hp] at hP
  rw [hw3] at HO3 HT3 HB3 HL3
  rw [hp] at hbp hbq
  have HP3 := Lib.hid hP
  have HW := Lib.hid (And.intro hw3 hp)
  have HX := Lib.hid (And.intro hbp hbq)
  clear hP hw3 hp hbp hbq HB2 HL2
  go_upto_region 6 with (fail)
  rw [HW.out.1, HW.out.2]
  obtain ⟨z0, z1, z2, z3, z4, z5, z6, z7, z8, z9, z10, z11, z12, z13⟩ := blk14 HO3.out
  have y0 := HP3.out.cell 10
  have f0 := HP3.out.frozen 10
  simp at y0
  have hG := HP3.out.set_ 10 (.int .u32 x)
  simp only [List.setIfInBounds_toArray, List.set_cons_zero, List.set_cons_succ] at hG
  have HP4 := Lib.hid hG
  have HO4 := Lib.hid (HO3.out.far (p := ⟨p, 10, none⟩) (by have := HX.out.1; show b ≠ p; omega) (.int .u32 x))
  have HB4 := Lib.hid (Below.setCell HB3.out (p := ⟨p, 10, none⟩) (by have := HX.out.1; have := HWB.out; show w.heap.size ≤ p; omega) (.int .u32 x))
  clear hG
  have HWd := Lib.hid (Blk.new (w3.setCell ⟨p, 10, none⟩ (.int .u32 x)) 9 #[.string ⟨#[]⟩, .string ⟨#[98, 111, 97, 114, 100, 32]⟩, .string ⟨#[]⟩, .string ⟨#[114, 101, 118, 101, 114, 115, 101, 32]⟩, .string ⟨#[115, 116, 101, 112]⟩])
  have HO6 := Lib.hid (HO4.out.alloc (.cells #[.string ⟨#[]⟩, .string ⟨#[98, 111, 97, 114, 100, 32]⟩, .string ⟨#[]⟩, .string ⟨#[114, 101, 118, 101, 114, 115, 101, 32]⟩, .string ⟨#[115, 116, 101, 112]⟩] 9))
  have HP6 := Lib.hid (HP4.out.alloc (.cells #[.string ⟨#[]⟩, .string ⟨#[98, 111, 97, 114, 100, 32]⟩, .string ⟨#[]⟩, .string ⟨#[114, 101, 118, 101, 114, 115, 101, 32]⟩, .string ⟨#[115, 116, 101, 112]⟩] 9))
  have HB6 := Lib.hid (HB4.out.alloc HB4.out.size (.cells #[.string ⟨#[]⟩, .string ⟨#[98, 111, 97, 114, 100, 32]⟩, .string ⟨#[]⟩, .string ⟨#[114, 101, 118, 101, 114, 115, 101, 32]⟩, .string ⟨#[115, 116, 101, 112]⟩] 9))
  have HL6 := Lib.hid (hl0.out.below HB6.out)
  have d1 := HWd.out.cell 1
  simp at d1
  obtain ⟨v0, v1, v2, v3, v4, v5, v6, v7, v8, v9, v10, v11, v12, v13⟩ := blk14 HO6.out
  go_wp2_with (with_reducible refine wpl_strs5 (dst := some 47) rfl rfl rfl rfl rfl ?_)
  clear v0 v1 v2 v3 v4 v5 v6 v7 v8 v9 v10 v11 v12 v13 d1
  obtain ⟨w6, hw6⟩ : ∃ W, World.alloc (w3.setCell ⟨p, 10, none⟩ (.int .u32 x)) (.cells #[.string ⟨#[]⟩, .string ⟨#[98, 111, 97, 114, 100, 32]⟩, .string ⟨#[]⟩, .string ⟨#[114, 101, 118, 101, 114, 115, 101, 32]⟩, .string ⟨#[115, 116, 101, 112]⟩] 9) = W := ⟨_, rfl⟩
  obtain ⟨g, hg⟩ : ∃ g, (w3.setCell ⟨p, 10, none⟩ (.int .u32 x)).heap.size = g := ⟨_, rfl⟩
  rw [hw6, hg] at HWd
  rw [hw6] at HO6 HP6 HB6 HL6
  try rw [World.size_setCell] at hg
  rw [hw6, hg]
  clear hw6 hg HO4 HP4 HB4 z0 z1 z2 z3 z4 z5 z6 z7 z8 z9 z10 z11 z12 z13
  try clear y0 f0
  refine (cX _ HL6.out).mono ?_
  rintro e w7 ⟨rfl, hb⟩
  have HB7 := Lib.hid (HB6.out.trans (hb.mono HB6.out.size))
  have HO7 := Lib.hid (HO6.out.below hb HO6.out.lt)
  have HP7 := Lib.hid (HP6.out.below hb HP6.out.lt)
  clear hb cX HO6 HP6 HB6 HL6
  obtain ⟨z0, z1, z2, z3, z4, z5, z6, z7, z8, z9, z10, z11, z12, z13⟩ := blk14 HP7.out
  go_wp2_with fail
  refine (cF _).mono ?_
  rintro e w8 ⟨rfl, hb⟩
  have HB8 := Lib.hid (HB7.out.trans (hb.mono HB7.out.size))
  have HO8 := Lib.hid (HO7.out.below hb HO7.out.lt)
  clear hb cF HO7 HP7 HB7 z0 z1 z2 z3 z4 z5 z6 z7 z8 z9 z10 z11 z12 z13
  have z0 := HO8.out.cell 0
  simp at z0
  have hxb : ((tx.extract 0 6).toList == [98, 111, 97, 114, 100, 32]) = true := by rw [hxe]; rfl
  go_wp2_with fail
  go_ret
  exact ⟨by first | rfl | simp, HB8.out⟩
set_option maxRecDepth 100000 in
set_option maxHeartbeats 4000000 in
theorem OKinds_2 {a K R B s ek K2 R2 B2 loan seq : Nat} {P M S F G d m P2 M2 S2 F2 G2 : Int} (hT : ∀ W, Calls Tryz.prog 12 #[.agg #[.int .u8 2, .int .u32 (a : Int), .int .u8 (K : Int), .int .i64 P, .int .u32 (R : Int), .int .u8 (B : Int), .int .i64 M, .int .i32 S, .int .i64 F, .int .i64 G, .int .u32 (s : Int), .int .i32 d, .int .u8 (ek : Int), .int .i64 m]] W (Ret (.bool true) W)) {tx : ByteArray} (cX : ∀ W, TLd W → Calls Tryz.prog 20 #[.agg #[.int .u8 2, .int .u32 (a : Int), .int .u8 (K : Int), .int .i64 P, .int .u32 (R : Int), .int .u8 (B : Int), .int .i64 M, .int .i32 S, .int .i64 F, .int .i64 G, .int .u32 (s : Int), .int .i32 d, .int .u8 (ek : Int), .int .i64 m]] W (Ret (.string tx) W)) {q : Bool} (hq : ∀ W, (Op.equalIn 10000 28 (.agg #[.int .u8 (K2 : Int), .int .i64 P2, .int .u32 (R2 : Int), .int .u8 (B2 : Int), .int .i64 M2, .int .i32 S2, .int .i64 F2, .int .i64 G2]) (.agg #[.int .u8 0, .int .i64 0, .int .u32 0, .int .u8 0, .int .i64 0, .int .i32 0, .int .i64 0, .int .i64 0])).run Tryz.prog W = .ok q W) (cF : q = false → ∀ W, Calls Tryz.prog 12 #[.agg #[.int .u8 2, .int .u32 (a : Int), .int .u8 (K2 : Int), .int .i64 P2, .int .u32 (R2 : Int), .int .u8 (B2 : Int), .int .i64 M2, .int .i32 S2, .int .i64 F2, .int .i64 G2, .int .u32 (s : Int), .int .i32 d, .int .u8 (ek : Int), .int .i64 m]] W (Ret (.bool false) W)) (w : World) (hl : TLd w) :
    Calls Tryz.prog 6 #[.agg #[.int .u8 2, .int .u32 (a : Int), .int .u8 (K : Int), .int .i64 P, .int .u32 (R : Int), .int .u8 (B : Int), .int .i64 M, .int .i32 S, .int .i64 F, .int .i64 G, .int .u32 (s : Int), .int .i32 d, .int .u8 (ek : Int), .int .i64 m], .int .u32 (loan : Int), .int .u32 (seq : Int), .agg #[.int .u8 (K2 : Int), .int .i64 P2, .int .u32 (R2 : Int), .int .u8 (B2 : Int), .int .i64 M2, .int .i32 S2, .int .i64 F2, .int .i64 G2]] w (Ret (.bool true) w) := by
  have HO0 := Lib.hid ((Blk.new w 32 #[.int .u8 2, .int .u32 (a : Int), .int .u8 (K : Int), .int .i64 P, .int .u32 (R : Int), .int .u8 (B : Int), .int .i64 M, .int .i32 S, .int .i64 F, .int .i64 G, .int .u32 (s : Int), .int .i32 d, .int .u8 (ek : Int), .int .i64 m]).alloc (.cells #[.int .u8 (K2 : Int), .int .i64 P2, .int .u32 (R2 : Int), .int .u8 (B2 : Int), .int .i64 M2, .int .i32 S2, .int .i64 F2, .int .i64 G2] 28))
  have ht0 := Blk.new (w.alloc (.cells #[.int .u8 2, .int .u32 (a : Int), .int .u8 (K : Int), .int .i64 P, .int .u32 (R : Int), .int .u8 (B : Int), .int .i64 M, .int .i32 S, .int .i64 F, .int .i64 G, .int .u32 (s : Int), .int .i32 d, .int .u8 (ek : Int), .int .i64 m] 32)) 28 #[.int .u8 (K2 : Int), .int .i64 P2, .int .u32 (R2 : Int), .int .u8 (B2 : Int), .int .i64 M2, .int .i32 S2, .int .i64 F2, .int .i64 G2]
  rw [World.size_alloc] at ht0
  have HT0 := Lib.hid ht0
  have hb0 := (b_alloc w (.cells #[.int .u8 2, .int .u32 (a : Int), .int .u8 (K : Int), .int .i64 P, .int .u32 (R : Int), .int .u8 (B : Int), .int .i64 M, .int .i32 S, .int .i64 F, .int .i64 G, .int .u32 (s : Int), .int .i32 d, .int .u8 (ek : Int), .int .i64 m] 32)).alloc (by simp) (.cells #[.int .u8 (K2 : Int), .int .i64 P2, .int .u32 (R2 : Int), .int .u8 (B2 : Int), .int .i64 M2, .int .i32 S2, .int .i64 F2, .int .i64 G2] 28)
  have HL0 := Lib.hid (hl.below hb0)
  have HB0 := Lib.hid hb0
  have hl0 := Lib.hid hl
  clear ht0 hb0 hl
  go_enter Tryz.func6, Tryz.ntmps6
  go_wp2_with fail
  refine (awake20 _ HL0.out).mono ?_
  rintro e w1 ⟨rfl, hb⟩
  have HB1 := Lib.hid (HB0.out.trans (hb.mono HB0.out.size))
  have HO1 := Lib.hid (HO0.out.below hb HO0.out.lt)
  have HT1 := Lib.hid (HT0.out.below hb HT0.out.lt)
  have HL1 := Lib.hid (HL0.out.below hb)
  clear hb HB0 HO0 HT0 HL0
  obtain ⟨b, hb⟩ : ∃ b, w.heap.size = b := ⟨_, rfl⟩
  rw [hb] at HO1 HT1
  rw [hb]
  have HWB := Lib.hid hb
  clear hb
  obtain ⟨z0, z1, z2, z3, z4, z5, z6, z7, z8, z9, z10, z11, z12, z13⟩ := blk14 HO1.out
  go_wp2_with fail
  refine (hT _).mono ?_
  rintro e w2 ⟨rfl, hb⟩
  have HB2 := Lib.hid (HB1.out.trans (hb.mono HB1.out.size))
  have HO2 := Lib.hid (HO1.out.below hb HO1.out.lt)
  have HT2 := Lib.hid (HT1.out.below hb HT1.out.lt)
  have HL2 := Lib.hid (HL1.out.below hb)
  clear hb HB1 HO1 HT1 HL1 hT z0 z1 z2 z3 z4 z5 z6 z7 z8 z9 z10 z11 z12 z13
  obtain ⟨z0, z1, z2, z3, z4, z5, z6, z7, z8, z9, z10, z11, z12, z13⟩ := blk14 HO2.out
  have hP := Blk.new w2 32 #[.int .u8 2, .int .u32 (a : Int), .int .u8 (K : Int), .int .i64 P, .int .u32 (R : Int), .int .u8 (B : Int), .int .i64 M, .int .i32 S, .int .i64 F, .int .i64 G, .int .u32 (s : Int), .int .i32 d, .int .u8 (ek : Int), .int .i64 m]
  have HO3 := Lib.hid (HO2.out.alloc (.cells #[.int .u8 2, .int .u32 (a : Int), .int .u8 (K : Int), .int .i64 P, .int .u32 (R : Int), .int .u8 (B : Int), .int .i64 M, .int .i32 S, .int .i64 F, .int .i64 G, .int .u32 (s : Int), .int .i32 d, .int .u8 (ek : Int), .int .i64 m] 32))
  have HT3 := Lib.hid (HT2.out.alloc (.cells #[.int .u8 2, .int .u32 (a : Int), .int .u8 (K : Int), .int .i64 P, .int .u32 (R : Int), .int .u8 (B : Int), .int .i64 M, .int .i32 S, .int .i64 F, .int .i64 G, .int .u32 (s : Int), .int .i32 d, .int .u8 (ek : Int), .int .i64 m] 32))
  have HB3 := Lib.hid (HB2.out.alloc HB2.out.size (.cells #[.int .u8 2, .int .u32 (a : Int), .int .u8 (K : Int), .int .i64 P, .int .u32 (R : Int), .int .u8 (B : Int), .int .i64 M, .int .i32 S, .int .i64 F, .int .i64 G, .int .u32 (s : Int), .int .i32 d, .int .u8 (ek : Int), .int .i64 m] 32))
  have HL3 := Lib.hid (HL2.out.below (b_alloc w2 (.cells #[.int .u8 2, .int .u32 (a : Int), .int .u8 (K : Int), .int .i64 P, .int .u32 (R : Int), .int .u8 (B : Int), .int .i64 M, .int .i32 S, .int .i64 F, .int .i64 G, .int .u32 (s : Int), .int .i32 d, .int .u8 (ek : Int), .int .i64 m] 32)))
  have hbp : b < w2.heap.size := HO2.out.lt
  have hbq : b + 1 < w2.heap.size := HT2.out.lt
  obtain ⟨w3, hw3⟩ : ∃ W, w2.alloc (.cells #[.int .u8 2, .int .u32 (a : Int), .int .u8 (K : Int), .int .i64 P, .int .u32 (R : Int), .int .u8 (B : Int), .int .i64 M, .int .i32 S, .int .i64 F, .int .i64 G, .int .u32 (s : Int), .int .i32 d, .int .u8 (ek : Int), .int .i64 m] 32) = W := ⟨_, rfl⟩
  obtain ⟨p, hp⟩ : ∃ p, w2.heap.size = p := ⟨_, rfl⟩
  rw [hw3, hp] at hP
  rw [hw3] at HO3 HT3 HB3 HL3
  rw [hp] at hbp hbq
  have HP3 := Lib.hid hP
  have HW := Lib.hid (And.intro hw3 hp)
  have HX := Lib.hid (And.intro hbp hbq)
  clear hP hw3 hp hbp hbq HB2 HL2
  go_upto_region 6 with (fail)
  rw [HW.out.1, HW.out.2]
  obtain ⟨z0, z1, z2, z3, z4, z5, z6, z7, z8, z9, z10, z11, z12, z13⟩ := blk14 HO3.out
  have y := HT3.out
  obtain ⟨t0, t1, t2, t3, t4, t5, t6, t7⟩ := blk8 HT3.out
  go_wp2_with (with_reducible refine wpl_storeB (o := ⟨none, _, _, _, _, _⟩) rfl 28 (.tmp 43) (.tmp 42) rfl p 2 rfl #[.int .u8 (K2 : Int), .int .i64 P2, .int .u32 (R2 : Int), .int .u8 (B2 : Int), .int .i64 M2, .int .i32 S2, .int .i64 F2, .int .i64 G2] rfl HP3.out ?g8 ?g9 ?g10 ?_)
  case g8 => show 2 + 8 ≤ 14; decide
  case g9 => exact rowTm
  case g10 => simp [Value.oneCell']
  intro w4 ho4 hG4
  have HO4 := Lib.hid (ho4.blk HO3.out (by have := HX.out.1; omega))
  have HT4 := Lib.hid (ho4.blk HT3.out (by have := HX.out.2; omega))
  have HB4 := Lib.hid (HB3.out.trans (below_only ho4 (show w.heap.size ≤ p by have := HX.out; have := HWB.out; omega)))
  replace hG4 : Blk w4 p 32 #[.int .u8 2, .int .u32 (a : Int), .int .u8 (K2 : Int), .int .i64 P2, .int .u32 (R2 : Int), .int .u8 (B2 : Int), .int .i64 M2, .int .i32 S2, .int .i64 F2, .int .i64 G2, .int .u32 (s : Int), .int .i32 d, .int .u8 (ek : Int), .int .i64 m] := by
    simp [putL] at hG4
    exact hG4
  have HP4 := Lib.hid hG4
  clear hG4 ho4 HB3 HO3 HT3 HP3 z0 z1 z2 z3 z4 z5 z6 z7 z8 z9 z10 z11 z12 z13 t0 t1 t2 t3 t4 t5 t6 t7 y
  obtain ⟨t0, t1, t2, t3, t4, t5, t6, t7⟩ := blk8 HT4.out
  obtain ⟨z0, z1, z2, z3, z4, z5, z6, z7, z8, z9, z10, z11, z12, z13⟩ := blk14 HO4.out
  cases q
  rotate_left
  · go_wp2_with fail
    go_ret
    exact ⟨by first | rfl | simp, HB4.out⟩
  replace cF := cF rfl
  have HWd := Lib.hid (Blk.new w4 9 #[.string ⟨#[]⟩, .string ⟨#[98, 111, 97, 114, 100, 32]⟩, .string ⟨#[]⟩, .string ⟨#[114, 101, 118, 101, 114, 115, 101, 32]⟩, .string ⟨#[115, 116, 101, 112]⟩])
  have HO6 := Lib.hid (HO4.out.alloc (.cells #[.string ⟨#[]⟩, .string ⟨#[98, 111, 97, 114, 100, 32]⟩, .string ⟨#[]⟩, .string ⟨#[114, 101, 118, 101, 114, 115, 101, 32]⟩, .string ⟨#[115, 116, 101, 112]⟩] 9))
  have HP6 := Lib.hid (HP4.out.alloc (.cells #[.string ⟨#[]⟩, .string ⟨#[98, 111, 97, 114, 100, 32]⟩, .string ⟨#[]⟩, .string ⟨#[114, 101, 118, 101, 114, 115, 101, 32]⟩, .string ⟨#[115, 116, 101, 112]⟩] 9))
  have HB6 := Lib.hid (HB4.out.alloc HB4.out.size (.cells #[.string ⟨#[]⟩, .string ⟨#[98, 111, 97, 114, 100, 32]⟩, .string ⟨#[]⟩, .string ⟨#[114, 101, 118, 101, 114, 115, 101, 32]⟩, .string ⟨#[115, 116, 101, 112]⟩] 9))
  have HL6 := Lib.hid (hl0.out.below HB6.out)
  have d2 := HWd.out.cell 2
  simp at d2
  obtain ⟨v0, v1, v2, v3, v4, v5, v6, v7, v8, v9, v10, v11, v12, v13⟩ := blk14 HO6.out
  go_wp2_with (with_reducible refine wpl_strs5 (dst := some 47) rfl rfl rfl rfl rfl ?_)
  clear v0 v1 v2 v3 v4 v5 v6 v7 v8 v9 v10 v11 v12 v13 d2
  obtain ⟨w6, hw6⟩ : ∃ W, World.alloc w4 (.cells #[.string ⟨#[]⟩, .string ⟨#[98, 111, 97, 114, 100, 32]⟩, .string ⟨#[]⟩, .string ⟨#[114, 101, 118, 101, 114, 115, 101, 32]⟩, .string ⟨#[115, 116, 101, 112]⟩] 9) = W := ⟨_, rfl⟩
  obtain ⟨g, hg⟩ : ∃ g, w4.heap.size = g := ⟨_, rfl⟩
  rw [hw6, hg] at HWd
  rw [hw6] at HO6 HP6 HB6 HL6
  try rw [World.size_setCell] at hg
  rw [hw6, hg]
  clear hw6 hg HO4 HP4 HB4 z0 z1 z2 z3 z4 z5 z6 z7 z8 z9 z10 z11 z12 z13
  try clear y0 f0
  refine (cX _ HL6.out).mono ?_
  rintro e w7 ⟨rfl, hb⟩
  have HB7 := Lib.hid (HB6.out.trans (hb.mono HB6.out.size))
  have HO7 := Lib.hid (HO6.out.below hb HO6.out.lt)
  have HP7 := Lib.hid (HP6.out.below hb HP6.out.lt)
  clear hb cX HO6 HP6 HB6 HL6
  obtain ⟨z0, z1, z2, z3, z4, z5, z6, z7, z8, z9, z10, z11, z12, z13⟩ := blk14 HP7.out
  go_wp2_with fail
  refine (cF _).mono ?_
  rintro e w8 ⟨rfl, hb⟩
  have HB8 := Lib.hid (HB7.out.trans (hb.mono HB7.out.size))
  have HO8 := Lib.hid (HO7.out.below hb HO7.out.lt)
  clear hb cF HO7 HP7 HB7 z0 z1 z2 z3 z4 z5 z6 z7 z8 z9 z10 z11 z12 z13
  have z0 := HO8.out.cell 0
  simp at z0
  have hxe : (tx.extract 0 0).toList = [] := by rw [Lib.toList_data]; simp
  have hxb : (0 : Int) ≤ (tx.size : Int) := by omega
  go_wp2_with fail
  go_ret
  exact ⟨by first | rfl | simp, HB8.out⟩
set_option maxRecDepth 100000 in
set_option maxHeartbeats 4000000 in
theorem OKinds_3 {a K R B s ek K2 R2 B2 loan seq : Nat} {P M S F G d m P2 M2 S2 F2 G2 : Int} (hT : ∀ W, Calls Tryz.prog 12 #[.agg #[.int .u8 3, .int .u32 (a : Int), .int .u8 (K : Int), .int .i64 P, .int .u32 (R : Int), .int .u8 (B : Int), .int .i64 M, .int .i32 S, .int .i64 F, .int .i64 G, .int .u32 (s : Int), .int .i32 d, .int .u8 (ek : Int), .int .i64 m]] W (Ret (.bool true) W)) {tx : ByteArray} (cX : ∀ W, TLd W → Calls Tryz.prog 20 #[.agg #[.int .u8 3, .int .u32 (a : Int), .int .u8 (K : Int), .int .i64 P, .int .u32 (R : Int), .int .u8 (B : Int), .int .i64 M, .int .i32 S, .int .i64 F, .int .i64 G, .int .u32 (s : Int), .int .i32 d, .int .u8 (ek : Int), .int .i64 m]] W (Ret (.string tx) W)) {q : Bool} (hq : ∀ W, (Op.equalIn 10000 28 (.agg #[.int .u8 (K2 : Int), .int .i64 P2, .int .u32 (R2 : Int), .int .u8 (B2 : Int), .int .i64 M2, .int .i32 S2, .int .i64 F2, .int .i64 G2]) (.agg #[.int .u8 0, .int .i64 0, .int .u32 0, .int .u8 0, .int .i64 0, .int .i32 0, .int .i64 0, .int .i64 0])).run Tryz.prog W = .ok q W) (hx6 : (8 : Int) ≤ (tx.size : Int)) (hxe : (tx.extract 0 8).toList = [114, 101, 118, 101, 114, 115, 101, 32]) (cF : q = false → ∀ W, Calls Tryz.prog 12 #[.agg #[.int .u8 3, .int .u32 (a : Int), .int .u8 (K2 : Int), .int .i64 P2, .int .u32 (R2 : Int), .int .u8 (B2 : Int), .int .i64 M2, .int .i32 S2, .int .i64 F2, .int .i64 G2, .int .u32 (s : Int), .int .i32 d, .int .u8 (ek : Int), .int .i64 m]] W (Ret (.bool false) W)) (w : World) (hl : TLd w) :
    Calls Tryz.prog 6 #[.agg #[.int .u8 3, .int .u32 (a : Int), .int .u8 (K : Int), .int .i64 P, .int .u32 (R : Int), .int .u8 (B : Int), .int .i64 M, .int .i32 S, .int .i64 F, .int .i64 G, .int .u32 (s : Int), .int .i32 d, .int .u8 (ek : Int), .int .i64 m], .int .u32 (loan : Int), .int .u32 (seq : Int), .agg #[.int .u8 (K2 : Int), .int .i64 P2, .int .u32 (R2 : Int), .int .u8 (B2 : Int), .int .i64 M2, .int .i32 S2, .int .i64 F2, .int .i64 G2]] w (Ret (.bool true) w) := by
  have HO0 := Lib.hid ((Blk.new w 32 #[.int .u8 3, .int .u32 (a : Int), .int .u8 (K : Int), .int .i64 P, .int .u32 (R : Int), .int .u8 (B : Int), .int .i64 M, .int .i32 S, .int .i64 F, .int .i64 G, .int .u32 (s : Int), .int .i32 d, .int .u8 (ek : Int), .int .i64 m]).alloc (.cells #[.int .u8 (K2 : Int), .int .i64 P2, .int .u32 (R2 : Int), .int .u8 (B2 : Int), .int .i64 M2, .int .i32 S2, .int .i64 F2, .int .i64 G2] 28))
  have ht0 := Blk.new (w.alloc (.cells #[.int .u8 3, .int .u32 (a : Int), .int .u8 (K : Int), .int .i64 P, .int .u32 (R : Int), .int .u8 (B : Int), .int .i64 M, .int .i32 S, .int .i64 F, .int .i64 G, .int .u32 (s : Int), .int .i32 d, .int .u8 (ek : Int), .int .i64 m] 32)) 28 #[.int .u8 (K2 : Int), .int .i64 P2, .int .u32 (R2 : Int), .int .u8 (B2 : Int), .int .i64 M2, .int .i32 S2, .int .i64 F2, .int .i64 G2]
  rw [World.size_alloc] at ht0
  have HT0 := Lib.hid ht0
  have hb0 := (b_alloc w (.cells #[.int .u8 3, .int .u32 (a : Int), .int .u8 (K : Int), .int .i64 P, .int .u32 (R : Int), .int .u8 (B : Int), .int .i64 M, .int .i32 S, .int .i64 F, .int .i64 G, .int .u32 (s : Int), .int .i32 d, .int .u8 (ek : Int), .int .i64 m] 32)).alloc (by simp) (.cells #[.int .u8 (K2 : Int), .int .i64 P2, .int .u32 (R2 : Int), .int .u8 (B2 : Int), .int .i64 M2, .int .i32 S2, .int .i64 F2, .int .i64 G2] 28)
  have HL0 := Lib.hid (hl.below hb0)
  have HB0 := Lib.hid hb0
  have hl0 := Lib.hid hl
  clear ht0 hb0 hl
  go_enter Tryz.func6, Tryz.ntmps6
  go_wp2_with fail
  refine (awake20 _ HL0.out).mono ?_
  rintro e w1 ⟨rfl, hb⟩
  have HB1 := Lib.hid (HB0.out.trans (hb.mono HB0.out.size))
  have HO1 := Lib.hid (HO0.out.below hb HO0.out.lt)
  have HT1 := Lib.hid (HT0.out.below hb HT0.out.lt)
  have HL1 := Lib.hid (HL0.out.below hb)
  clear hb HB0 HO0 HT0 HL0
  obtain ⟨b, hb⟩ : ∃ b, w.heap.size = b := ⟨_, rfl⟩
  rw [hb] at HO1 HT1
  rw [hb]
  have HWB := Lib.hid hb
  clear hb
  obtain ⟨z0, z1, z2, z3, z4, z5, z6, z7, z8, z9, z10, z11, z12, z13⟩ := blk14 HO1.out
  go_wp2_with fail
  refine (hT _).mono ?_
  rintro e w2 ⟨rfl, hb⟩
  have HB2 := Lib.hid (HB1.out.trans (hb.mono HB1.out.size))
  have HO2 := Lib.hid (HO1.out.below hb HO1.out.lt)
  have HT2 := Lib.hid (HT1.out.below hb HT1.out.lt)
  have HL2 := Lib.hid (HL1.out.below hb)
  clear hb HB1 HO1 HT1 HL1 hT z0 z1 z2 z3 z4 z5 z6 z7 z8 z9 z10 z11 z12 z13
  obtain ⟨z0, z1, z2, z3, z4, z5, z6, z7, z8, z9, z10, z11, z12, z13⟩ := blk14 HO2.out
  have hP := Blk.new w2 32 #[.int .u8 3, .int .u32 (a : Int), .int .u8 (K : Int), .int .i64 P, .int .u32 (R : Int), .int .u8 (B : Int), .int .i64 M, .int .i32 S, .int .i64 F, .int .i64 G, .int .u32 (s : Int), .int .i32 d, .int .u8 (ek : Int), .int .i64 m]
  have HO3 := Lib.hid (HO2.out.alloc (.cells #[.int .u8 3, .int .u32 (a : Int), .int .u8 (K : Int), .int .i64 P, .int .u32 (R : Int), .int .u8 (B : Int), .int .i64 M, .int .i32 S, .int .i64 F, .int .i64 G, .int .u32 (s : Int), .int .i32 d, .int .u8 (ek : Int), .int .i64 m] 32))
  have HT3 := Lib.hid (HT2.out.alloc (.cells #[.int .u8 3, .int .u32 (a : Int), .int .u8 (K : Int), .int .i64 P, .int .u32 (R : Int), .int .u8 (B : Int), .int .i64 M, .int .i32 S, .int .i64 F, .int .i64 G, .int .u32 (s : Int), .int .i32 d, .int .u8 (ek : Int), .int .i64 m] 32))
  have HB3 := Lib.hid (HB2.out.alloc HB2.out.size (.cells #[.int .u8 3, .int .u32 (a : Int), .int .u8 (K : Int), .int .i64 P, .int .u32 (R : Int), .int .u8 (B : Int), .int .i64 M, .int .i32 S, .int .i64 F, .int .i64 G, .int .u32 (s : Int), .int .i32 d, .int .u8 (ek : Int), .int .i64 m] 32))
  have HL3 := Lib.hid (HL2.out.below (b_alloc w2 (.cells #[.int .u8 3, .int .u32 (a : Int), .int .u8 (K : Int), .int .i64 P, .int .u32 (R : Int), .int .u8 (B : Int), .int .i64 M, .int .i32 S, .int .i64 F, .int .i64 G, .int .u32 (s : Int), .int .i32 d, .int .u8 (ek : Int), .int .i64 m] 32)))
  have hbp : b < w2.heap.size := HO2.out.lt
  have hbq : b + 1 < w2.heap.size := HT2.out.lt
  obtain ⟨w3, hw3⟩ : ∃ W, w2.alloc (.cells #[.int .u8 3, .int .u32 (a : Int), .int .u8 (K : Int), .int .i64 P, .int .u32 (R : Int), .int .u8 (B : Int), .int .i64 M, .int .i32 S, .int .i64 F, .int .i64 G, .int .u32 (s : Int), .int .i32 d, .int .u8 (ek : Int), .int .i64 m] 32) = W := ⟨_, rfl⟩
  obtain ⟨p, hp⟩ : ∃ p, w2.heap.size = p := ⟨_, rfl⟩
  rw [hw3, hp] at hP
  rw [hw3] at HO3 HT3 HB3 HL3
  rw [hp] at hbp hbq
  have HP3 := Lib.hid hP
  have HW := Lib.hid (And.intro hw3 hp)
  have HX := Lib.hid (And.intro hbp hbq)
  clear hP hw3 hp hbp hbq HB2 HL2
  go_upto_region 6 with (fail)
  rw [HW.out.1, HW.out.2]
  obtain ⟨z0, z1, z2, z3, z4, z5, z6, z7, z8, z9, z10, z11, z12, z13⟩ := blk14 HO3.out
  have y := HT3.out
  obtain ⟨t0, t1, t2, t3, t4, t5, t6, t7⟩ := blk8 HT3.out
  go_wp2_with (with_reducible refine wpl_storeB (o := ⟨none, _, _, _, _, _⟩) rfl 28 (.tmp 43) (.tmp 42) rfl p 2 rfl #[.int .u8 (K2 : Int), .int .i64 P2, .int .u32 (R2 : Int), .int .u8 (B2 : Int), .int .i64 M2, .int .i32 S2, .int .i64 F2, .int .i64 G2] rfl HP3.out ?g8 ?g9 ?g10 ?_)
  case g8 => show 2 + 8 ≤ 14; decide
  case g9 => exact rowTm
  case g10 => simp [Value.oneCell']
  intro w4 ho4 hG4
  have HO4 := Lib.hid (ho4.blk HO3.out (by have := HX.out.1; omega))
  have HT4 := Lib.hid (ho4.blk HT3.out (by have := HX.out.2; omega))
  have HB4 := Lib.hid (HB3.out.trans (below_only ho4 (show w.heap.size ≤ p by have := HX.out; have := HWB.out; omega)))
  replace hG4 : Blk w4 p 32 #[.int .u8 3, .int .u32 (a : Int), .int .u8 (K2 : Int), .int .i64 P2, .int .u32 (R2 : Int), .int .u8 (B2 : Int), .int .i64 M2, .int .i32 S2, .int .i64 F2, .int .i64 G2, .int .u32 (s : Int), .int .i32 d, .int .u8 (ek : Int), .int .i64 m] := by
    simp [putL] at hG4
    exact hG4
  have HP4 := Lib.hid hG4
  clear hG4 ho4 HB3 HO3 HT3 HP3 z0 z1 z2 z3 z4 z5 z6 z7 z8 z9 z10 z11 z12 z13 t0 t1 t2 t3 t4 t5 t6 t7 y
  obtain ⟨t0, t1, t2, t3, t4, t5, t6, t7⟩ := blk8 HT4.out
  obtain ⟨z0, z1, z2, z3, z4, z5, z6, z7, z8, z9, z10, z11, z12, z13⟩ := blk14 HO4.out
  cases q
  rotate_left
  · go_wp2_with fail
    go_ret
    exact ⟨by first | rfl | simp, HB4.out⟩
  replace cF := cF rfl
  have HWd := Lib.hid (Blk.new w4 9 #[.string ⟨#[]⟩, .string ⟨#[98, 111, 97, 114, 100, 32]⟩, .string ⟨#[]⟩, .string ⟨#[114, 101, 118, 101, 114, 115, 101, 32]⟩, .string ⟨#[115, 116, 101, 112]⟩])
  have HO6 := Lib.hid (HO4.out.alloc (.cells #[.string ⟨#[]⟩, .string ⟨#[98, 111, 97, 114, 100, 32]⟩, .string ⟨#[]⟩, .string ⟨#[114, 101, 118, 101, 114, 115, 101, 32]⟩, .string ⟨#[115, 116, 101, 112]⟩] 9))
  have HP6 := Lib.hid (HP4.out.alloc (.cells #[.string ⟨#[]⟩, .string ⟨#[98, 111, 97, 114, 100, 32]⟩, .string ⟨#[]⟩, .string ⟨#[114, 101, 118, 101, 114, 115, 101, 32]⟩, .string ⟨#[115, 116, 101, 112]⟩] 9))
  have HB6 := Lib.hid (HB4.out.alloc HB4.out.size (.cells #[.string ⟨#[]⟩, .string ⟨#[98, 111, 97, 114, 100, 32]⟩, .string ⟨#[]⟩, .string ⟨#[114, 101, 118, 101, 114, 115, 101, 32]⟩, .string ⟨#[115, 116, 101, 112]⟩] 9))
  have HL6 := Lib.hid (hl0.out.below HB6.out)
  have d3 := HWd.out.cell 3
  simp at d3
  obtain ⟨v0, v1, v2, v3, v4, v5, v6, v7, v8, v9, v10, v11, v12, v13⟩ := blk14 HO6.out
  go_wp2_with (with_reducible refine wpl_strs5 (dst := some 47) rfl rfl rfl rfl rfl ?_)
  clear v0 v1 v2 v3 v4 v5 v6 v7 v8 v9 v10 v11 v12 v13 d3
  obtain ⟨w6, hw6⟩ : ∃ W, World.alloc w4 (.cells #[.string ⟨#[]⟩, .string ⟨#[98, 111, 97, 114, 100, 32]⟩, .string ⟨#[]⟩, .string ⟨#[114, 101, 118, 101, 114, 115, 101, 32]⟩, .string ⟨#[115, 116, 101, 112]⟩] 9) = W := ⟨_, rfl⟩
  obtain ⟨g, hg⟩ : ∃ g, w4.heap.size = g := ⟨_, rfl⟩
  rw [hw6, hg] at HWd
  rw [hw6] at HO6 HP6 HB6 HL6
  try rw [World.size_setCell] at hg
  rw [hw6, hg]
  clear hw6 hg HO4 HP4 HB4 z0 z1 z2 z3 z4 z5 z6 z7 z8 z9 z10 z11 z12 z13
  try clear y0 f0
  refine (cX _ HL6.out).mono ?_
  rintro e w7 ⟨rfl, hb⟩
  have HB7 := Lib.hid (HB6.out.trans (hb.mono HB6.out.size))
  have HO7 := Lib.hid (HO6.out.below hb HO6.out.lt)
  have HP7 := Lib.hid (HP6.out.below hb HP6.out.lt)
  clear hb cX HO6 HP6 HB6 HL6
  obtain ⟨z0, z1, z2, z3, z4, z5, z6, z7, z8, z9, z10, z11, z12, z13⟩ := blk14 HP7.out
  go_wp2_with fail
  refine (cF _).mono ?_
  rintro e w8 ⟨rfl, hb⟩
  have HB8 := Lib.hid (HB7.out.trans (hb.mono HB7.out.size))
  have HO8 := Lib.hid (HO7.out.below hb HO7.out.lt)
  clear hb cF HO7 HP7 HB7 z0 z1 z2 z3 z4 z5 z6 z7 z8 z9 z10 z11 z12 z13
  have z0 := HO8.out.cell 0
  simp at z0
  have hxb : ((tx.extract 0 8).toList == [114, 101, 118, 101, 114, 115, 101, 32]) = true := by rw [hxe]; rfl
  go_wp2_with fail
  go_ret
  exact ⟨by first | rfl | simp, HB8.out⟩
set_option maxRecDepth 100000 in
set_option maxHeartbeats 4000000 in
theorem OKinds_4 {a K R B s ek K2 R2 B2 loan seq : Nat} {P M S F G d m P2 M2 S2 F2 G2 : Int} (hT : ∀ W, Calls Tryz.prog 12 #[.agg #[.int .u8 4, .int .u32 (a : Int), .int .u8 (K : Int), .int .i64 P, .int .u32 (R : Int), .int .u8 (B : Int), .int .i64 M, .int .i32 S, .int .i64 F, .int .i64 G, .int .u32 (s : Int), .int .i32 d, .int .u8 (ek : Int), .int .i64 m]] W (Ret (.bool true) W)) {tx : ByteArray} (cX : ∀ W, TLd W → Calls Tryz.prog 20 #[.agg #[.int .u8 4, .int .u32 (a : Int), .int .u8 (K : Int), .int .i64 P, .int .u32 (R : Int), .int .u8 (B : Int), .int .i64 M, .int .i32 S, .int .i64 F, .int .i64 G, .int .u32 (s : Int), .int .i32 d, .int .u8 (ek : Int), .int .i64 m]] W (Ret (.string tx) W)) {x : Int} (hx : max (loan : Int) 1 = x) (htx : tx = ⟨#[115, 116, 101, 112]⟩) (cF : ∀ W, Calls Tryz.prog 12 #[.agg #[.int .u8 4, .int .u32 x, .int .u8 (K : Int), .int .i64 P, .int .u32 (R : Int), .int .u8 (B : Int), .int .i64 M, .int .i32 S, .int .i64 F, .int .i64 G, .int .u32 (s : Int), .int .i32 d, .int .u8 (ek : Int), .int .i64 m]] W (Ret (.bool false) W)) (w : World) (hl : TLd w) :
    Calls Tryz.prog 6 #[.agg #[.int .u8 4, .int .u32 (a : Int), .int .u8 (K : Int), .int .i64 P, .int .u32 (R : Int), .int .u8 (B : Int), .int .i64 M, .int .i32 S, .int .i64 F, .int .i64 G, .int .u32 (s : Int), .int .i32 d, .int .u8 (ek : Int), .int .i64 m], .int .u32 (loan : Int), .int .u32 (seq : Int), .agg #[.int .u8 (K2 : Int), .int .i64 P2, .int .u32 (R2 : Int), .int .u8 (B2 : Int), .int .i64 M2, .int .i32 S2, .int .i64 F2, .int .i64 G2]] w (Ret (.bool true) w) := by
  have HO0 := Lib.hid ((Blk.new w 32 #[.int .u8 4, .int .u32 (a : Int), .int .u8 (K : Int), .int .i64 P, .int .u32 (R : Int), .int .u8 (B : Int), .int .i64 M, .int .i32 S, .int .i64 F, .int .i64 G, .int .u32 (s : Int), .int .i32 d, .int .u8 (ek : Int), .int .i64 m]).alloc (.cells #[.int .u8 (K2 : Int), .int .i64 P2, .int .u32 (R2 : Int), .int .u8 (B2 : Int), .int .i64 M2, .int .i32 S2, .int .i64 F2, .int .i64 G2] 28))
  have ht0 := Blk.new (w.alloc (.cells #[.int .u8 4, .int .u32 (a : Int), .int .u8 (K : Int), .int .i64 P, .int .u32 (R : Int), .int .u8 (B : Int), .int .i64 M, .int .i32 S, .int .i64 F, .int .i64 G, .int .u32 (s : Int), .int .i32 d, .int .u8 (ek : Int), .int .i64 m] 32)) 28 #[.int .u8 (K2 : Int), .int .i64 P2, .int .u32 (R2 : Int), .int .u8 (B2 : Int), .int .i64 M2, .int .i32 S2, .int .i64 F2, .int .i64 G2]
  rw [World.size_alloc] at ht0
  have HT0 := Lib.hid ht0
  have hb0 := (b_alloc w (.cells #[.int .u8 4, .int .u32 (a : Int), .int .u8 (K : Int), .int .i64 P, .int .u32 (R : Int), .int .u8 (B : Int), .int .i64 M, .int .i32 S, .int .i64 F, .int .i64 G, .int .u32 (s : Int), .int .i32 d, .int .u8 (ek : Int), .int .i64 m] 32)).alloc (by simp) (.cells #[.int .u8 (K2 : Int), .int .i64 P2, .int .u32 (R2 : Int), .int .u8 (B2 : Int), .int .i64 M2, .int .i32 S2, .int .i64 F2, .int .i64 G2] 28)
  have HL0 := Lib.hid (hl.below hb0)
  have HB0 := Lib.hid hb0
  have hl0 := Lib.hid hl
  clear ht0 hb0 hl
  go_enter Tryz.func6, Tryz.ntmps6
  go_wp2_with fail
  refine (awake20 _ HL0.out).mono ?_
  rintro e w1 ⟨rfl, hb⟩
  have HB1 := Lib.hid (HB0.out.trans (hb.mono HB0.out.size))
  have HO1 := Lib.hid (HO0.out.below hb HO0.out.lt)
  have HT1 := Lib.hid (HT0.out.below hb HT0.out.lt)
  have HL1 := Lib.hid (HL0.out.below hb)
  clear hb HB0 HO0 HT0 HL0
  obtain ⟨b, hb⟩ : ∃ b, w.heap.size = b := ⟨_, rfl⟩
  rw [hb] at HO1 HT1
  rw [hb]
  have HWB := Lib.hid hb
  clear hb
  obtain ⟨z0, z1, z2, z3, z4, z5, z6, z7, z8, z9, z10, z11, z12, z13⟩ := blk14 HO1.out
  go_wp2_with fail
  refine (hT _).mono ?_
  rintro e w2 ⟨rfl, hb⟩
  have HB2 := Lib.hid (HB1.out.trans (hb.mono HB1.out.size))
  have HO2 := Lib.hid (HO1.out.below hb HO1.out.lt)
  have HT2 := Lib.hid (HT1.out.below hb HT1.out.lt)
  have HL2 := Lib.hid (HL1.out.below hb)
  clear hb HB1 HO1 HT1 HL1 hT z0 z1 z2 z3 z4 z5 z6 z7 z8 z9 z10 z11 z12 z13
  obtain ⟨z0, z1, z2, z3, z4, z5, z6, z7, z8, z9, z10, z11, z12, z13⟩ := blk14 HO2.out
  have hP := Blk.new w2 32 #[.int .u8 4, .int .u32 (a : Int), .int .u8 (K : Int), .int .i64 P, .int .u32 (R : Int), .int .u8 (B : Int), .int .i64 M, .int .i32 S, .int .i64 F, .int .i64 G, .int .u32 (s : Int), .int .i32 d, .int .u8 (ek : Int), .int .i64 m]
  have HO3 := Lib.hid (HO2.out.alloc (.cells #[.int .u8 4, .int .u32 (a : Int), .int .u8 (K : Int), .int .i64 P, .int .u32 (R : Int), .int .u8 (B : Int), .int .i64 M, .int .i32 S, .int .i64 F, .int .i64 G, .int .u32 (s : Int), .int .i32 d, .int .u8 (ek : Int), .int .i64 m] 32))
  have HT3 := Lib.hid (HT2.out.alloc (.cells #[.int .u8 4, .int .u32 (a : Int), .int .u8 (K : Int), .int .i64 P, .int .u32 (R : Int), .int .u8 (B : Int), .int .i64 M, .int .i32 S, .int .i64 F, .int .i64 G, .int .u32 (s : Int), .int .i32 d, .int .u8 (ek : Int), .int .i64 m] 32))
  have HB3 := Lib.hid (HB2.out.alloc HB2.out.size (.cells #[.int .u8 4, .int .u32 (a : Int), .int .u8 (K : Int), .int .i64 P, .int .u32 (R : Int), .int .u8 (B : Int), .int .i64 M, .int .i32 S, .int .i64 F, .int .i64 G, .int .u32 (s : Int), .int .i32 d, .int .u8 (ek : Int), .int .i64 m] 32))
  have HL3 := Lib.hid (HL2.out.below (b_alloc w2 (.cells #[.int .u8 4, .int .u32 (a : Int), .int .u8 (K : Int), .int .i64 P, .int .u32 (R : Int), .int .u8 (B : Int), .int .i64 M, .int .i32 S, .int .i64 F, .int .i64 G, .int .u32 (s : Int), .int .i32 d, .int .u8 (ek : Int), .int .i64 m] 32)))
  have hbp : b < w2.heap.size := HO2.out.lt
  have hbq : b + 1 < w2.heap.size := HT2.out.lt
  obtain ⟨w3, hw3⟩ : ∃ W, w2.alloc (.cells #[.int .u8 4, .int .u32 (a : Int), .int .u8 (K : Int), .int .i64 P, .int .u32 (R : Int), .int .u8 (B : Int), .int .i64 M, .int .i32 S, .int .i64 F, .int .i64 G, .int .u32 (s : Int), .int .i32 d, .int .u8 (ek : Int), .int .i64 m] 32) = W := ⟨_, rfl⟩
  obtain ⟨p, hp⟩ : ∃ p, w2.heap.size = p := ⟨_, rfl⟩
  rw [hw3, hp] at hP
  rw [hw3] at HO3 HT3 HB3 HL3
  rw [hp] at hbp hbq
  have HP3 := Lib.hid hP
  have HW := Lib.hid (And.intro hw3 hp)
  have HX := Lib.hid (And.intro hbp hbq)
  clear hP hw3 hp hbp hbq HB2 HL2
  go_upto_region 6 with (fail)
  rw [HW.out.1, HW.out.2]
  obtain ⟨z0, z1, z2, z3, z4, z5, z6, z7, z8, z9, z10, z11, z12, z13⟩ := blk14 HO3.out
  have y0 := HP3.out.cell 1
  have f0 := HP3.out.frozen 1
  simp at y0
  have hG := HP3.out.set_ 1 (.int .u32 x)
  simp only [List.setIfInBounds_toArray, List.set_cons_zero, List.set_cons_succ] at hG
  have HP4 := Lib.hid hG
  have HO4 := Lib.hid (HO3.out.far (p := ⟨p, 1, none⟩) (by have := HX.out.1; show b ≠ p; omega) (.int .u32 x))
  have HB4 := Lib.hid (Below.setCell HB3.out (p := ⟨p, 1, none⟩) (by have := HX.out.1; have := HWB.out; show w.heap.size ≤ p; omega) (.int .u32 x))
  clear hG
  have HWd := Lib.hid (Blk.new (w3.setCell ⟨p, 1, none⟩ (.int .u32 x)) 9 #[.string ⟨#[]⟩, .string ⟨#[98, 111, 97, 114, 100, 32]⟩, .string ⟨#[]⟩, .string ⟨#[114, 101, 118, 101, 114, 115, 101, 32]⟩, .string ⟨#[115, 116, 101, 112]⟩])
  have HO6 := Lib.hid (HO4.out.alloc (.cells #[.string ⟨#[]⟩, .string ⟨#[98, 111, 97, 114, 100, 32]⟩, .string ⟨#[]⟩, .string ⟨#[114, 101, 118, 101, 114, 115, 101, 32]⟩, .string ⟨#[115, 116, 101, 112]⟩] 9))
  have HP6 := Lib.hid (HP4.out.alloc (.cells #[.string ⟨#[]⟩, .string ⟨#[98, 111, 97, 114, 100, 32]⟩, .string ⟨#[]⟩, .string ⟨#[114, 101, 118, 101, 114, 115, 101, 32]⟩, .string ⟨#[115, 116, 101, 112]⟩] 9))
  have HB6 := Lib.hid (HB4.out.alloc HB4.out.size (.cells #[.string ⟨#[]⟩, .string ⟨#[98, 111, 97, 114, 100, 32]⟩, .string ⟨#[]⟩, .string ⟨#[114, 101, 118, 101, 114, 115, 101, 32]⟩, .string ⟨#[115, 116, 101, 112]⟩] 9))
  have HL6 := Lib.hid (hl0.out.below HB6.out)
  have d4 := HWd.out.cell 4
  simp at d4
  obtain ⟨v0, v1, v2, v3, v4, v5, v6, v7, v8, v9, v10, v11, v12, v13⟩ := blk14 HO6.out
  go_wp2_with (with_reducible refine wpl_strs5 (dst := some 47) rfl rfl rfl rfl rfl ?_)
  clear v0 v1 v2 v3 v4 v5 v6 v7 v8 v9 v10 v11 v12 v13 d4
  obtain ⟨w6, hw6⟩ : ∃ W, World.alloc (w3.setCell ⟨p, 1, none⟩ (.int .u32 x)) (.cells #[.string ⟨#[]⟩, .string ⟨#[98, 111, 97, 114, 100, 32]⟩, .string ⟨#[]⟩, .string ⟨#[114, 101, 118, 101, 114, 115, 101, 32]⟩, .string ⟨#[115, 116, 101, 112]⟩] 9) = W := ⟨_, rfl⟩
  obtain ⟨g, hg⟩ : ∃ g, (w3.setCell ⟨p, 1, none⟩ (.int .u32 x)).heap.size = g := ⟨_, rfl⟩
  rw [hw6, hg] at HWd
  rw [hw6] at HO6 HP6 HB6 HL6
  try rw [World.size_setCell] at hg
  rw [hw6, hg]
  clear hw6 hg HO4 HP4 HB4 z0 z1 z2 z3 z4 z5 z6 z7 z8 z9 z10 z11 z12 z13
  try clear y0 f0
  refine (cX _ HL6.out).mono ?_
  rintro e w7 ⟨rfl, hb⟩
  have HB7 := Lib.hid (HB6.out.trans (hb.mono HB6.out.size))
  have HO7 := Lib.hid (HO6.out.below hb HO6.out.lt)
  have HP7 := Lib.hid (HP6.out.below hb HP6.out.lt)
  clear hb cX HO6 HP6 HB6 HL6
  obtain ⟨z0, z1, z2, z3, z4, z5, z6, z7, z8, z9, z10, z11, z12, z13⟩ := blk14 HP7.out
  go_wp2_with fail
  refine (cF _).mono ?_
  rintro e w8 ⟨rfl, hb⟩
  have HB8 := Lib.hid (HB7.out.trans (hb.mono HB7.out.size))
  have HO8 := Lib.hid (HO7.out.below hb HO7.out.lt)
  clear hb cF HO7 HP7 HB7 z0 z1 z2 z3 z4 z5 z6 z7 z8 z9 z10 z11 z12 z13
  have z0 := HO8.out.cell 0
  simp at z0
  subst htx
  have hxe : ((⟨#[115, 116, 101, 112]⟩ : ByteArray).extract 0 4).toList = [115, 116, 101, 112] := by decide +kernel
  have hxb : (((⟨#[115, 116, 101, 112]⟩ : ByteArray).extract 0 4).toList == [115, 116, 101, 112]) = true := by rw [hxe]; rfl
  go_wp2_with fail
  go_ret
  exact ⟨by first | rfl | simp, HB8.out⟩
end Go.Proofs.YtjlajnackecfgaaGreatDoor
