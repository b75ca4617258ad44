/-
OrderReads: the law's walk. Conditions: the numbers' kinds, what is laid.
-/
import Derived.Test.YtjlajnackecfgaaGreatDoorOdVX9
import Derived.Test.YtjlajnackecfgaaGreatDoorOdUX9
import Derived.Test.YtjlajnackecfgaaGreatDoorCodeCX9
namespace Go.Proofs.YtjlajnackecfgaaGreatDoor
open Go.ChangeShapes Go.WideShapes Go.ChangeAt Go.RowKit Go.Shelf
set_option maxRecDepth 20000 in
set_option maxHeartbeats 1000000 in
theorem Text120_o (s : ByteArray) (hs : s.size ≤ maxLen) (w : World) :
    Calls Tryz.prog 18 #[.string s, .int .i64 120] w fun e w' => (∃ s' : ByteArray, s'.size ≤ 120 ∧ e = .returned (.string s')) ∧ w = w' := by
  unfold maxLen at hs
  by_cases h : s.size ≤ 120
  · have h2 : min (s.size : Int) 120 = (s.size : Int) := by omega
    go_enter Tryz.func18, Tryz.ntmps18
    go_wp2_with fail
    go_ret
    refine ⟨⟨_, ?_, rfl⟩, rfl⟩
    first | exact h | (simp [ByteArray.size_extract] <;> omega)
  · go_enter Tryz.func18, Tryz.ntmps18
    go_wp2_with fail
    go_ret
    refine ⟨⟨_, ?_, rfl⟩, rfl⟩
    first | exact h | (simp [ByteArray.size_extract] <;> omega)
theorem zero_eqO (W : World) : (Op.equalIn 10000 32 (.agg #[.int .u8 0, .int .u32 0, .int .u8 0, .int .i64 0, .int .u32 0, .int .u8 0, .int .i64 0, .int .i32 0, .int .i64 0, .int .i64 0, .int .u32 0, .int .i32 0, .int .u8 0, .int .i64 0]) (.agg #[.int .u8 0, .int .u32 0, .int .u8 0, .int .i64 0, .int .u32 0, .int .u8 0, .int .i64 0, .int .i32 0, .int .i64 0, .int .i64 0, .int .u32 0, .int .i32 0, .int .u8 0, .int .i64 0])).run Tryz.prog W = .ok true W := by
  haveI := Classical.propDecidable ((⟨0, 0, Trm.zero, Evt.zero⟩ : Ord) = ⟨0, 0, Trm.zero, Evt.zero⟩)
  refine (eqO ⟨0, 0, Trm.zero, Evt.zero⟩ ⟨0, 0, Trm.zero, Evt.zero⟩ W).trans ?_
  rw [decide_eq_true rfl]
set_option maxRecDepth 100000 in
set_option maxHeartbeats 4000000 in
theorem OReads_0 {k a K R B s ek : Nat} {P M S F G d m : Int} {x : ByteArray} (hx : x.size ≤ maxLen) (kO : ∀ W, Calls Tryz.prog 11 #[.agg #[.int .u8 (k : Int), .int .u32 (a : Int), .int .u8 (K : Int), .int .i64 P, .int .u32 (R : Int), .int .u8 (B : Int), .int .i64 M, .int .i32 S, .int .i64 F, .int .i64 G, .int .u32 (s : Int), .int .i32 d, .int .u8 (ek : Int), .int .i64 m]] W (Ret (.agg #[.int .u8 (k : Int), .int .u32 (a : Int), .int .u8 (K : Int), .int .i64 P, .int .u32 (R : Int), .int .u8 (B : Int), .int .i64 M, .int .i64 S, .int .i64 F, .int .i64 G, .int .u32 (s : Int), .int .i64 d, .int .u8 (ek : Int), .int .i64 m]) W)) (kQ : ∀ W, Calls Tryz.prog 10 #[.agg #[.int .u8 (k : Int), .int .u32 (a : Int), .int .u8 (K : Int), .int .i64 P, .int .u32 (R : Int), .int .u8 (B : Int), .int .i64 M, .int .i64 S, .int .i64 F, .int .i64 G, .int .u32 (s : Int), .int .i64 d, .int .u8 (ek : Int), .int .i64 m]] W (Ret (.bool false) W)) (kT : ∀ W, Calls Tryz.prog 20 #[.agg #[.int .u8 (k : Int), .int .u32 (a : Int), .int .u8 (K : Int), .int .i64 P, .int .u32 (R : Int), .int .u8 (B : Int), .int .i64 M, .int .i32 S, .int .i64 F, .int .i64 G, .int .u32 (s : Int), .int .i32 d, .int .u8 (ek : Int), .int .i64 m]] W (Ret (.string ⟨#[]⟩) W)) (w : World) (hl : TLd w) (hle : Laid w) : Calls Tryz.prog 4 #[.agg #[.int .u8 (k : Int), .int .u32 (a : Int), .int .u8 (K : Int), .int .i64 P, .int .u32 (R : Int), .int .u8 (B : Int), .int .i64 M, .int .i32 S, .int .i64 F, .int .i64 G, .int .u32 (s : Int), .int .i32 d, .int .u8 (ek : Int), .int .i64 m], .string x] w (Ret (.bool true) w) := by
  have HQ0 := Lib.hid (Blk.new w 32 #[.int .u8 (k : Int), .int .u32 (a : Int), .int .u8 (K : Int), .int .i64 P, .int .u32 (R : Int), .int .u8 (B : Int), .int .i64 M, .int .i32 S, .int .i64 F, .int .i64 G, .int .u32 (s : Int), .int .i32 d, .int .u8 (ek : Int), .int .i64 m])
  have HB0 := Lib.hid (b_alloc w (.cells #[.int .u8 (k : Int), .int .u32 (a : Int), .int .u8 (K : Int), .int .i64 P, .int .u32 (R : Int), .int .u8 (B : Int), .int .i64 M, .int .i32 S, .int .i64 F, .int .i64 G, .int .u32 (s : Int), .int .i32 d, .int .u8 (ek : Int), .int .i64 m] 32))
  have HL := Lib.hid hl
  have HLe := Lib.hid hle
  have HXx := Lib.hid hx
  have HZ := fun W => zero_eqO W
  clear hl hle hx
  go_enter Tryz.func4, Tryz.ntmps4
  go_wp2_with fail
  refine (awake20 _ (HL.out.below HB0.out)).mono ?_
  rintro e w1 ⟨rfl, hb⟩
  have HB1 := Lib.hid (HB0.out.trans (hb.mono HB0.out.size))
  have HQ1 := Lib.hid (HQ0.out.below hb HQ0.out.lt)
  clear hb HB0 HQ0
  obtain ⟨p, hp⟩ : ∃ p, w.heap.size = p := ⟨_, rfl⟩
  rw [hp] at HQ1
  rw [hp]
  have HWp := Lib.hid hp
  clear hp
  go_wp2_with fail
  refine (Text120_o x HXx.out _).mono ?_
  rintro e w1' ⟨⟨y, hy, rfl⟩, rfl⟩
  have HY := Lib.hid hy
  clear hy HXx
  obtain ⟨z0, z1, z2, z3, z4, z5, z6, z7, z8, z9, z10, z11, z12, z13⟩ := blk14 HQ1.out
  go_wp2_with fail
  refine (kO _).mono ?_
  rintro e w2 ⟨rfl, hb⟩
  have HB2 := Lib.hid (HB1.out.trans (hb.mono HB1.out.size))
  have HQ2 := Lib.hid (HQ1.out.below hb HQ1.out.lt)
  clear hb HB1 HQ1 z0 z1 z2 z3 z4 z5 z6 z7 z8 z9 z10 z11 z12 z13
  go_wp2_with fail
  refine (kQ _).mono ?_
  rintro e w3 ⟨rfl, hb⟩
  have HB3 := Lib.hid (HB2.out.trans (hb.mono HB2.out.size))
  have HQ3 := Lib.hid (HQ2.out.below hb HQ2.out.lt)
  clear hb HB2 HQ2 kQ
  obtain ⟨z0, z1, z2, z3, z4, z5, z6, z7, z8, z9, z10, z11, z12, z13⟩ := blk14 HQ3.out
  go_wp2_with fail
  refine (kT _).mono ?_
  rintro e w4 ⟨rfl, hb⟩
  have HB4 := Lib.hid (HB3.out.trans (hb.mono HB3.out.size))
  clear hb HB3 HQ3 z0 z1 z2 z3 z4 z5 z6 z7 z8 z9 z10 z11 z12 z13 kT kO
  have HRd := Lib.hid (Read_any9 y HY.out w4 (HL.out.below HB4.out))
  go_wp2_with fail
  refine HRd.out.mono ?_
  rintro e v1 ⟨hh, hb⟩
  have HC1 := Lib.hid (HB4.out.trans (hb.mono HB4.out.size))
  clear hb HRd HB4
  rcases hh with ⟨o2, hA2, hR2, hT2, rfl⟩ | ⟨-, rfl⟩
  · have hI2 := any_in hA2 hR2
    have cT2 := fun W h => OText_yes hI2 hR2 W h
    have cO2 := fun W => own20 o2 hI2 W
    have cX2 := fun W => RText20 hI2 hR2 W
    rw [hT2] at cT2 cX2
    obtain ⟨k2, a2, ⟨K2, P2, R2, B2, M2, S2, F2, G2⟩, s2, d2, ek2, m2⟩ := o2
    change ∀ W, TLd W → Calls Tryz.prog _ #[.agg #[.int .u8 (k2 : Int), .int .u32 (a2 : Int), .int .u8 (K2 : Int), .int .i64 P2, .int .u32 (R2 : Int), .int .u8 (B2 : Int), .int .i64 M2, .int .i32 S2, .int .i64 F2, .int .i64 G2, .int .u32 (s2 : Int), .int .i32 d2, .int .u8 (ek2 : Int), .int .i64 m2]] W _ at cT2
    change ∀ W, Calls Tryz.prog _ #[.agg #[.int .u8 (k2 : Int), .int .u32 (a2 : Int), .int .u8 (K2 : Int), .int .i64 P2, .int .u32 (R2 : Int), .int .u8 (B2 : Int), .int .i64 M2, .int .i32 S2, .int .i64 F2, .int .i64 G2, .int .u32 (s2 : Int), .int .i32 d2, .int .u8 (ek2 : Int), .int .i64 m2]] W (Ret (.agg #[.int .u8 (k2 : Int), .int .u32 (a2 : Int), .int .u8 (K2 : Int), .int .i64 P2, .int .u32 (R2 : Int), .int .u8 (B2 : Int), .int .i64 M2, .int .i64 S2, .int .i64 F2, .int .i64 G2, .int .u32 (s2 : Int), .int .i64 d2, .int .u8 (ek2 : Int), .int .i64 m2]) W) at cO2
    change ∀ W, Calls Tryz.prog _ #[.agg #[.int .u8 (k2 : Int), .int .u32 (a2 : Int), .int .u8 (K2 : Int), .int .i64 P2, .int .u32 (R2 : Int), .int .u8 (B2 : Int), .int .i64 M2, .int .i64 S2, .int .i64 F2, .int .i64 G2, .int .u32 (s2 : Int), .int .i64 d2, .int .u8 (ek2 : Int), .int .i64 m2]] W _ at cX2
    clear hA2 hR2 hT2 hI2
    have HC2 := Lib.hid (HC1.out.alloc HC1.out.size (.cells #[.int .u8 (k2 : Int), .int .u32 (a2 : Int), .int .u8 (K2 : Int), .int .i64 P2, .int .u32 (R2 : Int), .int .u8 (B2 : Int), .int .i64 M2, .int .i32 S2, .int .i64 F2, .int .i64 G2, .int .u32 (s2 : Int), .int .i32 d2, .int .u8 (ek2 : Int), .int .i64 m2] 32))
    have HG2 := Lib.hid (Blk.new v1 32 #[.int .u8 (k2 : Int), .int .u32 (a2 : Int), .int .u8 (K2 : Int), .int .i64 P2, .int .u32 (R2 : Int), .int .u8 (B2 : Int), .int .i64 M2, .int .i32 S2, .int .i64 F2, .int .i64 G2, .int .u32 (s2 : Int), .int .i32 d2, .int .u8 (ek2 : Int), .int .i64 m2])
    have HL2 := Lib.hid (HL.out.below HC2.out)
    unfold Ord.v Ord.cs
    dsimp only
    go_wp2_with fail
    refine (cT2 _ HL2.out).mono ?_
    rintro e v2 ⟨rfl, hb⟩
    have HC3 := Lib.hid (HC2.out.trans (hb.mono HC2.out.size))
    have HG3 := Lib.hid (HG2.out.below hb HG2.out.lt)
    clear hb HC2 HG2 HL2 cT2
    obtain ⟨z0, z1, z2, z3, z4, z5, z6, z7, z8, z9, z10, z11, z12, z13⟩ := blk14 HG3.out
    have hyy : (y.toList == y.toList) = true := by simp
    go_wp2_with fail
    refine (cO2 _).mono ?_
    rintro e v3 ⟨rfl, hb⟩
    have HC4 := Lib.hid (HC3.out.trans (hb.mono HC3.out.size))
    clear hb HC3 HG3 cO2 z0 z1 z2 z3 z4 z5 z6 z7 z8 z9 z10 z11 z12 z13
    go_wp2_with fail
    refine (cX2 _).mono ?_
    rintro e v4 ⟨rfl, hb⟩
    have HC5 := Lib.hid (HC4.out.trans (hb.mono HC4.out.size))
    clear hb HC4 cX2
    go_wp2_with fail
    go_ret
    exact ⟨by first | rfl | simp, HC5.out⟩
  · have HC2 := Lib.hid (HC1.out.alloc HC1.out.size (.cells #[.int .u8 0, .int .u32 0, .int .u8 0, .int .i64 0, .int .u32 0, .int .u8 0, .int .i64 0, .int .i32 0, .int .i64 0, .int .i64 0, .int .u32 0, .int .i32 0, .int .u8 0, .int .i64 0] 32))
    have HG2 := Lib.hid (Blk.new v1 32 #[.int .u8 0, .int .u32 0, .int .u8 0, .int .i64 0, .int .u32 0, .int .u8 0, .int .i64 0, .int .i32 0, .int .i64 0, .int .i64 0, .int .u32 0, .int .i32 0, .int .u8 0, .int .i64 0])
    have cK := Code_errno 15 (v1.alloc (.cells #[.int .u8 0, .int .u32 0, .int .u8 0, .int .i64 0, .int .u32 0, .int .u8 0, .int .i64 0, .int .i32 0, .int .i64 0, .int .i64 0, .int .u32 0, .int .i32 0, .int .u8 0, .int .i64 0] 32)) (HLe.out.below HC2.out)
    unfold zeroO
    go_wp2_with fail
    refine cK.mono ?_
    rintro e v2 ⟨rfl, hb⟩
    have HC3 := Lib.hid (HC2.out.trans (hb.mono HC2.out.size))
    have HG3 := Lib.hid (HG2.out.below hb HG2.out.lt)
    clear hb HC2 HG2 cK
    obtain ⟨z0, z1, z2, z3, z4, z5, z6, z7, z8, z9, z10, z11, z12, z13⟩ := blk14 HG3.out
    go_wp2_with fail
    go_ret
    exact ⟨by first | rfl | simp, HC3.out⟩
set_option maxRecDepth 100000 in
set_option maxHeartbeats 4000000 in
theorem OReads_1 {k a K R B s ek : Nat} {P M S F G d m : Int} {x : ByteArray} (hx : x.size ≤ maxLen) {tx : ByteArray} (kO : ∀ W, Calls Tryz.prog 11 #[.agg #[.int .u8 (k : Int), .int .u32 (a : Int), .int .u8 (K : Int), .int .i64 P, .int .u32 (R : Int), .int .u8 (B : Int), .int .i64 M, .int .i32 S, .int .i64 F, .int .i64 G, .int .u32 (s : Int), .int .i32 d, .int .u8 (ek : Int), .int .i64 m]] W (Ret (.agg #[.int .u8 (k : Int), .int .u32 (a : Int), .int .u8 (K : Int), .int .i64 P, .int .u32 (R : Int), .int .u8 (B : Int), .int .i64 M, .int .i64 S, .int .i64 F, .int .i64 G, .int .u32 (s : Int), .int .i64 d, .int .u8 (ek : Int), .int .i64 m]) W)) (kQ : ∀ W, Calls Tryz.prog 10 #[.agg #[.int .u8 (k : Int), .int .u32 (a : Int), .int .u8 (K : Int), .int .i64 P, .int .u32 (R : Int), .int .u8 (B : Int), .int .i64 M, .int .i64 S, .int .i64 F, .int .i64 G, .int .u32 (s : Int), .int .i64 d, .int .u8 (ek : Int), .int .i64 m]] W (Ret (.bool true) W)) (kT : ∀ W, TLd W → Calls Tryz.prog 20 #[.agg #[.int .u8 (k : Int), .int .u32 (a : Int), .int .u8 (K : Int), .int .i64 P, .int .u32 (R : Int), .int .u8 (B : Int), .int .i64 M, .int .i32 S, .int .i64 F, .int .i64 G, .int .u32 (s : Int), .int .i32 d, .int .u8 (ek : Int), .int .i64 m]] W (Ret (.string tx) W)) (kR : ∀ W, TLd W → Calls Tryz.prog 19 #[.string tx] W (Ret (.tuple #[.agg #[.int .u8 (k : Int), .int .u32 (a : Int), .int .u8 (K : Int), .int .i64 P, .int .u32 (R : Int), .int .u8 (B : Int), .int .i64 M, .int .i32 S, .int .i64 F, .int .i64 G, .int .u32 (s : Int), .int .i32 d, .int .u8 (ek : Int), .int .i64 m], .nilIface]) W))
    (kX : ∀ W, Calls Tryz.prog 21 #[.agg #[.int .u8 (k : Int), .int .u32 (a : Int), .int .u8 (K : Int), .int .i64 P, .int .u32 (R : Int), .int .u8 (B : Int), .int .i64 M, .int .i64 S, .int .i64 F, .int .i64 G, .int .u32 (s : Int), .int .i64 d, .int .u8 (ek : Int), .int .i64 m]] W (Ret (.string tx) W)) (kE : ∀ W, (Op.equalIn 10000 32 (.agg #[.int .u8 (k : Int), .int .u32 (a : Int), .int .u8 (K : Int), .int .i64 P, .int .u32 (R : Int), .int .u8 (B : Int), .int .i64 M, .int .i32 S, .int .i64 F, .int .i64 G, .int .u32 (s : Int), .int .i32 d, .int .u8 (ek : Int), .int .i64 m]) (.agg #[.int .u8 (k : Int), .int .u32 (a : Int), .int .u8 (K : Int), .int .i64 P, .int .u32 (R : Int), .int .u8 (B : Int), .int .i64 M, .int .i32 S, .int .i64 F, .int .i64 G, .int .u32 (s : Int), .int .i32 d, .int .u8 (ek : Int), .int .i64 m])).run Tryz.prog W = .ok true W) (w : World) (hl : TLd w) (hle : Laid w) : Calls Tryz.prog 4 #[.agg #[.int .u8 (k : Int), .int .u32 (a : Int), .int .u8 (K : Int), .int .i64 P, .int .u32 (R : Int), .int .u8 (B : Int), .int .i64 M, .int .i32 S, .int .i64 F, .int .i64 G, .int .u32 (s : Int), .int .i32 d, .int .u8 (ek : Int), .int .i64 m], .string x] w (Ret (.bool true) w) := by
  have HQ0 := Lib.hid (Blk.new w 32 #[.int .u8 (k : Int), .int .u32 (a : Int), .int .u8 (K : Int), .int .i64 P, .int .u32 (R : Int), .int .u8 (B : Int), .int .i64 M, .int .i32 S, .int .i64 F, .int .i64 G, .int .u32 (s : Int), .int .i32 d, .int .u8 (ek : Int), .int .i64 m])
  have HB0 := Lib.hid (b_alloc w (.cells #[.int .u8 (k : Int), .int .u32 (a : Int), .int .u8 (K : Int), .int .i64 P, .int .u32 (R : Int), .int .u8 (B : Int), .int .i64 M, .int .i32 S, .int .i64 F, .int .i64 G, .int .u32 (s : Int), .int .i32 d, .int .u8 (ek : Int), .int .i64 m] 32))
  have HL := Lib.hid hl
  have HLe := Lib.hid hle
  have HXx := Lib.hid hx
  have HZ := fun W => zero_eqO W
  clear hl hle hx
  go_enter Tryz.func4, Tryz.ntmps4
  go_wp2_with fail
  refine (awake20 _ (HL.out.below HB0.out)).mono ?_
  rintro e w1 ⟨rfl, hb⟩
  have HB1 := Lib.hid (HB0.out.trans (hb.mono HB0.out.size))
  have HQ1 := Lib.hid (HQ0.out.below hb HQ0.out.lt)
  clear hb HB0 HQ0
  obtain ⟨p, hp⟩ : ∃ p, w.heap.size = p := ⟨_, rfl⟩
  rw [hp] at HQ1
  rw [hp]
  have HWp := Lib.hid hp
  clear hp
  go_wp2_with fail
  refine (Text120_o x HXx.out _).mono ?_
  rintro e w1' ⟨⟨y, hy, rfl⟩, rfl⟩
  have HY := Lib.hid hy
  clear hy HXx
  obtain ⟨z0, z1, z2, z3, z4, z5, z6, z7, z8, z9, z10, z11, z12, z13⟩ := blk14 HQ1.out
  go_wp2_with fail
  refine (kO _).mono ?_
  rintro e w2 ⟨rfl, hb⟩
  have HB2 := Lib.hid (HB1.out.trans (hb.mono HB1.out.size))
  have HQ2 := Lib.hid (HQ1.out.below hb HQ1.out.lt)
  clear hb HB1 HQ1 z0 z1 z2 z3 z4 z5 z6 z7 z8 z9 z10 z11 z12 z13
  go_wp2_with fail
  refine (kQ _).mono ?_
  rintro e w3 ⟨rfl, hb⟩
  have HB3 := Lib.hid (HB2.out.trans (hb.mono HB2.out.size))
  have HQ3 := Lib.hid (HQ2.out.below hb HQ2.out.lt)
  clear hb HB2 HQ2 kQ
  obtain ⟨z0, z1, z2, z3, z4, z5, z6, z7, z8, z9, z10, z11, z12, z13⟩ := blk14 HQ3.out
  go_wp2_with fail
  refine (kT _ (HL.out.below HB3.out)).mono ?_
  rintro e w4 ⟨rfl, hb⟩
  have HB4 := Lib.hid (HB3.out.trans (hb.mono HB3.out.size))
  have HQ4 := Lib.hid (HQ3.out.below hb HQ3.out.lt)
  clear hb HB3 HQ3 z0 z1 z2 z3 z4 z5 z6 z7 z8 z9 z10 z11 z12 z13
  go_wp2_with fail
  refine (kR _ (HL.out.below HB4.out)).mono ?_
  rintro e w5 ⟨rfl, hb⟩
  have hb5 := HB4.out.trans (hb.mono HB4.out.size)
  have HB6 := Lib.hid (hb5.alloc hb5.size (.cells #[.int .u8 (k : Int), .int .u32 (a : Int), .int .u8 (K : Int), .int .i64 P, .int .u32 (R : Int), .int .u8 (B : Int), .int .i64 M, .int .i32 S, .int .i64 F, .int .i64 G, .int .u32 (s : Int), .int .i32 d, .int .u8 (ek : Int), .int .i64 m] 32))
  have HQ6 := Lib.hid ((HQ4.out.below hb HQ4.out.lt).alloc (.cells #[.int .u8 (k : Int), .int .u32 (a : Int), .int .u8 (K : Int), .int .i64 P, .int .u32 (R : Int), .int .u8 (B : Int), .int .i64 M, .int .i32 S, .int .i64 F, .int .i64 G, .int .u32 (s : Int), .int .i32 d, .int .u8 (ek : Int), .int .i64 m] 32))
  have HG6 := Lib.hid (Blk.new w5 32 #[.int .u8 (k : Int), .int .u32 (a : Int), .int .u8 (K : Int), .int .i64 P, .int .u32 (R : Int), .int .u8 (B : Int), .int .i64 M, .int .i32 S, .int .i64 F, .int .i64 G, .int .u32 (s : Int), .int .i32 d, .int .u8 (ek : Int), .int .i64 m])
  clear hb hb5 HB4 HQ4 kR
  obtain ⟨w6, hw6⟩ : ∃ W, w5.alloc (.cells #[.int .u8 (k : Int), .int .u32 (a : Int), .int .u8 (K : Int), .int .i64 P, .int .u32 (R : Int), .int .u8 (B : Int), .int .i64 M, .int .i32 S, .int .i64 F, .int .i64 G, .int .u32 (s : Int), .int .i32 d, .int .u8 (ek : Int), .int .i64 m] 32) = W := ⟨_, rfl⟩
  obtain ⟨g, hg⟩ : ∃ g, w5.heap.size = g := ⟨_, rfl⟩
  rw [hw6] at HB6 HQ6 HG6
  rw [hg] at HG6
  have HW6 := Lib.hid (And.intro hw6 hg)
  clear hw6 hg
  go_upto_region 6 with (fail)
  rw [HW6.out.1, HW6.out.2]
  have LP : ∀ W', Below w6.heap.size w6 W' → (Instr.loadAt 32 (.pointer (some ⟨p, 0, none⟩))).run Tryz.prog W' = .ok (.agg #[.int .u8 (k : Int), .int .u32 (a : Int), .int .u8 (K : Int), .int .i64 P, .int .u32 (R : Int), .int .u8 (B : Int), .int .i64 M, .int .i32 S, .int .i64 F, .int .i64 G, .int .u32 (s : Int), .int .i32 d, .int .u8 (ek : Int), .int .i64 m]) W' := fun W' hb => run_loadB (HQ6.out.below hb HQ6.out.lt) _ 0 #[.int .u8 (k : Int), .int .u32 (a : Int), .int .u8 (K : Int), .int .i64 P, .int .u32 (R : Int), .int .u8 (B : Int), .int .i64 M, .int .i32 S, .int .i64 F, .int .i64 G, .int .u32 (s : Int), .int .i32 d, .int .u8 (ek : Int), .int .i64 m] (part_of (by rfl)) rowOr
  have LG : ∀ W', Below w6.heap.size w6 W' → (Instr.loadAt 32 (.pointer (some ⟨g, 0, none⟩))).run Tryz.prog W' = .ok (.agg #[.int .u8 (k : Int), .int .u32 (a : Int), .int .u8 (K : Int), .int .i64 P, .int .u32 (R : Int), .int .u8 (B : Int), .int .i64 M, .int .i32 S, .int .i64 F, .int .i64 G, .int .u32 (s : Int), .int .i32 d, .int .u8 (ek : Int), .int .i64 m]) W' := fun W' hb => run_loadB (HG6.out.below hb HG6.out.lt) _ 0 #[.int .u8 (k : Int), .int .u32 (a : Int), .int .u8 (K : Int), .int .i64 P, .int .u32 (R : Int), .int .u8 (B : Int), .int .i64 M, .int .i32 S, .int .i64 F, .int .i64 G, .int .u32 (s : Int), .int .i32 d, .int .u8 (ek : Int), .int .i64 m] (part_of (by rfl)) rowOr
  have cT := fun W' (hb : Below w6.heap.size w6 W') => kT W' (HL.out.below (HB6.out.trans (hb.mono HB6.out.size)))
  clear kT
  refine wp_region_flow [some 22, some 23, some 24, some 25, some 26, some 27, some 28, some 29, some 30, some 31, some 32, some 33, some 34, some 35, some 36] (fun i => ([.is (.agg #[.int .u8 (k : Int), .int .u32 (a : Int), .int .u8 (K : Int), .int .i64 P, .int .u32 (R : Int), .int .u8 (B : Int), .int .i64 M, .int .i32 S, .int .i64 F, .int .i64 G, .int .u32 (s : Int), .int .i32 d, .int .u8 (ek : Int), .int .i64 m]), .is (.string tx), .is (.agg #[.int .u8 (k : Int), .int .u32 (a : Int), .int .u8 (K : Int), .int .i64 P, .int .u32 (R : Int), .int .u8 (B : Int), .int .i64 M, .int .i32 S, .int .i64 F, .int .i64 G, .int .u32 (s : Int), .int .i32 d, .int .u8 (ek : Int), .int .i64 m]), .is (.agg #[.int .u8 (k : Int), .int .u32 (a : Int), .int .u8 (K : Int), .int .i64 P, .int .u32 (R : Int), .int .u8 (B : Int), .int .i64 M, .int .i64 S, .int .i64 F, .int .i64 G, .int .u32 (s : Int), .int .i64 d, .int .u8 (ek : Int), .int .i64 m]), .is (.string tx), .is (.bool false), .is (.bool false), .is (.nilIface), .is (.bool false), .is (.bool false), .is (.bool false), .is (.agg #[.int .u8 (k : Int), .int .u32 (a : Int), .int .u8 (K : Int), .int .i64 P, .int .u32 (R : Int), .int .u8 (B : Int), .int .i64 M, .int .i32 S, .int .i64 F, .int .i64 G, .int .u32 (s : Int), .int .i32 d, .int .u8 (ek : Int), .int .i64 m]), .is (.agg #[.int .u8 (k : Int), .int .u32 (a : Int), .int .u8 (K : Int), .int .i64 P, .int .u32 (R : Int), .int .u8 (B : Int), .int .i64 M, .int .i32 S, .int .i64 F, .int .i64 G, .int .u32 (s : Int), .int .i32 d, .int .u8 (ek : Int), .int .i64 m]), .is (.bool false), .is (.bool false)] : List Flw).getD i .any) (by kernel_rfl) (by kernel_rfl) rfl ?_ ?_
  · skip
    refine ⟨step_free rfl (fun aF wF hs hb => ?_), ?_⟩
    · obtain ⟨x0, -⟩ := hs
      have e0 : aF.eval (.tmp 2) = .pointer (some ⟨p, 0, none⟩) := x0
      exact opC_load e0 (LP wF hb) ⟨rfl, below_same wF⟩
    refine ⟨step_free rfl (fun aF wF hs hb => ?_), ?_⟩
    · obtain ⟨x0, -⟩ := hs
      have e0 : aF.eval (.tmp 22) = .agg #[.int .u8 (k : Int), .int .u32 (a : Int), .int .u8 (K : Int), .int .i64 P, .int .u32 (R : Int), .int .u8 (B : Int), .int .i64 M, .int .i32 S, .int .i64 F, .int .i64 G, .int .u32 (s : Int), .int .i32 d, .int .u8 (ek : Int), .int .i64 m] := x0
      exact opC_call (args := #[.agg #[.int .u8 (k : Int), .int .u32 (a : Int), .int .u8 (K : Int), .int .i64 P, .int .u32 (R : Int), .int .u8 (B : Int), .int .i64 M, .int .i32 S, .int .i64 F, .int .i64 G, .int .u32 (s : Int), .int .i32 d, .int .u8 (ek : Int), .int .i64 m]]) (enters9 Tryz.func20 (by kernel_rfl) rfl) (by simp [e0]) (cT wF hb) (fun _ h => ⟨rfl, h⟩)
    refine ⟨step_free rfl (fun aF wF hs hb => ?_), ?_⟩
    · obtain ⟨x0, -⟩ := hs
      have e0 : aF.eval (.tmp 2) = .pointer (some ⟨p, 0, none⟩) := x0
      exact opC_load e0 (LP wF hb) ⟨rfl, below_same wF⟩
    refine ⟨step_free rfl (fun aF wF hs hb => ?_), ?_⟩
    · obtain ⟨x0, -⟩ := hs
      have e0 : aF.eval (.tmp 24) = .agg #[.int .u8 (k : Int), .int .u32 (a : Int), .int .u8 (K : Int), .int .i64 P, .int .u32 (R : Int), .int .u8 (B : Int), .int .i64 M, .int .i32 S, .int .i64 F, .int .i64 G, .int .u32 (s : Int), .int .i32 d, .int .u8 (ek : Int), .int .i64 m] := x0
      exact opC_call (args := #[.agg #[.int .u8 (k : Int), .int .u32 (a : Int), .int .u8 (K : Int), .int .i64 P, .int .u32 (R : Int), .int .u8 (B : Int), .int .i64 M, .int .i32 S, .int .i64 F, .int .i64 G, .int .u32 (s : Int), .int .i32 d, .int .u8 (ek : Int), .int .i64 m]]) (enters9 Tryz.func11 (by kernel_rfl) rfl) (by simp [e0]) (kO wF) (fun _ h => ⟨rfl, h⟩)
    refine ⟨step_free rfl (fun aF wF hs hb => ?_), ?_⟩
    · obtain ⟨x0, -⟩ := hs
      have e0 : aF.eval (.tmp 25) = .agg #[.int .u8 (k : Int), .int .u32 (a : Int), .int .u8 (K : Int), .int .i64 P, .int .u32 (R : Int), .int .u8 (B : Int), .int .i64 M, .int .i64 S, .int .i64 F, .int .i64 G, .int .u32 (s : Int), .int .i64 d, .int .u8 (ek : Int), .int .i64 m] := x0
      exact opC_call (args := #[.agg #[.int .u8 (k : Int), .int .u32 (a : Int), .int .u8 (K : Int), .int .i64 P, .int .u32 (R : Int), .int .u8 (B : Int), .int .i64 M, .int .i64 S, .int .i64 F, .int .i64 G, .int .u32 (s : Int), .int .i64 d, .int .u8 (ek : Int), .int .i64 m]]) (enters9 Tryz.func21 (by kernel_rfl) rfl) (by simp [e0]) (kX wF) (fun _ h => ⟨rfl, h⟩)
    refine ⟨step_free rfl (fun aF wF hs hb => ?_), ?_⟩
    · obtain ⟨x0, x1, -⟩ := hs
      have e0 : aF.eval (.tmp 23) = .string tx := x0
      have e1 : aF.eval (.tmp 26) = .string tx := x1
      refine opC_value (v := .bool false) ?_ ⟨rfl, below_same wF⟩
      simp [execOp, go_sem, ev_of e0, ev_of e1]
    refine ⟨step_free rfl (fun aF wF hs hb => ?_), ?_⟩
    · obtain ⟨x0, -⟩ := hs
      have e0 : aF.eval (.tmp 27) = .bool false := x0
      exact opC_move e0 ⟨rfl, below_same wF⟩
    refine ⟨step_yes 6 28 rfl rfl (fun _ _ h => h) (fun aF wF hs hb => ?_), ?_⟩
    · obtain ⟨x0, -⟩ := hs
      have e0 : aF.eval (.tmp 6) = .nilIface := x0
      exact opC_move e0 ⟨rfl, below_same wF⟩
    refine ⟨step_yes 6 28 rfl rfl (fun _ _ h => h) (fun aF wF hs hb => ?_), ?_⟩
    · obtain ⟨x0, -⟩ := hs
      have e0 : aF.eval (.tmp 29) = .nilIface := x0
      refine opC_value (v := .bool false) ?_ ⟨rfl, below_same wF⟩
      simp [execOp, go_sem, ev_of e0]
    refine ⟨step_free rfl (fun aF wF hs hb => ?_), ?_⟩
    · obtain ⟨x0, x1, -⟩ := hs
      have e0 : aF.eval (.tmp 28) = .bool false := x0
      have e1 : aF.eval (.tmp 30) = .bool false := x1
      refine opC_value (v := .bool false) ?_ ⟨rfl, below_same wF⟩
      have t0 := ev_of e0
      have t1 := ev_of e1
      simp [execOp, go_sem, t0, t1]
    refine ⟨step_free rfl (fun aF wF hs hb => ?_), ?_⟩
    · obtain ⟨x0, -⟩ := hs
      have e0 : aF.eval (.tmp 31) = .bool false := x0
      exact opC_move e0 ⟨rfl, below_same wF⟩
    refine ⟨step_yes 10 32 rfl rfl (fun _ _ h => h) (fun aF wF hs hb => ?_), ?_⟩
    · obtain ⟨x0, -⟩ := hs
      have e0 : aF.eval (.tmp 5) = .pointer (some ⟨g, 0, none⟩) := x0
      exact opC_load e0 (LG wF hb) ⟨rfl, below_same wF⟩
    refine ⟨step_yes 10 32 rfl rfl (fun _ _ h => h) (fun aF wF hs hb => ?_), ?_⟩
    · obtain ⟨x0, -⟩ := hs
      have e0 : aF.eval (.tmp 2) = .pointer (some ⟨p, 0, none⟩) := x0
      exact opC_load e0 (LP wF hb) ⟨rfl, below_same wF⟩
    refine ⟨step_yes 10 32 rfl rfl (fun _ _ h => h) (fun aF wF hs hb => ?_), ?_⟩
    · obtain ⟨x0, x1, -⟩ := hs
      have e0 : aF.eval (.tmp 33) = .agg #[.int .u8 (k : Int), .int .u32 (a : Int), .int .u8 (K : Int), .int .i64 P, .int .u32 (R : Int), .int .u8 (B : Int), .int .i64 M, .int .i32 S, .int .i64 F, .int .i64 G, .int .u32 (s : Int), .int .i32 d, .int .u8 (ek : Int), .int .i64 m] := x0
      have e1 : aF.eval (.tmp 34) = .agg #[.int .u8 (k : Int), .int .u32 (a : Int), .int .u8 (K : Int), .int .i64 P, .int .u32 (R : Int), .int .u8 (B : Int), .int .i64 M, .int .i32 S, .int .i64 F, .int .i64 G, .int .u32 (s : Int), .int .i32 d, .int .u8 (ek : Int), .int .i64 m] := x1
      refine opC_value (v := .bool false) ?_ ⟨rfl, below_same wF⟩
      simp [execOp, go_sem, ev_of e0, ev_of e1, kE]
    refine ⟨step_free rfl (fun aF wF hs hb => ?_), ?_⟩
    · obtain ⟨x0, x1, -⟩ := hs
      have e0 : aF.eval (.tmp 32) = .bool false := x0
      have e1 : aF.eval (.tmp 35) = .bool false := x1
      refine opC_value (v := .bool false) ?_ ⟨rfl, below_same wF⟩
      have t0 := ev_of e0
      have t1 := ev_of e1
      simp [execOp, go_sem, t0, t1]
    exact trivial
  intro f w7 hf hb7
  have h9 : f 14 = .bool false := hf 14 36 rfl
  have HB7 := Lib.hid (HB6.out.trans (hb7.mono HB6.out.size))
  simp only [putF, Act.put, List.setIfInBounds_toArray, List.set_cons_zero, List.set_cons_succ]
  rw [h9]
  clear hf h9 hb7 LP LG cT kO kX kE HB6 HQ6 HG6 HW6
  have HRd := Lib.hid (Read_any9 y HY.out w7 (HL.out.below HB7.out))
  go_wp2_with fail
  refine HRd.out.mono ?_
  rintro e v1 ⟨hh, hb⟩
  have HC1 := Lib.hid (HB7.out.trans (hb.mono HB7.out.size))
  clear hb HRd HB7
  rcases hh with ⟨o2, hA2, hR2, hT2, rfl⟩ | ⟨-, rfl⟩
  · have hI2 := any_in hA2 hR2
    have cT2 := fun W h => OText_yes hI2 hR2 W h
    have cO2 := fun W => own20 o2 hI2 W
    have cX2 := fun W => RText20 hI2 hR2 W
    rw [hT2] at cT2 cX2
    obtain ⟨k2, a2, ⟨K2, P2, R2, B2, M2, S2, F2, G2⟩, s2, d2, ek2, m2⟩ := o2
    change ∀ W, TLd W → Calls Tryz.prog _ #[.agg #[.int .u8 (k2 : Int), .int .u32 (a2 : Int), .int .u8 (K2 : Int), .int .i64 P2, .int .u32 (R2 : Int), .int .u8 (B2 : Int), .int .i64 M2, .int .i32 S2, .int .i64 F2, .int .i64 G2, .int .u32 (s2 : Int), .int .i32 d2, .int .u8 (ek2 : Int), .int .i64 m2]] W _ at cT2
    change ∀ W, Calls Tryz.prog _ #[.agg #[.int .u8 (k2 : Int), .int .u32 (a2 : Int), .int .u8 (K2 : Int), .int .i64 P2, .int .u32 (R2 : Int), .int .u8 (B2 : Int), .int .i64 M2, .int .i32 S2, .int .i64 F2, .int .i64 G2, .int .u32 (s2 : Int), .int .i32 d2, .int .u8 (ek2 : Int), .int .i64 m2]] W (Ret (.agg #[.int .u8 (k2 : Int), .int .u32 (a2 : Int), .int .u8 (K2 : Int), .int .i64 P2, .int .u32 (R2 : Int), .int .u8 (B2 : Int), .int .i64 M2, .int .i64 S2, .int .i64 F2, .int .i64 G2, .int .u32 (s2 : Int), .int .i64 d2, .int .u8 (ek2 : Int), .int .i64 m2]) W) at cO2
    change ∀ W, Calls Tryz.prog _ #[.agg #[.int .u8 (k2 : Int), .int .u32 (a2 : Int), .int .u8 (K2 : Int), .int .i64 P2, .int .u32 (R2 : Int), .int .u8 (B2 : Int), .int .i64 M2, .int .i64 S2, .int .i64 F2, .int .i64 G2, .int .u32 (s2 : Int), .int .i64 d2, .int .u8 (ek2 : Int), .int .i64 m2]] W _ at cX2
    clear hA2 hR2 hT2 hI2
    have HC2 := Lib.hid (HC1.out.alloc HC1.out.size (.cells #[.int .u8 (k2 : Int), .int .u32 (a2 : Int), .int .u8 (K2 : Int), .int .i64 P2, .int .u32 (R2 : Int), .int .u8 (B2 : Int), .int .i64 M2, .int .i32 S2, .int .i64 F2, .int .i64 G2, .int .u32 (s2 : Int), .int .i32 d2, .int .u8 (ek2 : Int), .int .i64 m2] 32))
    have HG2 := Lib.hid (Blk.new v1 32 #[.int .u8 (k2 : Int), .int .u32 (a2 : Int), .int .u8 (K2 : Int), .int .i64 P2, .int .u32 (R2 : Int), .int .u8 (B2 : Int), .int .i64 M2, .int .i32 S2, .int .i64 F2, .int .i64 G2, .int .u32 (s2 : Int), .int .i32 d2, .int .u8 (ek2 : Int), .int .i64 m2])
    have HL2 := Lib.hid (HL.out.below HC2.out)
    unfold Ord.v Ord.cs
    dsimp only
    go_wp2_with fail
    refine (cT2 _ HL2.out).mono ?_
    rintro e v2 ⟨rfl, hb⟩
    have HC3 := Lib.hid (HC2.out.trans (hb.mono HC2.out.size))
    have HG3 := Lib.hid (HG2.out.below hb HG2.out.lt)
    clear hb HC2 HG2 HL2 cT2
    obtain ⟨z0, z1, z2, z3, z4, z5, z6, z7, z8, z9, z10, z11, z12, z13⟩ := blk14 HG3.out
    have hyy : (y.toList == y.toList) = true := by simp
    go_wp2_with fail
    refine (cO2 _).mono ?_
    rintro e v3 ⟨rfl, hb⟩
    have HC4 := Lib.hid (HC3.out.trans (hb.mono HC3.out.size))
    clear hb HC3 HG3 cO2 z0 z1 z2 z3 z4 z5 z6 z7 z8 z9 z10 z11 z12 z13
    go_wp2_with fail
    refine (cX2 _).mono ?_
    rintro e v4 ⟨rfl, hb⟩
    have HC5 := Lib.hid (HC4.out.trans (hb.mono HC4.out.size))
    clear hb HC4 cX2
    go_wp2_with fail
    go_ret
    exact ⟨by first | rfl | simp, HC5.out⟩
  · have HC2 := Lib.hid (HC1.out.alloc HC1.out.size (.cells #[.int .u8 0, .int .u32 0, .int .u8 0, .int .i64 0, .int .u32 0, .int .u8 0, .int .i64 0, .int .i32 0, .int .i64 0, .int .i64 0, .int .u32 0, .int .i32 0, .int .u8 0, .int .i64 0] 32))
    have HG2 := Lib.hid (Blk.new v1 32 #[.int .u8 0, .int .u32 0, .int .u8 0, .int .i64 0, .int .u32 0, .int .u8 0, .int .i64 0, .int .i32 0, .int .i64 0, .int .i64 0, .int .u32 0, .int .i32 0, .int .u8 0, .int .i64 0])
    have cK := Code_errno 15 (v1.alloc (.cells #[.int .u8 0, .int .u32 0, .int .u8 0, .int .i64 0, .int .u32 0, .int .u8 0, .int .i64 0, .int .i32 0, .int .i64 0, .int .i64 0, .int .u32 0, .int .i32 0, .int .u8 0, .int .i64 0] 32)) (HLe.out.below HC2.out)
    unfold zeroO
    go_wp2_with fail
    refine cK.mono ?_
    rintro e v2 ⟨rfl, hb⟩
    have HC3 := Lib.hid (HC2.out.trans (hb.mono HC2.out.size))
    have HG3 := Lib.hid (HG2.out.below hb HG2.out.lt)
    clear hb HC2 HG2 cK
    obtain ⟨z0, z1, z2, z3, z4, z5, z6, z7, z8, z9, z10, z11, z12, z13⟩ := blk14 HG3.out
    go_wp2_with fail
    go_ret
    exact ⟨by first | rfl | simp, HC3.out⟩
theorem OReads_any (o : Ord) (x : ByteArray) (hi : o.In) (hx : x.size ≤ maxLen) (w : World) (hl : TLd w) (hle : Laid w) : Calls Tryz.prog 4 #[o.v, .string x] w (Ret (.bool true) w) := by
  have kO := fun W => own20 o hi W
  by_cases ho : o.Right
  · have kQ := fun W => RR_any o hi true (by simp [ho]) W
    have kT := fun W h => OText_yes hi ho W h
    have kR := fun W h => Read_own o hi ho W h
    have kX := fun W => RText20 hi ho W
    have kE : ∀ W, (Op.equalIn 10000 32 o.v o.v).run Tryz.prog W = .ok true W := fun W => by
      haveI := Classical.propDecidable (o = o)
      rw [eqO o o W, decide_eq_true rfl]
    generalize o.text = tx at *
    obtain ⟨k, a, ⟨K, P, R, B, M, S, F, G⟩, s, d, ek, m⟩ := o
    exact OReads_1 hx kO kQ kT kR kX kE w hl hle
  · have kQ := fun W => RR_any o hi false (by simp [ho]) W
    have kT := fun W => OText_no ho W
    obtain ⟨k, a, ⟨K, P, R, B, M, S, F, G⟩, s, d, ek, m⟩ := o
    exact OReads_0 hx kO kQ kT w hl hle
end Go.Proofs.YtjlajnackecfgaaGreatDoor
