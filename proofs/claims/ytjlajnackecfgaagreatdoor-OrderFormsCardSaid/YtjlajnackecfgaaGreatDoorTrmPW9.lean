/-
terms.Parse: what is read of any bytes. Conditions: the bytes are there.
-/
import Derived.Test.YtjlajnackecfgaaGreatDoorTrmOW9
namespace Go.Proofs.YtjlajnackecfgaaGreatDoor
open Go.ChangeShapes Go.WideShapes Go.ChangeAt Go.RowKit

theorem Ln.setT {w : World} {b g q : Nat} {st : Option (List UInt8)} (h : Ln w b g st) (h1 : b ≠ q) (h3 : g ≠ q) (i : Nat) (u : Value) : Ln (w.setCell ⟨q, i, none⟩ u) b g st := h.past ((Far.refl w q none).set i u) h1 (by simp) h3 (by simp)
def prTB (q : List UInt8) : Prop := tm8 (some q) = some [] ∧ (tmR (some q)).Right
def zeroT8 : Array Value := #[.int .u8 0, .int .i64 0, .int .u32 0, .int .u8 0, .int .i64 0, .int .i32 0, .int .i64 0, .int .i64 0]
def TPaPost (q : List UInt8) (w : World) (e : Ending) (w' : World) : Prop := (prTB q → e = .returned (.tuple #[(tmR (some q)).v, .nilIface])) ∧ (¬ prTB q → e = .returned (.tuple #[.agg zeroT8, .iface 54 (.int .i64 2)])) ∧ Below w.heap.size w w'
theorem below_set8 {w w' : World} {B g : Nat} (h : Below B w w') (hg : B ≤ g) (a b c d e f i j : Value) : Below B w ((((((((w'.setCell ⟨g, 0, none⟩ a).setCell ⟨g, 1, none⟩ b).setCell ⟨g, 2, none⟩ c).setCell ⟨g, 3, none⟩ d).setCell ⟨g, 4, none⟩ e).setCell ⟨g, 5, none⟩ f).setCell ⟨g, 6, none⟩ i).setCell ⟨g, 7, none⟩ j) :=
  (((((((h.setCell hg _).setCell hg _).setCell hg _).setCell hg _).setCell hg _).setCell hg _).setCell hg _).setCell hg _
theorem set8c {w : World} {g : Nat} {t : TypeId} {a0 a1 a2 a3 a4 a5 a6 a7 : Value} (h : Blk w g t #[a0, a1, a2, a3, a4, a5, a6, a7]) (a b c d e f i j : Value) : Blk ((((((((w.setCell ⟨g, 0, none⟩ a).setCell ⟨g, 1, none⟩ b).setCell ⟨g, 2, none⟩ c).setCell ⟨g, 3, none⟩ d).setCell ⟨g, 4, none⟩ e).setCell ⟨g, 5, none⟩ f).setCell ⟨g, 6, none⟩ i).setCell ⟨g, 7, none⟩ j) g t #[a, b, c, d, e, f, i, j] := by
  have h9 := (((((((h.set_ 0 a).set_ 1 b).set_ 2 c).set_ 3 d).set_ 4 e).set_ 5 f).set_ 6 i).set_ 7 j
  simpa using h9
theorem fin_tparse {w W : World} {T : Array Value} {q : List UInt8} {e : Value} {g : Nat} {a0 a1 a2 a3 a4 a5 a6 a7 : Value} (hB : Below w.heap.size w W) (hQ : Blk W g 28 #[a0, a1, a2, a3, a4, a5, a6, a7]) (h2 : T[2]? = some (.pointer (some ⟨g, 0, none⟩))) (h3 : T[3]? = some e)
    (hp : (prTB q → Value.tuple #[.agg #[a0, a1, a2, a3, a4, a5, a6, a7], e] = .tuple #[(tmR (some q)).v, .nilIface]) ∧ (¬ prTB q → Value.tuple #[.agg #[a0, a1, a2, a3, a4, a5, a6, a7], e] = .tuple #[.agg zeroT8, .iface 54 (.int .i64 2)])) :
    bodyPost Tryz.prog Tryz.f33 (TPaPost q w) Exit.ret { tmps := T, defers := [] } W := by
  obtain ⟨x0, x1, x2, x3, x4, x5, x6, x7⟩ := blk8 hQ
  refine bodyPost_ret (v := .tuple #[.agg #[a0, a1, a2, a3, a4, a5, a6, a7], e]) ?_ rfl ⟨fun h => ?_, fun h => ?_, hB⟩
  · simp [results, Tryz.results33, go_sem, h2, h3, x0, x1, x2, x3, x4, x5, x6, x7, Result.andThen]
  · rw [hp.1 h]
  · rw [hp.2 h]
set_option maxRecDepth 100000 in
set_option maxHeartbeats 4000000 in
theorem TParse_any (A : Option Addr) (n c Bd : Nat) (q : List UInt8) (w : World) (hR : Rd w Bd A q) (hn : q.length = n) (hm : n ≤ 1000000) (hB : Bd ≤ w.heap.size) (hA : A = none → n = 0 ∧ c = 0) :
    Calls Tryz.prog 33 #[.slice A n c] w (TPaPost q w) := by
  obtain ⟨g0, hg0⟩ : ∃ g, w.heap.size = g := ⟨_, rfl⟩
  obtain ⟨w1, hw1⟩ : ∃ W, w.alloc (.cells #[.int .u8 0, .int .i64 0, .int .u32 0, .int .u8 0, .int .i64 0, .int .i32 0, .int .i64 0, .int .i64 0] 28) = W := ⟨_, rfl⟩
  have hq0 := Blk.new w 28 #[.int .u8 0, .int .i64 0, .int .u32 0, .int .u8 0, .int .i64 0, .int .i32 0, .int .i64 0, .int .i64 0]
  have hb0 := b_alloc w (.cells #[.int .u8 0, .int .i64 0, .int .u32 0, .int .u8 0, .int .i64 0, .int .i32 0, .int .i64 0, .int .i64 0] 28)
  have hR1 := hR.below (hb0.mono hB)
  rw [hw1] at hq0 hb0 hR1
  have hL := Look_any A n c Bd q w1 hR1 hn hm (Nat.le_trans hB hb0.size) hA
  rw [hg0] at hq0
  have HW := Lib.hid (And.intro hw1 hg0)
  have HQ0 := Lib.hid hq0
  have HB0 := Lib.hid hb0
  have HL := Lib.hid hL
  have HG0 : Hid (w.heap.size ≤ g0) := Lib.hid (by omega)
  clear hw1 hg0 hq0 hb0 hR1 hL hR hn hA
  go_enter Tryz.func33, Tryz.ntmps33
  go_upto_region 1 with (fail)
  rw [HW.out.1, HW.out.2]
  go_wp2_with fail
  refine HL.out.mono ?_
  rintro e w2 ⟨b, g, rfl, hb, hg, hgs, hln, hbl⟩
  have HQ2 := Lib.hid ((HQ0.out.below hbl HQ0.out.lt).alloc (.cells #[.int .u8 0, .int .i64 0, .int .u32 0, .int .u8 0, .int .i64 0, .int .i32 0, .int .i64 0, .int .i64 0] 28))
  have hb2 := HB0.out.trans (hbl.mono HB0.out.size)
  have HB2 := Lib.hid (hb2.alloc hb2.size (.cells #[.int .u8 0, .int .i64 0, .int .u32 0, .int .u8 0, .int .i64 0, .int .i32 0, .int .i64 0, .int .i64 0] 28))
  have hblt := hln.lt
  have hln2 := hln.below (b_alloc w2 (.cells #[.int .u8 0, .int .i64 0, .int .u32 0, .int .u8 0, .int .i64 0, .int .i32 0, .int .i64 0, .int .i64 0] 28))
  have hk2 := Blk.new w2 28 #[.int .u8 0, .int .i64 0, .int .u32 0, .int .u8 0, .int .i64 0, .int .i32 0, .int .i64 0, .int .i64 0]
  obtain ⟨w3, hw3⟩ : ∃ W, w2.alloc (.cells #[.int .u8 0, .int .i64 0, .int .u32 0, .int .u8 0, .int .i64 0, .int .i32 0, .int .i64 0, .int .i64 0] 28) = W := ⟨_, rfl⟩
  obtain ⟨G, hG⟩ : ∃ g, w2.heap.size = g := ⟨_, rfl⟩
  have hg0G : g0 < w1.heap.size := HQ0.out.lt
  rw [hw3] at HQ2 HB2 hln2 hk2
  rw [hG] at hk2 hblt hgs
  have HBG : Hid (w.heap.size ≤ b ∧ b < G ∧ g < G ∧ g0 < b ∧ g0 < G ∧ w.heap.size ≤ G) := Lib.hid ⟨Nat.le_trans HB0.out.size hb, hblt, hgs, by omega, by omega, by have := HB0.out.size; omega⟩
  have HW3 := Lib.hid (And.intro hw3 hG)
  have HLs := Lib.hid hln2
  have HKs := Lib.hid hk2
  clear hw3 hG hb hg hgs hln hbl hb2 hblt hln2 hk2 hg0G HL HQ0 HB0 HW
  go_upto_region 3 with (fail)
  rw [HW3.out.1, HW3.out.2]
  obtain ⟨x0, hx0⟩ : ∃ x, uV 255 (some q) = x := ⟨_, rfl⟩
  have b0 := uV_le 255 (some q)
  rw [hx0] at b0
  have HX0 := Lib.hid hx0
  have HY0 := Lib.hid b0
  clear hx0 b0
  obtain ⟨x1, hx1⟩ : ∃ x, uV 1000000000000 (tm1 (some q)) = x := ⟨_, rfl⟩
  have b1 := uV_le 1000000000000 (tm1 (some q))
  rw [hx1] at b1
  have HX1 := Lib.hid hx1
  have HY1 := Lib.hid b1
  clear hx1 b1
  obtain ⟨x2, hx2⟩ : ∃ x, uV 1000000 (tm2 (some q)) = x := ⟨_, rfl⟩
  have b2 := uV_le 1000000 (tm2 (some q))
  rw [hx2] at b2
  have HX2 := Lib.hid hx2
  have HY2 := Lib.hid b2
  clear hx2 b2
  obtain ⟨x3, hx3⟩ : ∃ x, uV 255 (tm3 (some q)) = x := ⟨_, rfl⟩
  have b3 := uV_le 255 (tm3 (some q))
  rw [hx3] at b3
  have HX3 := Lib.hid hx3
  have HY3 := Lib.hid b3
  clear hx3 b3
  obtain ⟨x4, hx4⟩ : ∃ x, uV 480 (tm4 (some q)) = x := ⟨_, rfl⟩
  have b4 := uV_le 480 (tm4 (some q))
  rw [hx4] at b4
  have HX4 := Lib.hid hx4
  have HY4 := Lib.hid b4
  clear hx4 b4
  obtain ⟨x5, hx5⟩ : ∃ x, uV 3600000 (tm5 (some q)) = x := ⟨_, rfl⟩
  have b5 := uV_le 3600000 (tm5 (some q))
  rw [hx5] at b5
  have HX5 := Lib.hid hx5
  have HY5 := Lib.hid b5
  clear hx5 b5
  obtain ⟨x6, hx6⟩ : ∃ x, uV 1000000000 (tm6 (some q)) = x := ⟨_, rfl⟩
  have b6 := uV_le 1000000000 (tm6 (some q))
  rw [hx6] at b6
  have HX6 := Lib.hid hx6
  have HY6 := Lib.hid b6
  clear hx6 b6
  obtain ⟨x7, hx7⟩ : ∃ x, uV 60 (tm7 (some q)) = x := ⟨_, rfl⟩
  have b7 := uV_le 60 (tm7 (some q))
  rw [hx7] at b7
  have HX7 := Lib.hid hx7
  have HY7 := Lib.hid b7
  clear hx7 b7
  have HCU0 := Lib.hid (LUint_any b g 255 (by decide) (some q) _ HLs.out)
  go_wp2_with fail
  refine HCU0.out.mono ?_
  rintro e w4 ⟨rfl, hl4, hf4⟩
  rw [HX0.out]
  have HL4 := Lib.hid hl4
  have ha4 := HQ2.out
  have HA4 := Lib.hid (ha4.past hf4 (by have := HBG.out.2.2.2.1; omega) (by simp))
  have hb4 := HB2.out
  have HB4 := Lib.hid (hf4.to_below hb4 hb4.size HBG.out.1 (by simp))
  have hk4 := (HKs.out).past hf4 (by have := HBG.out.2.1; omega) (by simp)
  try simp only [List.setIfInBounds_toArray, List.set_cons_zero, List.set_cons_succ] at hk4
  have HK4 := Lib.hid hk4
  clear hl4 hf4 ha4 hb4 hk4 HCU0 HLs HQ2 HB2 HKs
  have c0 := HK4.out.cell 0
  simp at c0
  have f0 := HK4.out.frozen 0
  have lz := HK4.out.lt
  have yb := HY0.out
  have i0 : IntKind.u8.wrap (x0 : Int) = (x0 : Int) := by rw [IntKind.wrap_u8]; omega
  go_wp2_with fail
  have HCU1 := Lib.hid (LUint_any b g 1000000000000 (by decide) (tm1 (some q)) _ (HL4.out.setT (q := G) (by have := HBG.out.2.1; omega) (by have := HBG.out.2.2.1; omega) 0 (.int .u8 (x0 : Int))))
  refine HCU1.out.mono ?_
  rintro e w5 ⟨rfl, hl5, hf5⟩
  rw [HX1.out]
  have HL5 := Lib.hid hl5
  have ha5 := (HA4.out.far (p := ⟨G, 0, none⟩) (by show g0 ≠ G; have := HBG.out.2.2.2.2.1; omega) (.int .u8 (x0 : Int)))
  have HA5 := Lib.hid (ha5.past hf5 (by have := HBG.out.2.2.2.1; omega) (by simp))
  have hb5 := (Below.setCell HB4.out (p := ⟨G, 0, none⟩) (by have := HBG.out.2.2.2.2.2; exact this) (.int .u8 (x0 : Int)))
  have HB5 := Lib.hid (hf5.to_below hb5 hb5.size HBG.out.1 (by simp))
  have hk5 := ((HK4.out.set_ 0 (.int .u8 (x0 : Int)))).past hf5 (by have := HBG.out.2.1; omega) (by simp)
  try simp only [List.setIfInBounds_toArray, List.set_cons_zero] at hk5
  have HK5 := Lib.hid hk5
  clear hl5 hf5 ha5 hb5 hk5 HCU1 HL4 HA4 HB4 HK4 c0 f0 lz yb i0
  have c1 := HK5.out.cell 1
  simp at c1
  have f1 := HK5.out.frozen 1
  have lz := HK5.out.lt
  have yb := HY1.out
  have i1 : IntKind.i64.wrap (x1 : Int) = (x1 : Int) := by rw [IntKind.wrap_i64]; omega
  go_wp2_with fail
  have HCU2 := Lib.hid (LUint_any b g 1000000 (by decide) (tm2 (some q)) _ (HL5.out.setT (q := G) (by have := HBG.out.2.1; omega) (by have := HBG.out.2.2.1; omega) 1 (.int .i64 (x1 : Int))))
  refine HCU2.out.mono ?_
  rintro e w6 ⟨rfl, hl6, hf6⟩
  rw [HX2.out]
  have HL6 := Lib.hid hl6
  have ha6 := (HA5.out.far (p := ⟨G, 1, none⟩) (by show g0 ≠ G; have := HBG.out.2.2.2.2.1; omega) (.int .i64 (x1 : Int)))
  have HA6 := Lib.hid (ha6.past hf6 (by have := HBG.out.2.2.2.1; omega) (by simp))
  have hb6 := (Below.setCell HB5.out (p := ⟨G, 1, none⟩) (by have := HBG.out.2.2.2.2.2; exact this) (.int .i64 (x1 : Int)))
  have HB6 := Lib.hid (hf6.to_below hb6 hb6.size HBG.out.1 (by simp))
  have hk6 := ((HK5.out.set_ 1 (.int .i64 (x1 : Int)))).past hf6 (by have := HBG.out.2.1; omega) (by simp)
  try simp only [List.setIfInBounds_toArray, List.set_cons_zero, List.set_cons_succ] at hk6
  have HK6 := Lib.hid hk6
  clear hl6 hf6 ha6 hb6 hk6 HCU2 HL5 HA5 HB5 HK5 c1 f1 lz yb i1
  have c2 := HK6.out.cell 2
  simp at c2
  have f2 := HK6.out.frozen 2
  have lz := HK6.out.lt
  have yb := HY2.out
  have i2 : IntKind.u32.wrap (x2 : Int) = (x2 : Int) := by rw [IntKind.wrap_u32]; omega
  go_wp2_with fail
  have HCU3 := Lib.hid (LUint_any b g 255 (by decide) (tm3 (some q)) _ (HL6.out.setT (q := G) (by have := HBG.out.2.1; omega) (by have := HBG.out.2.2.1; omega) 2 (.int .u32 (x2 : Int))))
  refine HCU3.out.mono ?_
  rintro e w7 ⟨rfl, hl7, hf7⟩
  rw [HX3.out]
  have HL7 := Lib.hid hl7
  have ha7 := (HA6.out.far (p := ⟨G, 2, none⟩) (by show g0 ≠ G; have := HBG.out.2.2.2.2.1; omega) (.int .u32 (x2 : Int)))
  have HA7 := Lib.hid (ha7.past hf7 (by have := HBG.out.2.2.2.1; omega) (by simp))
  have hb7 := (Below.setCell HB6.out (p := ⟨G, 2, none⟩) (by have := HBG.out.2.2.2.2.2; exact this) (.int .u32 (x2 : Int)))
  have HB7 := Lib.hid (hf7.to_below hb7 hb7.size HBG.out.1 (by simp))
  have hk7 := ((HK6.out.set_ 2 (.int .u32 (x2 : Int)))).past hf7 (by have := HBG.out.2.1; omega) (by simp)
  try simp only [List.setIfInBounds_toArray, List.set_cons_zero, List.set_cons_succ] at hk7
  have HK7 := Lib.hid hk7
  clear hl7 hf7 ha7 hb7 hk7 HCU3 HL6 HA6 HB6 HK6 c2 f2 lz yb i2
  have c3 := HK7.out.cell 3
  simp at c3
  have f3 := HK7.out.frozen 3
  have lz := HK7.out.lt
  have yb := HY3.out
  have i3 : IntKind.u8.wrap (x3 : Int) = (x3 : Int) := by rw [IntKind.wrap_u8]; omega
  go_wp2_with fail
  have HCU4 := Lib.hid (LUint_any b g 480 (by decide) (tm4 (some q)) _ (HL7.out.setT (q := G) (by have := HBG.out.2.1; omega) (by have := HBG.out.2.2.1; omega) 3 (.int .u8 (x3 : Int))))
  refine HCU4.out.mono ?_
  rintro e w8 ⟨rfl, hl8, hf8⟩
  rw [HX4.out]
  have HL8 := Lib.hid hl8
  have ha8 := (HA7.out.far (p := ⟨G, 3, none⟩) (by show g0 ≠ G; have := HBG.out.2.2.2.2.1; omega) (.int .u8 (x3 : Int)))
  have HA8 := Lib.hid (ha8.past hf8 (by have := HBG.out.2.2.2.1; omega) (by simp))
  have hb8 := (Below.setCell HB7.out (p := ⟨G, 3, none⟩) (by have := HBG.out.2.2.2.2.2; exact this) (.int .u8 (x3 : Int)))
  have HB8 := Lib.hid (hf8.to_below hb8 hb8.size HBG.out.1 (by simp))
  have hk8 := ((HK7.out.set_ 3 (.int .u8 (x3 : Int)))).past hf8 (by have := HBG.out.2.1; omega) (by simp)
  try simp only [List.setIfInBounds_toArray, List.set_cons_zero, List.set_cons_succ] at hk8
  have HK8 := Lib.hid hk8
  clear hl8 hf8 ha8 hb8 hk8 HCU4 HL7 HA7 HB7 HK7 c3 f3 lz yb i3
  have c4 := HK8.out.cell 4
  simp at c4
  have f4 := HK8.out.frozen 4
  have lz := HK8.out.lt
  have yb := HY4.out
  have i4 : IntKind.i64.wrap (x4 : Int) = (x4 : Int) := by rw [IntKind.wrap_i64]; omega
  go_wp2_with fail
  have HCU5 := Lib.hid (LUint_any b g 3600000 (by decide) (tm5 (some q)) _ (HL8.out.setT (q := G) (by have := HBG.out.2.1; omega) (by have := HBG.out.2.2.1; omega) 4 (.int .i64 (x4 : Int))))
  refine HCU5.out.mono ?_
  rintro e w9 ⟨rfl, hl9, hf9⟩
  rw [HX5.out]
  have HL9 := Lib.hid hl9
  have ha9 := (HA8.out.far (p := ⟨G, 4, none⟩) (by show g0 ≠ G; have := HBG.out.2.2.2.2.1; omega) (.int .i64 (x4 : Int)))
  have HA9 := Lib.hid (ha9.past hf9 (by have := HBG.out.2.2.2.1; omega) (by simp))
  have hb9 := (Below.setCell HB8.out (p := ⟨G, 4, none⟩) (by have := HBG.out.2.2.2.2.2; exact this) (.int .i64 (x4 : Int)))
  have HB9 := Lib.hid (hf9.to_below hb9 hb9.size HBG.out.1 (by simp))
  have hk9 := ((HK8.out.set_ 4 (.int .i64 (x4 : Int)))).past hf9 (by have := HBG.out.2.1; omega) (by simp)
  try simp only [List.setIfInBounds_toArray, List.set_cons_zero, List.set_cons_succ] at hk9
  have HK9 := Lib.hid hk9
  clear hl9 hf9 ha9 hb9 hk9 HCU5 HL8 HA8 HB8 HK8 c4 f4 lz yb i4
  have c5 := HK9.out.cell 5
  simp at c5
  have f5 := HK9.out.frozen 5
  have lz := HK9.out.lt
  have yb := HY5.out
  have i5 : IntKind.i32.wrap (x5 : Int) = (x5 : Int) := by rw [IntKind.wrap_i32]; omega
  go_wp2_with fail
  have HCU6 := Lib.hid (LUint_any b g 1000000000 (by decide) (tm6 (some q)) _ (HL9.out.setT (q := G) (by have := HBG.out.2.1; omega) (by have := HBG.out.2.2.1; omega) 5 (.int .i32 (x5 : Int))))
  refine HCU6.out.mono ?_
  rintro e w10 ⟨rfl, hl10, hf10⟩
  rw [HX6.out]
  have HL10 := Lib.hid hl10
  have ha10 := (HA9.out.far (p := ⟨G, 5, none⟩) (by show g0 ≠ G; have := HBG.out.2.2.2.2.1; omega) (.int .i32 (x5 : Int)))
  have HA10 := Lib.hid (ha10.past hf10 (by have := HBG.out.2.2.2.1; omega) (by simp))
  have hb10 := (Below.setCell HB9.out (p := ⟨G, 5, none⟩) (by have := HBG.out.2.2.2.2.2; exact this) (.int .i32 (x5 : Int)))
  have HB10 := Lib.hid (hf10.to_below hb10 hb10.size HBG.out.1 (by simp))
  have hk10 := ((HK9.out.set_ 5 (.int .i32 (x5 : Int)))).past hf10 (by have := HBG.out.2.1; omega) (by simp)
  try simp only [List.setIfInBounds_toArray, List.set_cons_zero, List.set_cons_succ] at hk10
  have HK10 := Lib.hid hk10
  clear hl10 hf10 ha10 hb10 hk10 HCU6 HL9 HA9 HB9 HK9 c5 f5 lz yb i5
  have c6 := HK10.out.cell 6
  simp at c6
  have f6 := HK10.out.frozen 6
  have lz := HK10.out.lt
  have yb := HY6.out
  have i6 : IntKind.i64.wrap (x6 : Int) = (x6 : Int) := by rw [IntKind.wrap_i64]; omega
  go_wp2_with fail
  have HCU7 := Lib.hid (LUint_any b g 60 (by decide) (tm7 (some q)) _ (HL10.out.setT (q := G) (by have := HBG.out.2.1; omega) (by have := HBG.out.2.2.1; omega) 6 (.int .i64 (x6 : Int))))
  refine HCU7.out.mono ?_
  rintro e w11 ⟨rfl, hl11, hf11⟩
  rw [HX7.out]
  have HL11 := Lib.hid hl11
  have ha11 := (HA10.out.far (p := ⟨G, 6, none⟩) (by show g0 ≠ G; have := HBG.out.2.2.2.2.1; omega) (.int .i64 (x6 : Int)))
  have HA11 := Lib.hid (ha11.past hf11 (by have := HBG.out.2.2.2.1; omega) (by simp))
  have hb11 := (Below.setCell HB10.out (p := ⟨G, 6, none⟩) (by have := HBG.out.2.2.2.2.2; exact this) (.int .i64 (x6 : Int)))
  have HB11 := Lib.hid (hf11.to_below hb11 hb11.size HBG.out.1 (by simp))
  have hk11 := ((HK10.out.set_ 6 (.int .i64 (x6 : Int)))).past hf11 (by have := HBG.out.2.1; omega) (by simp)
  try simp only [List.setIfInBounds_toArray, List.set_cons_zero, List.set_cons_succ] at hk11
  have HK11 := Lib.hid hk11
  clear hl11 hf11 ha11 hb11 hk11 HCU7 HL10 HA10 HB10 HK10 c6 f6 lz yb i6
  have c7 := HK11.out.cell 7
  simp at c7
  have f7 := HK11.out.frozen 7
  have lz := HK11.out.lt
  have yb := HY7.out
  have i7 : IntKind.i64.wrap (x7 : Int) = (x7 : Int) := by rw [IntKind.wrap_i64]; omega
  go_upto_region 11 with (fail)
  have hl12 := HL11.out.setT (q := G) (by have := HBG.out.2.1; omega) (by have := HBG.out.2.2.1; omega) 7 (.int .i64 (x7 : Int))
  have HA12 := Lib.hid (HA11.out.far (p := ⟨G, 7, none⟩) (by show g0 ≠ G; have := HBG.out.2.2.2.2.1; omega) (.int .i64 (x7 : Int)))
  have HB12 := Lib.hid (Below.setCell HB11.out (p := ⟨G, 7, none⟩) (by have := HBG.out.2.2.2.2.2; exact this) (.int .i64 (x7 : Int)))
  have hk12 := HK11.out.set_ 7 (.int .i64 (x7 : Int))
  simp only [List.setIfInBounds_toArray, List.set_cons_zero, List.set_cons_succ] at hk12
  have HK12 := Lib.hid hk12
  obtain ⟨w12, hw12⟩ : ∃ W, w11.setCell ⟨G, 7, none⟩ (.int .i64 (x7 : Int)) = W := ⟨_, rfl⟩
  rw [hw12] at hl12 HA12 HB12 HK12
  rw [hw12]
  have HEND := Lib.hid (LEnd_any b g _ w12 hl12)
  have hT : tmR (some q) = ⟨x0, x1, x2, x3, x4, x5, x6, x7⟩ := by
    unfold tmR
    rw [HX0.out, HX1.out, HX2.out, HX3.out, HX4.out, HX5.out, HX6.out, HX7.out]
  have HT := Lib.hid hT
  clear hl12 hk12 hw12 hT c7 f7 lz yb i7 HL11 HA11 HB11 HK11 HX0 HX1 HX2 HX3 HX4 HX5 HX6 HX7 HY0 HY1 HY2 HY3 HY4 HY5 HY6 HY7
  have hs8 : uS 60 (tm7 (some q)) = tm8 (some q) := rfl
  rw [hs8] at HEND
  obtain ⟨s8, hs9⟩ : ∃ s, tm8 (some q) = s := ⟨_, rfl⟩
  rw [hs9] at HEND
  have HS8 := Lib.hid hs9
  clear hs8 hs9
  by_cases hst : s8 = some []
  · have hEnd := HEND.out
    rw [if_pos hst] at hEnd
    have HEN := Lib.hid hEnd
    have HST := Lib.hid hst
    clear hEnd hst HEND
    obtain ⟨c0, c1, c2, c3, c4, c5, c6, c7⟩ := blk8 HK12.out
    go_wp2_with fail
    refine HEN.out.mono ?_
    rintro e w13 ⟨rfl, rfl⟩
    by_cases hrt : (tmR (some q)).Right
    · have cR := fun W => TRight_true hrt W
      have HPR : Hid (prTB q) := Lib.hid ⟨by rw [HS8.out, HST.out], hrt⟩
      rw [HT.out] at cR
      unfold Trm.v at cR
      dsimp only at cR
      clear hrt
      go_wp2_with fail
      refine (cR _).mono ?_
      rintro e w14 ⟨rfl, hb14⟩
      have HA14 := Lib.hid (HA12.out.below hb14 HA12.out.lt)
      have HK14 := Lib.hid (HK12.out.below hb14 HK12.out.lt)
      have HB14 := Lib.hid (HB12.out.trans (hb14.mono HB12.out.size))
      clear hb14 cR HEN c0 c1 c2 c3 c4 c5 c6 c7 HA12 HK12 HB12
      obtain ⟨c0, c1, c2, c3, c4, c5, c6, c7⟩ := blk8 HK14.out
      obtain ⟨d0, d1, d2, d3, d4, d5, d6, d7⟩ := blk8 HA14.out
      have e0 := HA14.out.frozen 0
      have e1 := HA14.out.frozen 1
      have e2 := HA14.out.frozen 2
      have e3 := HA14.out.frozen 3
      have e4 := HA14.out.frozen 4
      have e5 := HA14.out.frozen 5
      have e6 := HA14.out.frozen 6
      have e7 := HA14.out.frozen 7
      have lz := HA14.out.lt
      go_wp2_with fail
      refine fin_tparse (g := g0) ?_ (set8c HA14.out _ _ _ _ _ _ _ _) rfl rfl ⟨fun _ => ?_, fun h => absurd HPR.out h⟩
      · exact below_set8 HB14.out HG0.out _ _ _ _ _ _ _ _
      · rw [HT.out]
        rfl
    · have cR := fun W => TRight_false hrt W
      have HPR : Hid (¬ prTB q) := Lib.hid fun h => hrt h.2
      rw [HT.out] at cR
      unfold Trm.v at cR
      dsimp only at cR
      clear hrt
      go_wp2_with fail
      refine (cR _).mono ?_
      rintro e w14 ⟨rfl, hb14⟩
      have HA14 := Lib.hid (HA12.out.below hb14 HA12.out.lt)
      have HB14 := Lib.hid (HB12.out.trans (hb14.mono HB12.out.size))
      clear hb14 cR HEN c0 c1 c2 c3 c4 c5 c6 c7 HA12 HK12 HB12
      obtain ⟨d0, d1, d2, d3, d4, d5, d6, d7⟩ := blk8 HA14.out
      have e0 := HA14.out.frozen 0
      have e1 := HA14.out.frozen 1
      have e2 := HA14.out.frozen 2
      have e3 := HA14.out.frozen 3
      have e4 := HA14.out.frozen 4
      have e5 := HA14.out.frozen 5
      have e6 := HA14.out.frozen 6
      have e7 := HA14.out.frozen 7
      have lz := HA14.out.lt
      go_wp2_with fail
      refine fin_tparse (g := g0) ?_ (set8c HA14.out _ _ _ _ _ _ _ _) rfl rfl ⟨fun h => absurd h HPR.out, fun _ => rfl⟩
      exact below_set8 HB14.out HG0.out _ _ _ _ _ _ _ _
  · have hEnd := HEND.out
    rw [if_neg hst] at hEnd
    have HEN := Lib.hid hEnd
    have HPR : Hid (¬ prTB q) := Lib.hid fun h => hst (by rw [← HS8.out]; exact h.1)
    clear hEnd hst HEND
    go_wp2_with fail
    refine HEN.out.mono ?_
    rintro e w13 ⟨rfl, rfl⟩
    obtain ⟨d0, d1, d2, d3, d4, d5, d6, d7⟩ := blk8 HA12.out
    have e0 := HA12.out.frozen 0
    have e1 := HA12.out.frozen 1
    have e2 := HA12.out.frozen 2
    have e3 := HA12.out.frozen 3
    have e4 := HA12.out.frozen 4
    have e5 := HA12.out.frozen 5
    have e6 := HA12.out.frozen 6
    have e7 := HA12.out.frozen 7
    have lz := HA12.out.lt
    clear HEN
    go_wp2_with fail
    refine fin_tparse (g := g0) ?_ (set8c HA12.out _ _ _ _ _ _ _ _) rfl rfl ⟨fun h => absurd h HPR.out, fun _ => rfl⟩
    exact below_set8 HB12.out HG0.out _ _ _ _ _ _ _ _
end Go.Proofs.YtjlajnackecfgaaGreatDoor
