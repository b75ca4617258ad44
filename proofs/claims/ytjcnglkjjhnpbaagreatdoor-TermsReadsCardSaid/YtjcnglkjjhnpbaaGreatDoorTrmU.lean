/-
terms.Parse: what is read of any bytes. Conditions: the bytes are there.
The document's bytes of terms. Conditions: terms that are Right.
TermsForms: the walk. Conditions: the laid variables' cells, the bytes are there.
-/
import Derived.Test.YtjcnglkjjhnpbaaGreatDoorByF
import Derived.Test.YtjcnglkjjhnpbaaGreatDoorForA
import Derived.Test.YtjcnglkjjhnpbaaGreatDoorEqT
import Derived.Test.YtjcnglkjjhnpbaaGreatDoorTrmH
import Derived.Test.YtjcnglkjjhnpbaaGreatDoorCodeC
namespace Go.Proofs.YtjcnglkjjhnpbaaGreatDoor
open Go.ChangeShapes Go.WideShapes Go.ChangeAt Go.RowKit

theorem Ln.setT {w : World} {b g q : Nat} {st : Option (List UInt8)} (h : Ln w b g st) (h1 : b ≠ q) (h3 : g ≠ q) (i : Nat) (u : Value) : Ln (w.setCell ⟨q, i, none⟩ u) b g st := h.past ((Far.refl w q none).set i u) h1 (by simp) h3 (by simp)
def prTB (q : List UInt8) : Prop := tm8 (some q) = some [] ∧ (tmR (some q)).Right
def zeroT8 : Array Value := #[.int .u8 0, .int .i64 0, .int .u32 0, .int .u8 0, .int .i64 0, .int .i32 0, .int .i64 0, .int .i64 0]
def TPaPost (q : List UInt8) (w : World) (e : Ending) (w' : World) : Prop := (prTB q → e = .returned (.tuple #[(tmR (some q)).v, .nilIface])) ∧ (¬ prTB q → e = .returned (.tuple #[.agg zeroT8, .iface 45 (.int .i64 2)])) ∧ Below w.heap.size w w'
theorem below_set8 {w w' : World} {B g : Nat} (h : Below B w w') (hg : B ≤ g) (a b c d e f i j : Value) : Below B w ((((((((w'.setCell ⟨g, 0, none⟩ a).setCell ⟨g, 1, none⟩ b).setCell ⟨g, 2, none⟩ c).setCell ⟨g, 3, none⟩ d).setCell ⟨g, 4, none⟩ e).setCell ⟨g, 5, none⟩ f).setCell ⟨g, 6, none⟩ i).setCell ⟨g, 7, none⟩ j) :=
  (((((((h.setCell hg _).setCell hg _).setCell hg _).setCell hg _).setCell hg _).setCell hg _).setCell hg _).setCell hg _
theorem set8c {w : World} {g : Nat} {t : TypeId} {a0 a1 a2 a3 a4 a5 a6 a7 : Value} (h : Blk w g t #[a0, a1, a2, a3, a4, a5, a6, a7]) (a b c d e f i j : Value) : Blk ((((((((w.setCell ⟨g, 0, none⟩ a).setCell ⟨g, 1, none⟩ b).setCell ⟨g, 2, none⟩ c).setCell ⟨g, 3, none⟩ d).setCell ⟨g, 4, none⟩ e).setCell ⟨g, 5, none⟩ f).setCell ⟨g, 6, none⟩ i).setCell ⟨g, 7, none⟩ j) g t #[a, b, c, d, e, f, i, j] := by
  have h9 := (((((((h.set_ 0 a).set_ 1 b).set_ 2 c).set_ 3 d).set_ 4 e).set_ 5 f).set_ 6 i).set_ 7 j
  simpa using h9
theorem fin_tparse {w W : World} {T : Array Value} {q : List UInt8} {e : Value} {g : Nat} {a0 a1 a2 a3 a4 a5 a6 a7 : Value} (hB : Below w.heap.size w W) (hQ : Blk W g 28 #[a0, a1, a2, a3, a4, a5, a6, a7]) (h2 : T[2]? = some (.pointer (some ⟨g, 0, none⟩))) (h3 : T[3]? = some e)
    (hp : (prTB q → Value.tuple #[.agg #[a0, a1, a2, a3, a4, a5, a6, a7], e] = .tuple #[(tmR (some q)).v, .nilIface]) ∧ (¬ prTB q → Value.tuple #[.agg #[a0, a1, a2, a3, a4, a5, a6, a7], e] = .tuple #[.agg zeroT8, .iface 45 (.int .i64 2)])) :
    bodyPost Tryz.prog Tryz.f18 (TPaPost q w) Exit.ret { tmps := T, defers := [] } W := by
  obtain ⟨x0, x1, x2, x3, x4, x5, x6, x7⟩ := blk8 hQ
  refine bodyPost_ret (v := .tuple #[.agg #[a0, a1, a2, a3, a4, a5, a6, a7], e]) ?_ rfl ⟨fun h => ?_, fun h => ?_, hB⟩
  · simp [results, Tryz.results18, go_sem, h2, h3, x0, x1, x2, x3, x4, x5, x6, x7, Result.andThen]
  · rw [hp.1 h]
  · rw [hp.2 h]
set_option maxRecDepth 100000 in
set_option maxHeartbeats 4000000 in
theorem TParse_any (A : Option Addr) (n c Bd : Nat) (q : List UInt8) (w : World) (hR : Rd w Bd A q) (hn : q.length = n) (hm : n ≤ 1000000) (hB : Bd ≤ w.heap.size) (hA : A = none → n = 0 ∧ c = 0) :
    Calls Tryz.prog 18 #[.slice A n c] w (TPaPost q w) := by
  obtain ⟨g0, hg0⟩ : ∃ g, w.heap.size = g := ⟨_, rfl⟩
  obtain ⟨w1, hw1⟩ : ∃ W, w.alloc (.cells #[.int .u8 0, .int .i64 0, .int .u32 0, .int .u8 0, .int .i64 0, .int .i32 0, .int .i64 0, .int .i64 0] 28) = W := ⟨_, rfl⟩
  have hq0 := Blk.new w 28 #[.int .u8 0, .int .i64 0, .int .u32 0, .int .u8 0, .int .i64 0, .int .i32 0, .int .i64 0, .int .i64 0]
  have hb0 := b_alloc w (.cells #[.int .u8 0, .int .i64 0, .int .u32 0, .int .u8 0, .int .i64 0, .int .i32 0, .int .i64 0, .int .i64 0] 28)
  have hR1 := hR.below (hb0.mono hB)
  rw [hw1] at hq0 hb0 hR1
  have hL := Look_any A n c Bd q w1 hR1 hn hm (Nat.le_trans hB hb0.size) hA
  rw [hg0] at hq0
  have HW := Lib.hid (And.intro hw1 hg0)
  have HQ0 := Lib.hid hq0
  have HB0 := Lib.hid hb0
  have HL := Lib.hid hL
  have HG0 : Hid (w.heap.size ≤ g0) := Lib.hid (by omega)
  clear hw1 hg0 hq0 hb0 hR1 hL hR hn hA
  go_enter Tryz.func18, Tryz.ntmps18
  go_upto_region 1 with (fail)
  rw [HW.out.1, HW.out.2]
  go_wp2_with fail
  refine HL.out.mono ?_
  rintro e w2 ⟨b, g, rfl, hb, hg, hgs, hln, hbl⟩
  have HQ2 := Lib.hid ((HQ0.out.below hbl HQ0.out.lt).alloc (.cells #[.int .u8 0, .int .i64 0, .int .u32 0, .int .u8 0, .int .i64 0, .int .i32 0, .int .i64 0, .int .i64 0] 28))
  have hb2 := HB0.out.trans (hbl.mono HB0.out.size)
  have HB2 := Lib.hid (hb2.alloc hb2.size (.cells #[.int .u8 0, .int .i64 0, .int .u32 0, .int .u8 0, .int .i64 0, .int .i32 0, .int .i64 0, .int .i64 0] 28))
  have hblt := hln.lt
  have hln2 := hln.below (b_alloc w2 (.cells #[.int .u8 0, .int .i64 0, .int .u32 0, .int .u8 0, .int .i64 0, .int .i32 0, .int .i64 0, .int .i64 0] 28))
  have hk2 := Blk.new w2 28 #[.int .u8 0, .int .i64 0, .int .u32 0, .int .u8 0, .int .i64 0, .int .i32 0, .int .i64 0, .int .i64 0]
  obtain ⟨w3, hw3⟩ : ∃ W, w2.alloc (.cells #[.int .u8 0, .int .i64 0, .int .u32 0, .int .u8 0, .int .i64 0, .int .i32 0, .int .i64 0, .int .i64 0] 28) = W := ⟨_, rfl⟩
  obtain ⟨G, hG⟩ : ∃ g, w2.heap.size = g := ⟨_, rfl⟩
  have hg0G : g0 < w1.heap.size := HQ0.out.lt
  rw [hw3] at HQ2 HB2 hln2 hk2
  rw [hG] at hk2 hblt hgs
  have HBG : Hid (w.heap.size ≤ b ∧ b < G ∧ g < G ∧ g0 < b ∧ g0 < G ∧ w.heap.size ≤ G) := Lib.hid ⟨Nat.le_trans HB0.out.size hb, hblt, hgs, by omega, by omega, by have := HB0.out.size; omega⟩
  have HW3 := Lib.hid (And.intro hw3 hG)
  have HLs := Lib.hid hln2
  have HKs := Lib.hid hk2
  clear hw3 hG hb hg hgs hln hbl hb2 hblt hln2 hk2 hg0G HL HQ0 HB0 HW
  go_upto_region 3 with (fail)
  rw [HW3.out.1, HW3.out.2]
  obtain ⟨x0, hx0⟩ : ∃ x, uV 255 (some q) = x := ⟨_, rfl⟩
  have b0 := uV_le 255 (some q)
  rw [hx0] at b0
  have HX0 := Lib.hid hx0
  have HY0 := Lib.hid b0
  clear hx0 b0
  obtain ⟨x1, hx1⟩ : ∃ x, uV 1000000000000 (tm1 (some q)) = x := ⟨_, rfl⟩
  have b1 := uV_le 1000000000000 (tm1 (some q))
  rw [hx1] at b1
  have HX1 := Lib.hid hx1
  have HY1 := Lib.hid b1
  clear hx1 b1
  obtain ⟨x2, hx2⟩ : ∃ x, uV 1000000 (tm2 (some q)) = x := ⟨_, rfl⟩
  have b2 := uV_le 1000000 (tm2 (some q))
  rw [hx2] at b2
  have HX2 := Lib.hid hx2
  have HY2 := Lib.hid b2
  clear hx2 b2
  obtain ⟨x3, hx3⟩ : ∃ x, uV 255 (tm3 (some q)) = x := ⟨_, rfl⟩
  have b3 := uV_le 255 (tm3 (some q))
  rw [hx3] at b3
  have HX3 := Lib.hid hx3
  have HY3 := Lib.hid b3
  clear hx3 b3
  obtain ⟨x4, hx4⟩ : ∃ x, uV 480 (tm4 (some q)) = x := ⟨_, rfl⟩
  have b4 := uV_le 480 (tm4 (some q))
  rw [hx4] at b4
  have HX4 := Lib.hid hx4
  have HY4 := Lib.hid b4
  clear hx4 b4
  obtain ⟨x5, hx5⟩ : ∃ x, uV 3600000 (tm5 (some q)) = x := ⟨_, rfl⟩
  have b5 := uV_le 3600000 (tm5 (some q))
  rw [hx5] at b5
  have HX5 := Lib.hid hx5
  have HY5 := Lib.hid b5
  clear hx5 b5
  obtain ⟨x6, hx6⟩ : ∃ x, uV 1000000000 (tm6 (some q)) = x := ⟨_, rfl⟩
  have b6 := uV_le 1000000000 (tm6 (some q))
  rw [hx6] at b6
  have HX6 := Lib.hid hx6
  have HY6 := Lib.hid b6
  clear hx6 b6
  obtain ⟨x7, hx7⟩ : ∃ x, uV 60 (tm7 (some q)) = x := ⟨_, rfl⟩
  have b7 := uV_le 60 (tm7 (some q))
  rw [hx7] at b7
  have HX7 := Lib.hid hx7
  have HY7 := Lib.hid b7
  clear hx7 b7
  have HCU0 := Lib.hid (LUint_any b g 255 (by decide) (some q) _ HLs.out)
  go_wp2_with fail
  refine HCU0.out.mono ?_
  rintro e w4 ⟨rfl, hl4, hf4⟩
  rw [HX0.out]
  have HL4 := Lib.hid hl4
  have ha4 := HQ2.out
  have HA4 := Lib.hid (ha4.past hf4 (by have := HBG.out.2.2.2.1; omega) (by simp))
  have hb4 := HB2.out
  have HB4 := Lib.hid (hf4.to_below hb4 hb4.size HBG.out.1 (by simp))
  have hk4 := (HKs.out).past hf4 (by have := HBG.out.2.1; omega) (by simp)
  try simp only [List.setIfInBounds_toArray, List.set_cons_zero, List.set_cons_succ] at hk4
  have HK4 := Lib.hid hk4
  clear hl4 hf4 ha4 hb4 hk4 HCU0 HLs HQ2 HB2 HKs
  have c0 := HK4.out.cell 0
  simp at c0
  have f0 := HK4.out.frozen 0
  have lz := HK4.out.lt
  have yb := HY0.out
  have i0 : IntKind.u8.wrap (x0 : Int) = (x0 : Int) := by rw [IntKind.wrap_u8]; omega
  go_wp2_with fail
  have HCU1 := Lib.hid (LUint_any b g 1000000000000 (by decide) (tm1 (some q)) _ (HL4.out.setT (q := G) (by have := HBG.out.2.1; omega) (by have := HBG.out.2.2.1; omega) 0 (.int .u8 (x0 : Int))))
  refine HCU1.out.mono ?_
  rintro e w5 ⟨rfl, hl5, hf5⟩
  rw [HX1.out]
  have HL5 := Lib.hid hl5
  have ha5 := (HA4.out.far (p := ⟨G, 0, none⟩) (by show g0 ≠ G; have := HBG.out.2.2.2.2.1; omega) (.int .u8 (x0 : Int)))
  have HA5 := Lib.hid (ha5.past hf5 (by have := HBG.out.2.2.2.1; omega) (by simp))
  have hb5 := (Below.setCell HB4.out (p := ⟨G, 0, none⟩) (by have := HBG.out.2.2.2.2.2; exact this) (.int .u8 (x0 : Int)))
  have HB5 := Lib.hid (hf5.to_below hb5 hb5.size HBG.out.1 (by simp))
  have hk5 := ((HK4.out.set_ 0 (.int .u8 (x0 : Int)))).past hf5 (by have := HBG.out.2.1; omega) (by simp)
  try simp only [List.setIfInBounds_toArray, List.set_cons_zero] at hk5
  have HK5 := Lib.hid hk5
  clear hl5 hf5 ha5 hb5 hk5 HCU1 HL4 HA4 HB4 HK4 c0 f0 lz yb i0
  have c1 := HK5.out.cell 1
  simp at c1
  have f1 := HK5.out.frozen 1
  have lz := HK5.out.lt
  have yb := HY1.out
  have i1 : IntKind.i64.wrap (x1 : Int) = (x1 : Int) := by rw [IntKind.wrap_i64]; omega
  go_wp2_with fail
  have HCU2 := Lib.hid (LUint_any b g 1000000 (by decide) (tm2 (some q)) _ (HL5.out.setT (q := G) (by have := HBG.out.2.1; omega) (by have := HBG.out.2.2.1; omega) 1 (.int .i64 (x1 : Int))))
  refine HCU2.out.mono ?_
  rintro e w6 ⟨rfl, hl6, hf6⟩
  rw [HX2.out]
  have HL6 := Lib.hid hl6
  have ha6 := (HA5.out.far (p := ⟨G, 1, none⟩) (by show g0 ≠ G; have := HBG.out.2.2.2.2.1; omega) (.int .i64 (x1 : Int)))
  have HA6 := Lib.hid (ha6.past hf6 (by have := HBG.out.2.2.2.1; omega) (by simp))
  have hb6 := (Below.setCell HB5.out (p := ⟨G, 1, none⟩) (by have := HBG.out.2.2.2.2.2; exact this) (.int .i64 (x1 : Int)))
  have HB6 := Lib.hid (hf6.to_below hb6 hb6.size HBG.out.1 (by simp))
  have hk6 := ((HK5.out.set_ 1 (.int .i64 (x1 : Int)))).past hf6 (by have := HBG.out.2.1; omega) (by simp)
  try simp only [List.setIfInBounds_toArray, List.set_cons_zero, List.set_cons_succ] at hk6
  have HK6 := Lib.hid hk6
  clear hl6 hf6 ha6 hb6 hk6 HCU2 HL5 HA5 HB5 HK5 c1 f1 lz yb i1
  have c2 := HK6.out.cell 2
  simp at c2
  have f2 := HK6.out.frozen 2
  have lz := HK6.out.lt
  have yb := HY2.out
  have i2 : IntKind.u32.wrap (x2 : Int) = (x2 : Int) := by rw [IntKind.wrap_u32]; omega
  go_wp2_with fail
  have HCU3 := Lib.hid (LUint_any b g 255 (by decide) (tm3 (some q)) _ (HL6.out.setT (q := G) (by have := HBG.out.2.1; omega) (by have := HBG.out.2.2.1; omega) 2 (.int .u32 (x2 : Int))))
  refine HCU3.out.mono ?_
  rintro e w7 ⟨rfl, hl7, hf7⟩
  rw [HX3.out]
  have HL7 := Lib.hid hl7
  have ha7 := (HA6.out.far (p := ⟨G, 2, none⟩) (by show g0 ≠ G; have := HBG.out.2.2.2.2.1; omega) (.int .u32 (x2 : Int)))
  have HA7 := Lib.hid (ha7.past hf7 (by have := HBG.out.2.2.2.1; omega) (by simp))
  have hb7 := (Below.setCell HB6.out (p := ⟨G, 2, none⟩) (by have := HBG.out.2.2.2.2.2; exact this) (.int .u32 (x2 : Int)))
  have HB7 := Lib.hid (hf7.to_below hb7 hb7.size HBG.out.1 (by simp))
  have hk7 := ((HK6.out.set_ 2 (.int .u32 (x2 : Int)))).past hf7 (by have := HBG.out.2.1; omega) (by simp)
  try simp only [List.setIfInBounds_toArray, List.set_cons_zero, List.set_cons_succ] at hk7
  have HK7 := Lib.hid hk7
  clear hl7 hf7 ha7 hb7 hk7 HCU3 HL6 HA6 HB6 HK6 c2 f2 lz yb i2
  have c3 := HK7.out.cell 3
  simp at c3
  have f3 := HK7.out.frozen 3
  have lz := HK7.out.lt
  have yb := HY3.out
  have i3 : IntKind.u8.wrap (x3 : Int) = (x3 : Int) := by rw [IntKind.wrap_u8]; omega
  go_wp2_with fail
  have HCU4 := Lib.hid (LUint_any b g 480 (by decide) (tm4 (some q)) _ (HL7.out.setT (q := G) (by have := HBG.out.2.1; omega) (by have := HBG.out.2.2.1; omega) 3 (.int .u8 (x3 : Int))))
  refine HCU4.out.mono ?_
  rintro e w8 ⟨rfl, hl8, hf8⟩
  rw [HX4.out]
  have HL8 := Lib.hid hl8
  have ha8 := (HA7.out.far (p := ⟨G, 3, none⟩) (by show g0 ≠ G; have := HBG.out.2.2.2.2.1; omega) (.int .u8 (x3 : Int)))
  have HA8 := Lib.hid (ha8.past hf8 (by have := HBG.out.2.2.2.1; omega) (by simp))
  have hb8 := (Below.setCell HB7.out (p := ⟨G, 3, none⟩) (by have := HBG.out.2.2.2.2.2; exact this) (.int .u8 (x3 : Int)))
  have HB8 := Lib.hid (hf8.to_below hb8 hb8.size HBG.out.1 (by simp))
  have hk8 := ((HK7.out.set_ 3 (.int .u8 (x3 : Int)))).past hf8 (by have := HBG.out.2.1; omega) (by simp)
  try simp only [List.setIfInBounds_toArray, List.set_cons_zero, List.set_cons_succ] at hk8
  have HK8 := Lib.hid hk8
  clear hl8 hf8 ha8 hb8 hk8 HCU4 HL7 HA7 HB7 HK7 c3 f3 lz yb i3
  have c4 := HK8.out.cell 4
  simp at c4
  have f4 := HK8.out.frozen 4
  have lz := HK8.out.lt
  have yb := HY4.out
  have i4 : IntKind.i64.wrap (x4 : Int) = (x4 : Int) := by rw [IntKind.wrap_i64]; omega
  go_wp2_with fail
  have HCU5 := Lib.hid (LUint_any b g 3600000 (by decide) (tm5 (some q)) _ (HL8.out.setT (q := G) (by have := HBG.out.2.1; omega) (by have := HBG.out.2.2.1; omega) 4 (.int .i64 (x4 : Int))))
  refine HCU5.out.mono ?_
  rintro e w9 ⟨rfl, hl9, hf9⟩
  rw [HX5.out]
  have HL9 := Lib.hid hl9
  have ha9 := (HA8.out.far (p := ⟨G, 4, none⟩) (by show g0 ≠ G; have := HBG.out.2.2.2.2.1; omega) (.int .i64 (x4 : Int)))
  have HA9 := Lib.hid (ha9.past hf9 (by have := HBG.out.2.2.2.1; omega) (by simp))
  have hb9 := (Below.setCell HB8.out (p := ⟨G, 4, none⟩) (by have := HBG.out.2.2.2.2.2; exact this) (.int .i64 (x4 : Int)))
  have HB9 := Lib.hid (hf9.to_below hb9 hb9.size HBG.out.1 (by simp))
  have hk9 := ((HK8.out.set_ 4 (.int .i64 (x4 : Int)))).past hf9 (by have := HBG.out.2.1; omega) (by simp)
  try simp only [List.setIfInBounds_toArray, List.set_cons_zero, List.set_cons_succ] at hk9
  have HK9 := Lib.hid hk9
  clear hl9 hf9 ha9 hb9 hk9 HCU5 HL8 HA8 HB8 HK8 c4 f4 lz yb i4
  have c5 := HK9.out.cell 5
  simp at c5
  have f5 := HK9.out.frozen 5
  have lz := HK9.out.lt
  have yb := HY5.out
  have i5 : IntKind.i32.wrap (x5 : Int) = (x5 : Int) := by rw [IntKind.wrap_i32]; omega
  go_wp2_with fail
  have HCU6 := Lib.hid (LUint_any b g 1000000000 (by decide) (tm6 (some q)) _ (HL9.out.setT (q := G) (by have := HBG.out.2.1; omega) (by have := HBG.out.2.2.1; omega) 5 (.int .i32 (x5 : Int))))
  refine HCU6.out.mono ?_
  rintro e w10 ⟨rfl, hl10, hf10⟩
  rw [HX6.out]
  have HL10 := Lib.hid hl10
  have ha10 := (HA9.out.far (p := ⟨G, 5, none⟩) (by show g0 ≠ G; have := HBG.out.2.2.2.2.1; omega) (.int .i32 (x5 : Int)))
  have HA10 := Lib.hid (ha10.past hf10 (by have := HBG.out.2.2.2.1; omega) (by simp))
  have hb10 := (Below.setCell HB9.out (p := ⟨G, 5, none⟩) (by have := HBG.out.2.2.2.2.2; exact this) (.int .i32 (x5 : Int)))
  have HB10 := Lib.hid (hf10.to_below hb10 hb10.size HBG.out.1 (by simp))
  have hk10 := ((HK9.out.set_ 5 (.int .i32 (x5 : Int)))).past hf10 (by have := HBG.out.2.1; omega) (by simp)
  try simp only [List.setIfInBounds_toArray, List.set_cons_zero, List.set_cons_succ] at hk10
  have HK10 := Lib.hid hk10
  clear hl10 hf10 ha10 hb10 hk10 HCU6 HL9 HA9 HB9 HK9 c5 f5 lz yb i5
  have c6 := HK10.out.cell 6
  simp at c6
  have f6 := HK10.out.frozen 6
  have lz := HK10.out.lt
  have yb := HY6.out
  have i6 : IntKind.i64.wrap (x6 : Int) = (x6 : Int) := by rw [IntKind.wrap_i64]; omega
  go_wp2_with fail
  have HCU7 := Lib.hid (LUint_any b g 60 (by decide) (tm7 (some q)) _ (HL10.out.setT (q := G) (by have := HBG.out.2.1; omega) (by have := HBG.out.2.2.1; omega) 6 (.int .i64 (x6 : Int))))
  refine HCU7.out.mono ?_
  rintro e w11 ⟨rfl, hl11, hf11⟩
  rw [HX7.out]
  have HL11 := Lib.hid hl11
  have ha11 := (HA10.out.far (p := ⟨G, 6, none⟩) (by show g0 ≠ G; have := HBG.out.2.2.2.2.1; omega) (.int .i64 (x6 : Int)))
  have HA11 := Lib.hid (ha11.past hf11 (by have := HBG.out.2.2.2.1; omega) (by simp))
  have hb11 := (Below.setCell HB10.out (p := ⟨G, 6, none⟩) (by have := HBG.out.2.2.2.2.2; exact this) (.int .i64 (x6 : Int)))
  have HB11 := Lib.hid (hf11.to_below hb11 hb11.size HBG.out.1 (by simp))
  have hk11 := ((HK10.out.set_ 6 (.int .i64 (x6 : Int)))).past hf11 (by have := HBG.out.2.1; omega) (by simp)
  try simp only [List.setIfInBounds_toArray, List.set_cons_zero, List.set_cons_succ] at hk11
  have HK11 := Lib.hid hk11
  clear hl11 hf11 ha11 hb11 hk11 HCU7 HL10 HA10 HB10 HK10 c6 f6 lz yb i6
  have c7 := HK11.out.cell 7
  simp at c7
  have f7 := HK11.out.frozen 7
  have lz := HK11.out.lt
  have yb := HY7.out
  have i7 : IntKind.i64.wrap (x7 : Int) = (x7 : Int) := by rw [IntKind.wrap_i64]; omega
  go_upto_region 11 with (fail)
  have hl12 := HL11.out.setT (q := G) (by have := HBG.out.2.1; omega) (by have := HBG.out.2.2.1; omega) 7 (.int .i64 (x7 : Int))
  have HA12 := Lib.hid (HA11.out.far (p := ⟨G, 7, none⟩) (by show g0 ≠ G; have := HBG.out.2.2.2.2.1; omega) (.int .i64 (x7 : Int)))
  have HB12 := Lib.hid (Below.setCell HB11.out (p := ⟨G, 7, none⟩) (by have := HBG.out.2.2.2.2.2; exact this) (.int .i64 (x7 : Int)))
  have hk12 := HK11.out.set_ 7 (.int .i64 (x7 : Int))
  simp only [List.setIfInBounds_toArray, List.set_cons_zero, List.set_cons_succ] at hk12
  have HK12 := Lib.hid hk12
  obtain ⟨w12, hw12⟩ : ∃ W, w11.setCell ⟨G, 7, none⟩ (.int .i64 (x7 : Int)) = W := ⟨_, rfl⟩
  rw [hw12] at hl12 HA12 HB12 HK12
  rw [hw12]
  have HEND := Lib.hid (LEnd_any b g _ w12 hl12)
  have hT : tmR (some q) = ⟨x0, x1, x2, x3, x4, x5, x6, x7⟩ := by
    unfold tmR
    rw [HX0.out, HX1.out, HX2.out, HX3.out, HX4.out, HX5.out, HX6.out, HX7.out]
  have HT := Lib.hid hT
  clear hl12 hk12 hw12 hT c7 f7 lz yb i7 HL11 HA11 HB11 HK11 HX0 HX1 HX2 HX3 HX4 HX5 HX6 HX7 HY0 HY1 HY2 HY3 HY4 HY5 HY6 HY7
  have hs8 : uS 60 (tm7 (some q)) = tm8 (some q) := rfl
  rw [hs8] at HEND
  obtain ⟨s8, hs9⟩ : ∃ s, tm8 (some q) = s := ⟨_, rfl⟩
  rw [hs9] at HEND
  have HS8 := Lib.hid hs9
  clear hs8 hs9
  by_cases hst : s8 = some []
  · have hEnd := HEND.out
    rw [if_pos hst] at hEnd
    have HEN := Lib.hid hEnd
    have HST := Lib.hid hst
    clear hEnd hst HEND
    obtain ⟨c0, c1, c2, c3, c4, c5, c6, c7⟩ := blk8 HK12.out
    go_wp2_with fail
    refine HEN.out.mono ?_
    rintro e w13 ⟨rfl, rfl⟩
    by_cases hrt : (tmR (some q)).Right
    · have cR := fun W => TRight_true hrt W
      have HPR : Hid (prTB q) := Lib.hid ⟨by rw [HS8.out, HST.out], hrt⟩
      rw [HT.out] at cR
      unfold Trm.v at cR
      dsimp only at cR
      clear hrt
      go_wp2_with fail
      refine (cR _).mono ?_
      rintro e w14 ⟨rfl, hb14⟩
      have HA14 := Lib.hid (HA12.out.below hb14 HA12.out.lt)
      have HK14 := Lib.hid (HK12.out.below hb14 HK12.out.lt)
      have HB14 := Lib.hid (HB12.out.trans (hb14.mono HB12.out.size))
      clear hb14 cR HEN c0 c1 c2 c3 c4 c5 c6 c7 HA12 HK12 HB12
      obtain ⟨c0, c1, c2, c3, c4, c5, c6, c7⟩ := blk8 HK14.out
      obtain ⟨d0, d1, d2, d3, d4, d5, d6, d7⟩ := blk8 HA14.out
      have e0 := HA14.out.frozen 0
      have e1 := HA14.out.frozen 1
      have e2 := HA14.out.frozen 2
      have e3 := HA14.out.frozen 3
      have e4 := HA14.out.frozen 4
      have e5 := HA14.out.frozen 5
      have e6 := HA14.out.frozen 6
      have e7 := HA14.out.frozen 7
      have lz := HA14.out.lt
      go_wp2_with fail
      refine fin_tparse (g := g0) ?_ (set8c HA14.out _ _ _ _ _ _ _ _) rfl rfl ⟨fun _ => ?_, fun h => absurd HPR.out h⟩
      · exact below_set8 HB14.out HG0.out _ _ _ _ _ _ _ _
      · rw [HT.out]
        rfl
    · have cR := fun W => TRight_false hrt W
      have HPR : Hid (¬ prTB q) := Lib.hid fun h => hrt h.2
      rw [HT.out] at cR
      unfold Trm.v at cR
      dsimp only at cR
      clear hrt
      go_wp2_with fail
      refine (cR _).mono ?_
      rintro e w14 ⟨rfl, hb14⟩
      have HA14 := Lib.hid (HA12.out.below hb14 HA12.out.lt)
      have HB14 := Lib.hid (HB12.out.trans (hb14.mono HB12.out.size))
      clear hb14 cR HEN c0 c1 c2 c3 c4 c5 c6 c7 HA12 HK12 HB12
      obtain ⟨d0, d1, d2, d3, d4, d5, d6, d7⟩ := blk8 HA14.out
      have e0 := HA14.out.frozen 0
      have e1 := HA14.out.frozen 1
      have e2 := HA14.out.frozen 2
      have e3 := HA14.out.frozen 3
      have e4 := HA14.out.frozen 4
      have e5 := HA14.out.frozen 5
      have e6 := HA14.out.frozen 6
      have e7 := HA14.out.frozen 7
      have lz := HA14.out.lt
      go_wp2_with fail
      refine fin_tparse (g := g0) ?_ (set8c HA14.out _ _ _ _ _ _ _ _) rfl rfl ⟨fun h => absurd h HPR.out, fun _ => rfl⟩
      exact below_set8 HB14.out HG0.out _ _ _ _ _ _ _ _
  · have hEnd := HEND.out
    rw [if_neg hst] at hEnd
    have HEN := Lib.hid hEnd
    have HPR : Hid (¬ prTB q) := Lib.hid fun h => hst (by rw [← HS8.out]; exact h.1)
    clear hEnd hst HEND
    go_wp2_with fail
    refine HEN.out.mono ?_
    rintro e w13 ⟨rfl, rfl⟩
    obtain ⟨d0, d1, d2, d3, d4, d5, d6, d7⟩ := blk8 HA12.out
    have e0 := HA12.out.frozen 0
    have e1 := HA12.out.frozen 1
    have e2 := HA12.out.frozen 2
    have e3 := HA12.out.frozen 3
    have e4 := HA12.out.frozen 4
    have e5 := HA12.out.frozen 5
    have e6 := HA12.out.frozen 6
    have e7 := HA12.out.frozen 7
    have lz := HA12.out.lt
    clear HEN
    go_wp2_with fail
    refine fin_tparse (g := g0) ?_ (set8c HA12.out _ _ _ _ _ _ _ _) rfl rfl ⟨fun h => absurd h HPR.out, fun _ => rfl⟩
    exact below_set8 HB12.out HG0.out _ _ _ _ _ _ _ _
end Go.Proofs.YtjcnglkjjhnpbaaGreatDoor
namespace Go.Proofs.YtjcnglkjjhnpbaaGreatDoor
open Go.ChangeShapes Go.WideShapes Go.ChangeAt Go.RowKit

def nsV (ns : List Nat) : Array Value := (ns.map fun n : Nat => Value.int .u64 (n : Int)).toArray
theorem nsV_at {ns : List Nat} {k : Nat} (h : k < ns.length) : (nsV ns)[k]? = some (.int .u64 (ns[k] : Int)) := by
  unfold nsV
  rw [List.getElem?_toArray, List.getElem?_map, List.getElem?_eq_getElem h]
  rfl
def laysN (ns : List Nat) : List UInt8 := ns.flatMap (layN 0)
theorem laysN_snoc (ns : List Nat) (n : Nat) : laysN (ns ++ [n]) = laysN ns ++ layN 0 n := by simp [laysN]
theorem laysN_le : ∀ (ns : List Nat), (∀ n ∈ ns, n < 18446744073709551616) → (laysN ns).length ≤ 9 * ns.length
  | [], _ => by simp [laysN]
  | n :: ns, h => by
    have h1 := laysN_le ns fun m hm => h m (List.mem_cons_of_mem _ hm)
    have h2 := layN_le 0 n (h n List.mem_cons_self)
    have e : laysN (n :: ns) = layN 0 n ++ laysN ns := rfl
    rw [e, List.length_append, List.length_cons]
    omega
set_option maxRecDepth 100000 in
set_option maxHeartbeats 4000000 in
theorem RBytes_nat {K P R B M S F G : Nat} (h : Trm.Right ⟨K, P, R, B, M, S, F, G⟩) (w : World) : Calls Tryz.prog 20 #[.agg #[.int .u8 (K : Int), .int .i64 (P : Int), .int .u32 (R : Int), .int .u8 (B : Int), .int .i64 (M : Int), .int .i64 (S : Int), .int .i64 (F : Int), .int .i64 (G : Int)]] w (ToF (bySF (laysN [K, P, R, B, M, S, F, G])) w) := by
  obtain ⟨hK, ⟨hR, hB⟩, hP, hM, hS, hF, hG⟩ := h
  dsimp only at hK hR hB hP hM hS hF hG
  have i0 : IntKind.u64.wrap (K : Int) = (K : Int) := by rw [IntKind.wrap_u64]; omega
  have i1 : IntKind.u64.wrap (P : Int) = (P : Int) := by rw [IntKind.wrap_u64]; omega
  have i2 : IntKind.u64.wrap (R : Int) = (R : Int) := by rw [IntKind.wrap_u64]; omega
  have i3 : IntKind.u64.wrap (B : Int) = (B : Int) := by rw [IntKind.wrap_u64]; omega
  have i4 : IntKind.u64.wrap (M : Int) = (M : Int) := by rw [IntKind.wrap_u64]; omega
  have i5 : IntKind.u64.wrap (S : Int) = (S : Int) := by rw [IntKind.wrap_u64]; omega
  have i6 : IntKind.u64.wrap (F : Int) = (F : Int) := by rw [IntKind.wrap_u64]; omega
  have i7 : IntKind.u64.wrap (G : Int) = (G : Int) := by rw [IntKind.wrap_u64]; omega
  have hb : ∀ n ∈ [K, P, R, B, M, S, F, G], n < 18446744073709551616 := by
    intro n hn
    simp only [List.mem_cons, List.not_mem_nil, or_false] at hn
    omega
  have HN := Lib.hid hb
  have HQ := Lib.hid (Blk.new w 33 #[.int .u8 (K : Int), .int .i64 (P : Int), .int .u32 (R : Int), .int .u8 (B : Int), .int .i64 (M : Int), .int .i64 (S : Int), .int .i64 (F : Int), .int .i64 (G : Int)])
  have HB0 := Lib.hid (b_alloc w (.cells #[.int .u8 (K : Int), .int .i64 (P : Int), .int .u32 (R : Int), .int .u8 (B : Int), .int .i64 (M : Int), .int .i64 (S : Int), .int .i64 (F : Int), .int .i64 (G : Int)] 33))
  clear hb hK hR hB hP hM hS hF hG
  obtain ⟨c0, c1, c2, c3, c4, c5, c6, c7⟩ := blk8 HQ.out
  go_enter Tryz.func20, Tryz.ntmps20
  go_wp2_with fail
  have HG := Lib.hid (Blk.new (w.alloc (.cells #[.int .u8 (K : Int), .int .i64 (P : Int), .int .u32 (R : Int), .int .u8 (B : Int), .int .i64 (M : Int), .int .i64 (S : Int), .int .i64 (F : Int), .int .i64 (G : Int)] 33)) 101 (nsV [K, P, R, B, M, S, F, G]))
  have HB1 := Lib.hid (HB0.out.alloc HB0.out.size (.cells (nsV [K, P, R, B, M, S, F, G]) 101))
  rw [show (w.alloc (.cells #[.int .u8 (K : Int), .int .i64 (P : Int), .int .u32 (R : Int), .int .u8 (B : Int), .int .i64 (M : Int), .int .i64 (S : Int), .int .i64 (F : Int), .int .i64 (G : Int)] 33)).heap.size = w.heap.size + 1 by simp] at HG
  have ens : #[Value.int .u64 (K : Int), .int .u64 (P : Int), .int .u64 (R : Int), .int .u64 (B : Int), .int .u64 (M : Int), .int .u64 (S : Int), .int .u64 (F : Int), .int .u64 (G : Int)] = nsV [K, P, R, B, M, S, F, G] := rfl
  rw [ens]
  obtain ⟨w2, hw2⟩ : ∃ W, ((w.alloc (.cells #[.int .u8 (K : Int), .int .i64 (P : Int), .int .u32 (R : Int), .int .u8 (B : Int), .int .i64 (M : Int), .int .i64 (S : Int), .int .i64 (F : Int), .int .i64 (G : Int)] 33)).alloc (.cells (nsV [K, P, R, B, M, S, F, G]) 101)) = W := ⟨_, rfl⟩
  rw [hw2] at HG HB1
  rw [hw2]
  obtain ⟨g, hg⟩ : ∃ g, w.heap.size + 1 = g := ⟨_, rfl⟩
  rw [hg] at HG
  rw [hg]
  obtain ⟨ns, hns⟩ : ∃ l, [K, P, R, B, M, S, F, G] = l := ⟨_, rfl⟩
  have hn8 : ns.length = 8 := by rw [← hns]; rfl
  have HNS := Lib.hid hns
  rw [hns] at HG HN
  rw [hns]
  clear ens hw2 hg hns c0 c1 c2 c3 c4 c5 c6 c7 i0 i1 i2 i3 i4 i5 i6 i7 HQ HB0
  have HN8 := Lib.hid hn8
  clear hn8
  go_loopw [3, 32] (fun v i wr => ∃ (k : Nat), k ≤ 8 ∧ i = .int .i64 k ∧ ∃ A c, v = .slice A (laysN (ns.take k)).length c ∧ Hid (Rd wr wr.heap.size A (laysN (ns.take k))) ∧ Hid (Blk wr g 101 (nsV ns)) ∧ Hid (Below w.heap.size w wr)) (fun _ i _ => 8 - (intOf i).toNat)
  case atStart => exact ⟨0, Nat.zero_le _, rfl, none, 0, rfl, Lib.hid (by intro h; simp [laysN] at h), HG, HB1⟩
  case round =>
    obtain ⟨k, hk, rfl, A, c, rfl, HR, HGk, HBk⟩ := hrel
    by_cases hlt : k < 8
    · have hkl : k < ns.length := by rw [HN8.out]; exact hlt
      have d0 := (HGk.out.cell k).trans (nsV_at hkl)
      have hnk := HN.out _ (List.getElem_mem hkl)
      have hsn := laysN_snoc (ns.take k) ns[k]
      rw [← List.take_succ_eq_append_getElem hkl] at hsn
      have hll := laysN_le (ns.take k) (fun m hm => HN.out m (List.mem_of_mem_take hm))
      rw [List.length_take, HN8.out, Nat.min_eq_left hk] at hll
      obtain ⟨x, hx⟩ : ∃ x, ns[k] = x := ⟨_, rfl⟩
      rw [hx] at d0 hnk hsn
      obtain ⟨L, hL⟩ : ∃ L, laysN (ns.take k) = L := ⟨_, rfl⟩
      rw [hL] at HR hsn hll
      rw [hL]
      have hlx := layN_le 0 x hnk
      have HSN := Lib.hid hsn
      have hU := RUint_any x hnk wr
      have z0 := HGk.out.lt
      have HBD := Lib.hid (And.intro hll hlx)
      clear hL hx hkl hsn hnk hll hlx
      go_wp2_with fail
      refine hU.mono ?_
      rintro e w5 ⟨v5, rfl, ho5, hb5⟩
      obtain ⟨_, A5, c5, rfl, _, _, hr5⟩ := own_form ho5
      have HG5 := Lib.hid (HGk.out.below hb5 HGk.out.lt)
      have HB5 := Lib.hid (HBk.out.trans (hb5.mono HBk.out.size))
      have hJ := Join_two_own A A5 L.length (layN 0 x).length c c5 w5.heap.size w5.heap.size L (layN 0 x) w5 ((HR.out.below hb5).more hb5.size) (Nat.le_refl _) hr5 (Nat.le_refl _) rfl rfl (by have := HBD.out; omega)
      clear ho5 hb5 hr5 hU d0 z0 HR HGk HBk
      go_wp2_with fail
      refine hJ.mono ?_
      rintro e w6 ⟨v6, rfl, ho6, hb6⟩
      obtain ⟨_, A6, c6, rfl, _, _, hr6⟩ := own_form ho6
      rw [← HSN.out] at hr6
      have HR6 := Lib.hid hr6
      have HL6 : Hid ((L ++ layN 0 x).length = (laysN (ns.take (k + 1))).length) := Lib.hid (by rw [HSN.out])
      have HG6 := Lib.hid (HG5.out.below hb6 HG5.out.lt)
      have HB6 := Lib.hid (HB5.out.trans (hb6.mono HB5.out.size))
      rw [HL6.out]
      clear hJ ho6 hb6 hr6 HG5 HB5 HL6 HSN HBD
      go_wp2_with fail
      go_roundw
      case rel => exact ⟨k + 1, by omega, by go_num, A6, c6, rfl, HR6, HG6, HB6⟩
      case measure => simp [intOf]; omega
    · have hk8 : k = 8 := by omega
      subst hk8
      rw [show ns.take 8 = ns by rw [List.take_of_length_le]; rw [HN8.out]; exact Nat.le_refl _] at HR ⊢
      go_wp2_with fail
      go_ret
      exact ⟨.slice A (laysN ns).length c, rfl, ⟨A, c, by rw [HNS.out], by rw [HNS.out]; exact HR.out⟩, HBk.out⟩
theorem cRBytesF {t : Trm} (h : t.Right) (w : World) : Calls Tryz.prog 20 #[t.r] w (ToF (bySF (layTm t)) w) := by
  obtain ⟨K, P, R, B, M, S, F, G⟩ := t
  have h9 := h
  obtain ⟨hK, ⟨hR, hB⟩, hP, hM, hS, hF, hG⟩ := h9
  dsimp only at hK hR hB hP hM hS hF hG
  obtain ⟨P, rfl⟩ : ∃ n : Nat, P = n := ⟨P.toNat, by omega⟩
  obtain ⟨M, rfl⟩ : ∃ n : Nat, M = n := ⟨M.toNat, by omega⟩
  obtain ⟨S, rfl⟩ : ∃ n : Nat, S = n := ⟨S.toNat, by omega⟩
  obtain ⟨F, rfl⟩ : ∃ n : Nat, F = n := ⟨F.toNat, by omega⟩
  obtain ⟨G, rfl⟩ : ∃ n : Nat, G = n := ⟨G.toNat, by omega⟩
  have e : layTm ⟨K, (P : Int), R, B, (M : Int), (S : Int), (F : Int), (G : Int)⟩ = laysN [K, P, R, B, M, S, F, G] := by
    simp [layTm, laysN]
  rw [e]
  exact RBytes_nat h w
end Go.Proofs.YtjcnglkjjhnpbaaGreatDoor
namespace Go.Proofs.YtjcnglkjjhnpbaaGreatDoor
open Go.ChangeShapes Go.WideShapes Go.ChangeAt Go.RowKit

theorem pr_backT {q : List UInt8} (h : prTB q) : layTm (tmR (some q)) = q ∧ (tmR (some q)).Right := ⟨tm_one h.1, h.2⟩
theorem pr_layT {t : Trm} (h : t.Right) : tmR (some (layTm t)) = t ∧ prTB (layTm t) := by
  obtain ⟨h1, h2⟩ := tm_lay t h
  exact ⟨h1, h2, by rw [h1]; exact h⟩
set_option maxRecDepth 100000 in
set_option maxHeartbeats 4000000 in
theorem TForms_no {K R B : Nat} {P M S F G : Int} (hi : Trm.In ⟨K, P, R, B, M, S, F, G⟩) (h : ¬ Trm.Right ⟨K, P, R, B, M, S, F, G⟩) (Ar : Option Addr) (nr cr : Nat) (lr : List UInt8) (ta tt : Nat) (hta : ta < 65536) (htt : tt < 256) (w : World) (hle : Laid w) (hRr : Rd w w.heap.size Ar lr) (hnr : lr.length = nr) (hmr : nr ≤ 140737488355328)
    (cA : ∀ W, Below w.heap.size w W → Calls Tryz.prog 7 #[] W (Ret (.bool true) W)) :
    Calls Tryz.prog 4 #[.agg #[.int .u8 (K : Int), .int .i64 P, .int .u32 (R : Int), .int .u8 (B : Int), .int .i64 M, .int .i32 S, .int .i64 F, .int .i64 G], .slice Ar nr cr, .int .u16 (ta : Int), .int .u8 (tt : Int)] w (Ret (.bool true) w) := by
  have cO := fun W => own16_any hi W
  have cQ := fun W => QRight_false hi h W
  have cBy := fun W => TBytes_no h W
  have cZ : ∀ W, (Op.equalIn 10000 28 (.agg #[.int .u8 0, .int .i64 0, .int .u32 0, .int .u8 0, .int .i64 0, .int .i32 0, .int .i64 0, .int .i64 0]) (.agg #[.int .u8 0, .int .i64 0, .int .u32 0, .int .u8 0, .int .i64 0, .int .i32 0, .int .i64 0, .int .i64 0])).run Tryz.prog W = .ok true W := fun W => by rw [eqT]; simp
  unfold Trm.v at cO cBy
  unfold Trm.r at cO cQ
  dsimp only at cO cQ cBy
  clear hi h
  have HQ0 := Lib.hid (Blk.new w 28 #[.int .u8 (K : Int), .int .i64 P, .int .u32 (R : Int), .int .u8 (B : Int), .int .i64 M, .int .i32 S, .int .i64 F, .int .i64 G])
  have HB0 := Lib.hid (b_alloc w (.cells #[.int .u8 (K : Int), .int .i64 P, .int .u32 (R : Int), .int .u8 (B : Int), .int .i64 M, .int .i32 S, .int .i64 F, .int .i64 G] 28))
  have HLE := Lib.hid hle
  have HRR0 := Lib.hid (hRr.below HB0.out)
  have HNR := Lib.hid (And.intro hnr hmr)
  have HTA := Lib.hid (And.intro hta htt)
  have cA1 := cA _ HB0.out
  clear hle hRr hnr hmr hta htt cA
  go_enter Tryz.func4, Tryz.ntmps4
  go_wp2_with fail
  refine cA1.mono ?_
  rintro e W1 ⟨rfl, hb1⟩
  have HB1 := Lib.hid (HB0.out.trans (hb1.mono HB0.out.size))
  have HQ1 := Lib.hid (HQ0.out.below hb1 HQ0.out.lt)
  have HRR1 := Lib.hid (HRR0.out.below (hb1.mono HB0.out.size))
  clear hb1 HB0 HQ0 HRR0 cA1
  go_wp2_with fail
  refine (CutO_any Ar nr cr w.heap.size 40 lr W1 HRR1.out HNR.out.1 HNR.out.2 (by decide) HB1.out.size).mono ?_
  rintro e w5 ⟨vc, rfl, hoc, hbc⟩
  obtain ⟨A2, c2, rfl, hr2, hz2⟩ := own_at hoc
  obtain ⟨q2, hq2⟩ : ∃ q, lr.take 40 = q := ⟨_, rfl⟩
  have hq2l : q2.length ≤ 60 := by rw [← hq2, List.length_take]; omega
  rw [hq2] at hr2 hz2
  rw [hq2]
  have HW := Lib.hid hr2
  have HZ2 := Lib.hid (And.intro hz2 hq2l)
  have HE := Lib.hid (HQ1.out.below hbc HQ1.out.lt)
  have HB := Lib.hid (HB1.out.trans (hbc.mono HB1.out.size))
  clear HQ1 HB1 HRR1 HNR hoc hbc hr2 hz2 hq2 hq2l
  obtain ⟨n0, n1, n2, n3, n4, n5, n6, n7⟩ := blk8 HE.out
  go_wp2_with fail
  refine (cBy _).mono ?_
  rintro e w6 ⟨rfl, hb6⟩
  have HE6 := Lib.hid (HE.out.below hb6 HE.out.lt)
  have HB6 := Lib.hid (HB.out.trans (hb6.mono HB.out.size))
  have HW6 := Lib.hid (rd_laterF HW.out hb6)
  clear hb6 HE HB HW n0 n1 n2 n3 n4 n5 n6 n7 cBy
  obtain ⟨n0, n1, n2, n3, n4, n5, n6, n7⟩ := blk8 HE6.out
  go_wp2_with fail
  refine (cO _).mono ?_
  rintro e w6b ⟨rfl, hb6⟩
  have HB6b := Lib.hid (HB6.out.trans (hb6.mono HB6.out.size))
  have HW6b := Lib.hid (rd_laterF HW6.out hb6)
  clear hb6 HE6 HB6 HW6 n0 n1 n2 n3 n4 n5 n6 n7 cO
  go_wp2_with fail
  refine (cQ _).mono ?_
  rintro e w7 ⟨rfl, hb7⟩
  have HB7 := Lib.hid (HB6b.out.trans (hb7.mono HB6b.out.size))
  have HW7 := Lib.hid (rd_laterF HW6b.out hb7)
  clear hb7 HB6b HW6b cQ
  obtain ⟨L, hL⟩ : ∃ L : List UInt8, L = [] := ⟨_, rfl⟩
  have HP7 : Hid (Rd w7 w7.heap.size none L) := Lib.hid (fun h => by rw [hL] at h; simp at h)
  have HLN : Hid (0 ≤ 1000) := Lib.hid (by omega)
  have HLN2 : Hid (L.length ≤ 100) := Lib.hid (by rw [hL]; simp)
  have HLE0 := Lib.hid hL
  have HBT := HW7
  clear hL
  go_wp2_with fail
  refine (JoinP (l := L) (c := 0) HP7.out (by rw [HLE0.out]; rfl) HLN.out).mono ?_
  rintro e w8 ⟨A8, c8, rfl, hr8, hz8, hb8⟩
  obtain ⟨q8, hq8⟩ : ∃ q, (L ++ [0] : List UInt8) = q := ⟨_, rfl⟩
  have hl8 : q8.length ≤ 1000 := by rw [← hq8, List.length_append]; simp only [List.length_cons, List.length_nil]; have := HLN2.out; omega
  rw [hq8] at hr8 hz8
  rw [hq8]
  have HEL := Lib.hid (els_new (T := 29) (c0 := c2) (rd_laterF HBT.out hb8) (rd_laterF HW7.out hb8) hr8 ⟨rfl, by have := HZ2.out.2; omega, HZ2.out.1⟩ ⟨rfl, by have := HZ2.out.2; omega, HZ2.out.1⟩ ⟨rfl, hl8, hz8⟩)
  have HB8 := Lib.hid ((HB7.out.trans (hb8.mono HB7.out.size)).alloc (HB7.out.trans (hb8.mono HB7.out.size)).size (.cells #[.slice A2 q2.length c2, .slice A2 q2.length c2, .slice A8 q8.length c8] 29))
  clear hr8 hz8 hb8 hq8 hl8 HB7 HW7 HP7
  go_wp2_with fail
  obtain ⟨Rg, hRg⟩ : ∃ R, w8.heap.size = R := ⟨_, rfl⟩
  obtain ⟨w9, hw9⟩ : ∃ X, w8.alloc (.cells #[.slice A2 q2.length c2, .slice A2 q2.length c2, .slice A8 q8.length c8] 29) = X := ⟨_, rfl⟩
  have hEL := HEL.out
  have hB9 := HB8.out
  rw [hRg, hw9] at hEL
  rw [hw9] at hB9
  rw [hRg, hw9]
  have HEL9 := Lib.hid hEL
  have HB9 := Lib.hid hB9
  clear hEL hB9 hRg hw9 HEL HB8
  go_loopw [14, 15, 16, 76] (fun _ _ _ i wr => ∃ (k : Nat), k ≤ 3 ∧ i = .int .i64 k ∧ Hid (Below w9.heap.size w9 wr)) (fun _ _ _ i _ => 3 - (intOf i).toNat)
  case atStart => exact ⟨0, by omega, rfl, Lib.hid (Below.refl _ _)⟩
  case round =>
    obtain ⟨k, hk, rfl, HBk⟩ := hrel
    by_cases hlt : k < 3
    · obtain ⟨A9, n9, c9, q, hc9, hr9, hn9, hm9, hz9⟩ := HEL9.out.2 k hlt
      have hc9 := (HBk.out.cell (p := ⟨Rg, k, none⟩) HEL9.out.1).trans hc9
      have hr9 := rd_laterF hr9 HBk.out
      have HPA := Lib.hid (TParse_any A9 n9 c9 wr.heap.size q wr hr9 hn9 (by omega) (Nat.le_refl _) hz9)
      have HR9 := Lib.hid hr9
      have HN9 := Lib.hid (And.intro hn9 (And.intro hm9 hz9))
      clear hr9 hn9 hm9 hz9
      go_wp2_with fail
      refine HPA.out.mono ?_
      rintro e w10 ⟨hp1, hp2, hb10⟩
      have HB10 := Lib.hid (HBk.out.trans (hb10.mono HBk.out.size))
      have HR10 := Lib.hid (rd_laterF HR9.out hb10)
      clear hb10 HBk HR9 HPA hc9
      by_cases hp : prTB q
      · obtain rfl := hp1 hp
        obtain ⟨hL', hY'⟩ := pr_backT hp
        clear hp1 hp2 hp
        obtain ⟨u, hu⟩ : ∃ u, tmR (some q) = u := ⟨_, rfl⟩
        rw [hu] at hL' hY'
        rw [hu]
        have hBy := fun W => TBytes_yes hY' W
        rw [hL'] at hBy
        clear hL' hY' hu
        obtain ⟨uK, uP, uR, uB, uM, uS, uF, uG⟩ := u
        unfold Trm.v at hBy ⊢
        dsimp only at hBy ⊢
        have hb11 := b_alloc w10 (.cells #[.int .u8 (uK : Int), .int .i64 uP, .int .u32 (uR : Int), .int .u8 (uB : Int), .int .i64 uM, .int .i32 uS, .int .i64 uF, .int .i64 uG] 28)
        have HBY := Lib.hid (hBy (w10.alloc (.cells #[.int .u8 (uK : Int), .int .i64 uP, .int .u32 (uR : Int), .int .u8 (uB : Int), .int .i64 uM, .int .i32 uS, .int .i64 uF, .int .i64 uG] 28)))
        have HB11 := Lib.hid (HB10.out.trans (hb11.mono HB10.out.size))
        have HR11 := Lib.hid (rd_laterF HR10.out hb11)
        clear hBy hb11 HB10 HR10
        go_wp2_with fail
        refine HBY.out.mono ?_
        rintro e w12 ⟨⟨A', g', rfl, -, -, hrg⟩, hb12⟩
        have HSM := Lib.hid (SameB (c := q.length) (c' := c9) hrg.rd rfl (by have := HN9.out.1; have := HN9.out.2.1; omega) (rd_laterF HR11.out hb12) HN9.out.1 HN9.out.2.1 rfl)
        have HB12 := Lib.hid (HB11.out.trans (hb12.mono HB11.out.size))
        clear hb12 hrg HR11 HB11 HBY
        go_wp2_with fail
        refine HSM.out.mono ?_
        rintro e w13 ⟨rfl, hb13⟩
        have HB13 := Lib.hid (HB12.out.trans (hb13.mono HB12.out.size))
        clear hb13 HSM HB12
        go_wp2_with fail
        go_roundw
        case rel => exact ⟨k + 1, by omega, by go_num, HB13⟩
        case measure => simp [intOf]; omega
      · obtain rfl := hp2 hp
        clear hp1 hp2 hp
        have hb11 := b_alloc w10 (.cells #[.int .u8 0, .int .i64 0, .int .u32 0, .int .u8 0, .int .i64 0, .int .i32 0, .int .i64 0, .int .i64 0] 28)
        have hk11 := Blk.new w10 28 #[.int .u8 0, .int .i64 0, .int .u32 0, .int .u8 0, .int .i64 0, .int .i32 0, .int .i64 0, .int .i64 0]
        have HB11 := Lib.hid (HB10.out.trans (hb11.mono HB10.out.size))
        have HCO := Lib.hid (Code_errno 2 _ (HLE.out.below (HB9.out.trans (HB11.out.mono HB9.out.size))))
        obtain ⟨gx, hgx⟩ : ∃ g, w10.heap.size = g := ⟨_, rfl⟩
        rw [hgx] at hk11
        have HKX := Lib.hid hk11
        have HGX := Lib.hid hgx
        clear hb11 hk11 hgx HB10 HR10
        unfold zeroT8
        go_wp2_with fail
        rw [HGX.out]
        refine HCO.out.mono ?_
        rintro e w12 ⟨rfl, hb12⟩
        have HK12 := Lib.hid (HKX.out.below hb12 HKX.out.lt)
        have HB12 := Lib.hid (HB11.out.trans (hb12.mono HB11.out.size))
        clear hb12 HB11 HKX HCO HGX
        obtain ⟨v0, v1, v2, v3, v4, v5, v6, v7⟩ := blk8 HK12.out
        go_wp2_with fail
        go_roundw
        case rel => exact ⟨k + 1, by omega, by go_num, HB12⟩
        case measure => simp [intOf]; omega
    · obtain rfl : k = 3 := by omega
      go_wp2_with fail
      go_ret
      exact ⟨rfl, HB9.out.trans (HBk.out.mono HB9.out.size)⟩
set_option maxRecDepth 100000 in
set_option maxHeartbeats 4000000 in
theorem TForms_yes {K R B : Nat} {P M S F G : Int} (hi : Trm.In ⟨K, P, R, B, M, S, F, G⟩) (h : Trm.Right ⟨K, P, R, B, M, S, F, G⟩) (Ar : Option Addr) (nr cr : Nat) (lr : List UInt8) (ta tt : Nat) (hta : ta < 65536) (htt : tt < 256) (w : World) (hle : Laid w) (hRr : Rd w w.heap.size Ar lr) (hnr : lr.length = nr) (hmr : nr ≤ 140737488355328)
    (cA : ∀ W, Below w.heap.size w W → Calls Tryz.prog 7 #[] W (Ret (.bool true) W)) :
    Calls Tryz.prog 4 #[.agg #[.int .u8 (K : Int), .int .i64 P, .int .u32 (R : Int), .int .u8 (B : Int), .int .i64 M, .int .i32 S, .int .i64 F, .int .i64 G], .slice Ar nr cr, .int .u16 (ta : Int), .int .u8 (tt : Int)] w (Ret (.bool true) w) := by
  have cO := fun W => own16_any hi W
  have cQ := fun W => QRight_true hi h W
  have cBy := fun W => TBytes_yes h W
  have cRB := fun W => cRBytesF h W
  have hlen := layTm_len h
  have hpl := pr_layT h
  have cZ : ∀ W, (Op.equalIn 10000 28 (.agg #[.int .u8 0, .int .i64 0, .int .u32 0, .int .u8 0, .int .i64 0, .int .i32 0, .int .i64 0, .int .i64 0]) (.agg #[.int .u8 0, .int .i64 0, .int .u32 0, .int .u8 0, .int .i64 0, .int .i32 0, .int .i64 0, .int .i64 0])).run Tryz.prog W = .ok true W := fun W => by rw [eqT]; simp
  have cE : ∀ W, (Op.equalIn 10000 28 (.agg #[.int .u8 (K : Int), .int .i64 P, .int .u32 (R : Int), .int .u8 (B : Int), .int .i64 M, .int .i32 S, .int .i64 F, .int .i64 G]) (.agg #[.int .u8 (K : Int), .int .i64 P, .int .u32 (R : Int), .int .u8 (B : Int), .int .i64 M, .int .i32 S, .int .i64 F, .int .i64 G])).run Tryz.prog W = .ok true W := fun W => by rw [eqT]; simp
  obtain ⟨L, hL⟩ : ∃ L, layTm ⟨K, P, R, B, M, S, F, G⟩ = L := ⟨_, rfl⟩
  rw [hL] at cBy cRB hlen hpl
  obtain ⟨hpl1, hpl2⟩ := hpl
  have HPL : Hid (prTB L) := Lib.hid hpl2
  have HPV : Hid ((tmR (some L)).v = .agg #[.int .u8 (K : Int), .int .i64 P, .int .u32 (R : Int), .int .u8 (B : Int), .int .i64 M, .int .i32 S, .int .i64 F, .int .i64 G]) := Lib.hid (by rw [hpl1]; rfl)
  unfold Trm.v at cO cBy
  unfold Trm.r at cO cQ cRB
  dsimp only at cO cQ cBy cRB
  have HLL : Hid (0 < L.length ∧ L.length ≤ 100) := Lib.hid (by omega)
  have hpos2 : decide (0 < L.length) = true := decide_eq_true (by omega)
  clear hi h hL hlen hpl1 hpl2
  have HQ0 := Lib.hid (Blk.new w 28 #[.int .u8 (K : Int), .int .i64 P, .int .u32 (R : Int), .int .u8 (B : Int), .int .i64 M, .int .i32 S, .int .i64 F, .int .i64 G])
  have HB0 := Lib.hid (b_alloc w (.cells #[.int .u8 (K : Int), .int .i64 P, .int .u32 (R : Int), .int .u8 (B : Int), .int .i64 M, .int .i32 S, .int .i64 F, .int .i64 G] 28))
  have HLE := Lib.hid hle
  have HRR0 := Lib.hid (hRr.below HB0.out)
  have HNR := Lib.hid (And.intro hnr hmr)
  have HTA := Lib.hid (And.intro hta htt)
  have cA1 := cA _ HB0.out
  clear hle hRr hnr hmr hta htt cA
  go_enter Tryz.func4, Tryz.ntmps4
  go_wp2_with fail
  refine cA1.mono ?_
  rintro e W1 ⟨rfl, hb1⟩
  have HB1 := Lib.hid (HB0.out.trans (hb1.mono HB0.out.size))
  have HQ1 := Lib.hid (HQ0.out.below hb1 HQ0.out.lt)
  have HRR1 := Lib.hid (HRR0.out.below (hb1.mono HB0.out.size))
  clear hb1 HB0 HQ0 HRR0 cA1
  go_wp2_with fail
  refine (CutO_any Ar nr cr w.heap.size 40 lr W1 HRR1.out HNR.out.1 HNR.out.2 (by decide) HB1.out.size).mono ?_
  rintro e w5 ⟨vc, rfl, hoc, hbc⟩
  obtain ⟨A2, c2, rfl, hr2, hz2⟩ := own_at hoc
  obtain ⟨q2, hq2⟩ : ∃ q, lr.take 40 = q := ⟨_, rfl⟩
  have hq2l : q2.length ≤ 60 := by rw [← hq2, List.length_take]; omega
  rw [hq2] at hr2 hz2
  rw [hq2]
  have HW := Lib.hid hr2
  have HZ2 := Lib.hid (And.intro hz2 hq2l)
  have HE := Lib.hid (HQ1.out.below hbc HQ1.out.lt)
  have HB := Lib.hid (HB1.out.trans (hbc.mono HB1.out.size))
  clear HQ1 HB1 HRR1 HNR hoc hbc hr2 hz2 hq2 hq2l
  obtain ⟨n0, n1, n2, n3, n4, n5, n6, n7⟩ := blk8 HE.out
  go_wp2_with fail
  refine (cBy _).mono ?_
  rintro e w6 ⟨⟨A6, g6, rfl, hz6, hg6, hrg6⟩, hb6⟩
  have HE6 := Lib.hid (HE.out.below hb6 HE.out.lt)
  have HB6 := Lib.hid (HB.out.trans (hb6.mono HB.out.size))
  have HW6 := Lib.hid (rd_laterF HW.out hb6)
  have HP6 := Lib.hid hrg6.rd
  have HPZ := Lib.hid hz6
  clear hb6 hrg6 hg6 hz6 HE HB HW n0 n1 n2 n3 n4 n5 n6 n7 cBy
  obtain ⟨n0, n1, n2, n3, n4, n5, n6, n7⟩ := blk8 HE6.out
  go_wp2_with fail
  refine (cO _).mono ?_
  rintro e w6b ⟨rfl, hb6⟩
  have HE6b := Lib.hid (HE6.out.below hb6 HE6.out.lt)
  have HB6b := Lib.hid (HB6.out.trans (hb6.mono HB6.out.size))
  have HW6b := Lib.hid (rd_laterF HW6.out hb6)
  have HP6b := Lib.hid (rd_laterF HP6.out hb6)
  clear hb6 HE6 HB6 HW6 HP6 n0 n1 n2 n3 n4 n5 n6 n7
  go_wp2_with fail
  refine (cQ _).mono ?_
  rintro e w7 ⟨rfl, hb7⟩
  have HE7 := Lib.hid (HE6b.out.below hb7 HE6b.out.lt)
  have HB7 := Lib.hid (HB6b.out.trans (hb7.mono HB6b.out.size))
  have HW7 := Lib.hid (rd_laterF HW6b.out hb7)
  have HP7 := Lib.hid (rd_laterF HP6b.out hb7)
  clear hb7 HE6b HB6b HW6b HP6b cQ
  have HPA := Lib.hid (TParse_any A6 L.length L.length w7.heap.size L w7 HP7.out rfl (by have := HLL.out.2; omega) (Nat.le_refl _) (fun e => ⟨HPZ.out e, HPZ.out e⟩))
  go_wp2_with fail
  refine HPA.out.mono ?_
  rintro e w8 ⟨hp1, -, hb8⟩
  obtain rfl := hp1 HPL.out
  rw [HPV.out]
  have HE8 := Lib.hid (HE7.out.below hb8 HE7.out.lt)
  have HB8 := Lib.hid (HB7.out.trans (hb8.mono HB7.out.size))
  have HW8 := Lib.hid (rd_laterF HW7.out hb8)
  have HP8 := Lib.hid (rd_laterF HP7.out hb8)
  have hb9 := b_alloc w8 (.cells #[.int .u8 (K : Int), .int .i64 P, .int .u32 (R : Int), .int .u8 (B : Int), .int .i64 M, .int .i32 S, .int .i64 F, .int .i64 G] 28)
  have hx9 := Blk.new w8 28 #[.int .u8 (K : Int), .int .i64 P, .int .u32 (R : Int), .int .u8 (B : Int), .int .i64 M, .int .i32 S, .int .i64 F, .int .i64 G]
  have he9 := HE8.out.below hb9 HE8.out.lt
  obtain ⟨gx, hgx⟩ : ∃ g, w8.heap.size = g := ⟨_, rfl⟩
  obtain ⟨w9, hw9⟩ : ∃ X, w8.alloc (.cells #[.int .u8 (K : Int), .int .i64 P, .int .u32 (R : Int), .int .u8 (B : Int), .int .i64 M, .int .i32 S, .int .i64 F, .int .i64 G] 28) = X := ⟨_, rfl⟩
  have HW9 := Lib.hid (And.intro hw9 hgx)
  have HB9 := Lib.hid (HB8.out.trans (hb9.mono HB8.out.size))
  have HW9r := Lib.hid (rd_laterF HW8.out hb9)
  have HP9 := Lib.hid (rd_laterF HP8.out hb9)
  rw [hw9] at HB9 HW9r HP9 hx9 he9
  rw [hgx] at hx9
  have HX9 := Lib.hid hx9
  have HE9 := Lib.hid he9
  clear hx9 he9 hw9 hgx hb9 hb8 hp1 HB8 HE8 HW8 HP8 HB7 HE7 HW7 HP7 HPA
  go_upto_region 10 with (fail)
  rw [HW9.out.1, HW9.out.2]
  clear HW9
  obtain ⟨n0, n1, n2, n3, n4, n5, n6, n7⟩ := blk8 HE9.out
  go_wp2_with fail
  refine (cO _).mono ?_
  rintro e w10 ⟨rfl, hb10⟩
  have HB10 := Lib.hid (HB9.out.trans (hb10.mono HB9.out.size))
  have HX10 := Lib.hid (HX9.out.below hb10 HX9.out.lt)
  have HE10 := Lib.hid (HE9.out.below hb10 HE9.out.lt)
  have HW10 := Lib.hid (rd_laterF HW9r.out hb10)
  have HP10 := Lib.hid (rd_laterF HP9.out hb10)
  clear hb10 HB9 HX9 HE9 HW9r HP9 cO n0 n1 n2 n3 n4 n5 n6 n7
  go_wp2_with fail
  refine (cRB _).mono ?_
  rintro e w11 ⟨v11, rfl, ⟨A11, c11, rfl, hr11⟩, hb11⟩
  have HB11 := Lib.hid (HB10.out.trans (hb11.mono HB10.out.size))
  have HX11 := Lib.hid (HX10.out.below hb11 HX10.out.lt)
  have HE11 := Lib.hid (HE10.out.below hb11 HE10.out.lt)
  have HW11 := Lib.hid (rd_laterF HW10.out hb11)
  have HP11 := Lib.hid (rd_laterF HP10.out hb11)
  have HSM := Lib.hid (SameB (c := L.length) (c' := c11) HP11.out rfl (by have := HLL.out.2; omega) hr11 rfl (by have := HLL.out.2; omega) rfl)
  clear hb11 hr11 HB10 HX10 HE10 HW10 HP10 cRB
  go_wp2_with fail
  refine HSM.out.mono ?_
  rintro e w12 ⟨rfl, hb12⟩
  have HB12 := Lib.hid (HB11.out.trans (hb12.mono HB11.out.size))
  have HX12 := Lib.hid (HX11.out.below hb12 HX11.out.lt)
  have HE12 := Lib.hid (HE11.out.below hb12 HE11.out.lt)
  have HW13 := Lib.hid (rd_laterF HW11.out hb12)
  have HP13 := Lib.hid (rd_laterF HP11.out hb12)
  have HB13 := HB12
  clear hb12 HB11 HX11 HE11 HW11 HP11 HSM
  obtain ⟨n0, n1, n2, n3, n4, n5, n6, n7⟩ := blk8 HE12.out
  obtain ⟨m0, m1, m2, m3, m4, m5, m6, m7⟩ := blk8 HX12.out
  have HJ := Lib.hid (Join1 (c := L.length) HP13.out rfl (by have := HLL.out.2; omega))
  go_wp2_with fail
  refine HJ.out.mono ?_
  rintro e w14 ⟨v14, rfl, ho14, hb14⟩
  clear n0 n1 n2 n3 n4 n5 n6 n7 m0 m1 m2 m3 m4 m5 m6 m7 HX12 HE12 HB12 cE
  obtain ⟨j, hj⟩ : ∃ j, ta % L.length = j := ⟨_, rfl⟩
  have hjl : j < L.length := by rw [← hj]; exact Nat.mod_lt _ HLL.out.1
  have hje : ((ta : Int)).tmod (L.length : Int) = (j : Int) := by
    rw [← hj]
    rfl
  obtain ⟨gb, cb, rfl, hgb, hgs, ⟨u, hu⟩, hfz, hput⟩ := own_put ho14 hjl
  obtain ⟨u1, hu1⟩ := xor_of u tt
  obtain ⟨l15, hl15, hr15⟩ := hput u1
  have ita : IntKind.i64.wrap (ta : Int) = (ta : Int) := by have := HTA.out.1; rw [IntKind.wrap_i64]; omega
  have hb15 := hb14.setCell hgb (.int .u8 (u1.toNat : Int)) (p := ⟨gb, j, none⟩)
  obtain ⟨w15, hw15⟩ : ∃ X, w14.setCell ⟨gb, j, none⟩ (.int .u8 (u1.toNat : Int)) = X := ⟨_, rfl⟩
  have hs15 : w14.heap.size = w15.heap.size := by rw [← hw15]; simp [World.setCell]
  have HS15 := Lib.hid hs15
  rw [hw15] at hb15 hr15
  clear hs15
  have HW15 := Lib.hid hw15
  have HB7 := Lib.hid (HB13.out.trans (hb15.mono HB13.out.size))
  have HW7 := Lib.hid (rd_laterF HW13.out hb15)
  have HP7 := Lib.hid (rd_laterF HP13.out hb15)
  have HBT := Lib.hid hr15
  have HL15 := Lib.hid hl15
  have HLN : Hid (L.length ≤ 1000) := Lib.hid (by have := HLL.out.2; omega)
  have HLN2 : Hid (L.length ≤ 100) := Lib.hid HLL.out.2
  clear hb15 hw15 hr15 hput hl15 ho14 hb14 HB13 HW13 HP13 HJ hj hgb
  go_wp2_with fail
  rw [HW15.out, HS15.out]
  refine (JoinP (l := L) HP7.out rfl HLN.out).mono ?_
  rintro e w8 ⟨A8, c8, rfl, hr8, hz8, hb8⟩
  obtain ⟨q8, hq8⟩ : ∃ q, (L ++ [0] : List UInt8) = q := ⟨_, rfl⟩
  have hl8 : q8.length ≤ 1000 := by rw [← hq8, List.length_append]; simp only [List.length_cons, List.length_nil]; have := HLN2.out; omega
  rw [hq8] at hr8 hz8
  rw [hq8]
  have HEL := Lib.hid (els_new (T := 29) (c0 := cb) (rd_laterF HBT.out hb8) (rd_laterF HW7.out hb8) hr8 ⟨HL15.out, HLN.out, fun e => nomatch e⟩ ⟨rfl, by have := HZ2.out.2; omega, HZ2.out.1⟩ ⟨rfl, hl8, hz8⟩)
  have HB8 := Lib.hid ((HB7.out.trans (hb8.mono HB7.out.size)).alloc (HB7.out.trans (hb8.mono HB7.out.size)).size (.cells #[.slice (some ⟨gb, 0, none⟩) L.length cb, .slice A2 q2.length c2, .slice A8 q8.length c8] 29))
  clear hr8 hz8 hb8 hq8 hl8 HB7 HW7 HP7
  go_wp2_with fail
  obtain ⟨Rg, hRg⟩ : ∃ R, w8.heap.size = R := ⟨_, rfl⟩
  obtain ⟨w9, hw9⟩ : ∃ X, w8.alloc (.cells #[.slice (some ⟨gb, 0, none⟩) L.length cb, .slice A2 q2.length c2, .slice A8 q8.length c8] 29) = X := ⟨_, rfl⟩
  have hEL := HEL.out
  have hB9 := HB8.out
  rw [hRg, hw9] at hEL
  rw [hw9] at hB9
  rw [hRg, hw9]
  have HEL9 := Lib.hid hEL
  have HB9 := Lib.hid hB9
  clear hEL hB9 hRg hw9 HEL HB8
  go_loopw [14, 15, 16, 76] (fun _ _ _ i wr => ∃ (k : Nat), k ≤ 3 ∧ i = .int .i64 k ∧ Hid (Below w9.heap.size w9 wr)) (fun _ _ _ i _ => 3 - (intOf i).toNat)
  case atStart => exact ⟨0, by omega, rfl, Lib.hid (Below.refl _ _)⟩
  case round =>
    obtain ⟨k, hk, rfl, HBk⟩ := hrel
    by_cases hlt : k < 3
    · obtain ⟨A9, n9, c9, q, hc9, hr9, hn9, hm9, hz9⟩ := HEL9.out.2 k hlt
      have hc9 := (HBk.out.cell (p := ⟨Rg, k, none⟩) HEL9.out.1).trans hc9
      have hr9 := rd_laterF hr9 HBk.out
      have HPA := Lib.hid (TParse_any A9 n9 c9 wr.heap.size q wr hr9 hn9 (by omega) (Nat.le_refl _) hz9)
      have HR9 := Lib.hid hr9
      have HN9 := Lib.hid (And.intro hn9 (And.intro hm9 hz9))
      clear hr9 hn9 hm9 hz9
      go_wp2_with fail
      refine HPA.out.mono ?_
      rintro e w10 ⟨hp1, hp2, hb10⟩
      have HB10 := Lib.hid (HBk.out.trans (hb10.mono HBk.out.size))
      have HR10 := Lib.hid (rd_laterF HR9.out hb10)
      clear hb10 HBk HR9 HPA hc9
      by_cases hp : prTB q
      · obtain rfl := hp1 hp
        obtain ⟨hL', hY'⟩ := pr_backT hp
        clear hp1 hp2 hp
        obtain ⟨u, hu⟩ : ∃ u, tmR (some q) = u := ⟨_, rfl⟩
        rw [hu] at hL' hY'
        rw [hu]
        have hBy := fun W => TBytes_yes hY' W
        rw [hL'] at hBy
        clear hL' hY' hu
        obtain ⟨uK, uP, uR, uB, uM, uS, uF, uG⟩ := u
        unfold Trm.v at hBy ⊢
        dsimp only at hBy ⊢
        have hb11 := b_alloc w10 (.cells #[.int .u8 (uK : Int), .int .i64 uP, .int .u32 (uR : Int), .int .u8 (uB : Int), .int .i64 uM, .int .i32 uS, .int .i64 uF, .int .i64 uG] 28)
        have HBY := Lib.hid (hBy (w10.alloc (.cells #[.int .u8 (uK : Int), .int .i64 uP, .int .u32 (uR : Int), .int .u8 (uB : Int), .int .i64 uM, .int .i32 uS, .int .i64 uF, .int .i64 uG] 28)))
        have HB11 := Lib.hid (HB10.out.trans (hb11.mono HB10.out.size))
        have HR11 := Lib.hid (rd_laterF HR10.out hb11)
        clear hBy hb11 HB10 HR10
        go_wp2_with fail
        refine HBY.out.mono ?_
        rintro e w12 ⟨⟨A', g', rfl, -, -, hrg⟩, hb12⟩
        have HSM := Lib.hid (SameB (c := q.length) (c' := c9) hrg.rd rfl (by have := HN9.out.1; have := HN9.out.2.1; omega) (rd_laterF HR11.out hb12) HN9.out.1 HN9.out.2.1 rfl)
        have HB12 := Lib.hid (HB11.out.trans (hb12.mono HB11.out.size))
        clear hb12 hrg HR11 HB11 HBY
        go_wp2_with fail
        refine HSM.out.mono ?_
        rintro e w13 ⟨rfl, hb13⟩
        have HB13 := Lib.hid (HB12.out.trans (hb13.mono HB12.out.size))
        clear hb13 HSM HB12
        go_wp2_with fail
        go_roundw
        case rel => exact ⟨k + 1, by omega, by go_num, HB13⟩
        case measure => simp [intOf]; omega
      · obtain rfl := hp2 hp
        clear hp1 hp2 hp
        have hb11 := b_alloc w10 (.cells #[.int .u8 0, .int .i64 0, .int .u32 0, .int .u8 0, .int .i64 0, .int .i32 0, .int .i64 0, .int .i64 0] 28)
        have hk11 := Blk.new w10 28 #[.int .u8 0, .int .i64 0, .int .u32 0, .int .u8 0, .int .i64 0, .int .i32 0, .int .i64 0, .int .i64 0]
        have HB11 := Lib.hid (HB10.out.trans (hb11.mono HB10.out.size))
        have HCO := Lib.hid (Code_errno 2 _ (HLE.out.below (HB9.out.trans (HB11.out.mono HB9.out.size))))
        obtain ⟨gx, hgx⟩ : ∃ g, w10.heap.size = g := ⟨_, rfl⟩
        rw [hgx] at hk11
        have HKX := Lib.hid hk11
        have HGX := Lib.hid hgx
        clear hb11 hk11 hgx HB10 HR10
        unfold zeroT8
        go_wp2_with fail
        rw [HGX.out]
        refine HCO.out.mono ?_
        rintro e w12 ⟨rfl, hb12⟩
        have HK12 := Lib.hid (HKX.out.below hb12 HKX.out.lt)
        have HB12 := Lib.hid (HB11.out.trans (hb12.mono HB11.out.size))
        clear hb12 HB11 HKX HCO HGX
        obtain ⟨v0, v1, v2, v3, v4, v5, v6, v7⟩ := blk8 HK12.out
        go_wp2_with fail
        go_roundw
        case rel => exact ⟨k + 1, by omega, by go_num, HB12⟩
        case measure => simp [intOf]; omega
    · obtain rfl : k = 3 := by omega
      go_wp2_with fail
      go_ret
      exact ⟨rfl, HB9.out.trans (HBk.out.mono HB9.out.size)⟩
theorem TForms_any {t : Trm} (hi : t.In) (Ar : Option Addr) (nr cr : Nat) (lr : List UInt8) (ta tt : Nat) (hta : ta < 65536) (htt : tt < 256) (w : World) (hle : Laid w) (hRr : Rd w w.heap.size Ar lr) (hnr : lr.length = nr) (hmr : nr ≤ 140737488355328) (hw : Lens w) (hp : Pows w)
    (m : Int) (hx : w.cell? ⟨5, 0, none⟩ = some (.int .i64 m)) (te : TypeId) (pe : Value) (he : w.cell? ⟨1, 0, none⟩ = some (.iface te pe)) :
    Calls Tryz.prog 4 #[t.v, .slice Ar nr cr, .int .u16 (ta : Int), .int .u8 (tt : Int)] w (Ret (.bool true) w) := by
  have cA : ∀ W, Below w.heap.size w W → Calls Tryz.prog 7 #[] W (Ret (.bool true) W) := fun W hb =>
    awake16 W (hw.below hb) (hp.below hb) m ((hb.cell (block_lt_of_cell hx)).trans hx) te pe ((hb.cell (block_lt_of_cell he)).trans he)
  obtain ⟨K, P, R, B, M, S, F, G⟩ := t
  by_cases h : Trm.Right ⟨K, P, R, B, M, S, F, G⟩
  · exact TForms_yes hi h Ar nr cr lr ta tt hta htt w hle hRr hnr hmr cA
  · exact TForms_no hi h Ar nr cr lr ta tt hta htt w hle hRr hnr hmr cA
end Go.Proofs.YtjcnglkjjhnpbaaGreatDoor
