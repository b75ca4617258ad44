/-
  yield: the references' Days. Conditions: the numbers are right.
-/
import Derived.Test.YtbfekonlgbolcaaDoorYldC
import Derived.Test.YtbfekonlgbolcaaDoorRefP
import Derived.Test.YtbfekonlgbolcaaDoorRefDiv
import Derived.Test.YtbfekonlgbolcaaDoorRefR
import Derived.Deep.RegionWith
import Derived.Deep.RegionHeld3
namespace Go.Proofs.YtbfekonlgbolcaaDoor
open Go.RowKit

theorem eightc {W W' : World} {g : Nat} {t : TypeId} {c0 c1 c2 c3 c4 c5 c6 c7 : Value} (h : Blk W g t #[c0, c1, c2, c3, c4, c5, c6, c7]) (hb : Below W.heap.size W W') :
    W'.cell? ⟨g, 0, none⟩ = some c0 ∧ W'.cell? ⟨g, 1, none⟩ = some c1 ∧ W'.cell? ⟨g, 2, none⟩ = some c2 ∧ W'.cell? ⟨g, 3, none⟩ = some c3 ∧ W'.cell? ⟨g, 4, none⟩ = some c4 ∧ W'.cell? ⟨g, 5, none⟩ = some c5 ∧ W'.cell? ⟨g, 6, none⟩ = some c6 ∧ W'.cell? ⟨g, 7, none⟩ = some c7 := by
  have k := h.below hb h.lt
  exact ⟨k.cell 0, k.cell 1, k.cell 2, k.cell 3, k.cell 4, k.cell 5, k.cell 6, k.cell 7⟩
theorem two_eight {W W' : World} {g g' : Nat} {t t' : TypeId} {a b c0 c1 c2 c3 c4 c5 c6 c7 : Value} (h' : Blk W g' t' #[a, b]) (h : Blk W g t #[c0, c1, c2, c3, c4, c5, c6, c7]) (hb : Below W.heap.size W W') :
    W'.cell? ⟨g', 0, none⟩ = some a ∧ W'.cell? ⟨g', 1, none⟩ = some b ∧ W'.cell? ⟨g, 0, none⟩ = some c0 ∧ W'.cell? ⟨g, 1, none⟩ = some c1 ∧ W'.cell? ⟨g, 2, none⟩ = some c2 ∧ W'.cell? ⟨g, 3, none⟩ = some c3 ∧ W'.cell? ⟨g, 4, none⟩ = some c4 ∧ W'.cell? ⟨g, 5, none⟩ = some c5 ∧ W'.cell? ⟨g, 6, none⟩ = some c6 ∧ W'.cell? ⟨g, 7, none⟩ = some c7 := by
  have k := h.below hb h.lt
  have k' := h'.below hb h'.lt
  exact ⟨k'.cell 0, k'.cell 1, k.cell 0, k.cell 1, k.cell 2, k.cell 3, k.cell 4, k.cell 5, k.cell 6, k.cell 7⟩
set_option maxRecDepth 20000 in
set_option maxHeartbeats 8000000 in
theorem RDays_any {P p d c U : Nat} {th : Bool} (hP : P ≤ 1000000000000) (hp : p ≤ 1000000) (hd : d ≤ 100000) (hU0 : 360000000 ≤ U) (hU1 : U ≤ 365000000) (hc : c < U) (hU : ∀ W, Calls Tryd.prog 7 #[rr p th] W (Ret (.int .u64 (U : Int)) W)) (w : World) :
    Calls Tryd.prog 13 #[rr p th, .int .i64 (P : Int), .int .i64 (d : Int), .int .u64 (c : Int)] w (Ret (.tuple #[.int .i64 (((P * p * d + c) / U : Nat) : Int), .int .u64 (((P * p * d + c) % U : Nat) : Int)]) w) := by
  have hX := pp_le hP hp
  have hpd := Nat.mul_le_mul hp hd
  obtain ⟨e, he⟩ : ∃ e, p * d = e := ⟨_, rfl⟩
  have hS := pcs_le hX hd (show c < 18446744073709551616 by omega)
  have hQ := pcs_div hX hd hU0 hc
  rw [Nat.mul_assoc, he] at hS hQ ⊢
  rw [he] at hpd
  have hM := fun W => RefMul_any P e (by omega) (by omega) W
  have hO := fun W => Of_any 0 c (by omega) (by omega) W
  rw [Nat.zero_mul, Nat.zero_add] at hO
  have hA := fun W => RefAdd_any (P * e) c (by omega) (by omega) W
  rw [Nat.mod_eq_of_lt hS, decide_eq_true hS] at hA
  obtain ⟨S, hSe⟩ : ∃ S, P * e + c = S := ⟨_, rfl⟩
  obtain ⟨T, hT⟩ : ∃ T, P * e = T := ⟨_, rfl⟩
  rw [hT] at hM hA
  rw [← hT, hSe] at hA
  rw [hSe] at hS hQ ⊢
  rw [hT] at hA
  have hD := fun W => RefDiv_any S U hS (by omega) (by omega) W
  obtain ⟨q, hq⟩ : ∃ q, S / U = q := ⟨_, rfl⟩
  obtain ⟨s, hs⟩ : ∃ s, S % U = s := ⟨_, rfl⟩
  rw [hq, hs] at hD ⊢
  rw [hq] at hQ
  have hF := fun W => Word_any q (by omega) false W
  obtain ⟨x0, x1, x2, x3, x4, x5, x6, x7, ex⟩ := eight (digs 8 S) (digs_length 8 S)
  obtain ⟨y0, y1, y2, y3, y4, y5, y6, y7, ey⟩ := eight (digs 8 q) (digs_length 8 q)
  obtain ⟨t0, t1, t2, t3, t4, t5, t6, t7, et⟩ := eight (digs 8 T) (digs_length 8 T)
  obtain ⟨o0, o1, o2, o3, o4, o5, o6, o7, eo⟩ := eight (digs 8 c) (digs_length 8 c)
  rw [ex] at hA hD
  rw [ey] at hD hF
  rw [et] at hM hA
  rw [eo] at hO hA
  simp only [bgv, List.map_cons, List.map_nil, Bool.false_eq_true, if_false] at hM hA hD hF hO
  rw [show q % 18446744073709551616 = q by omega] at hF
  have i1 : (p : Int) * (d : Int) = (e : Int) := by rw [← he]; simp
  have i2 : IntKind.u64.wrap (e : Int) = (e : Int) := by rw [IntKind.wrap_u64]; omega
  have i3 : IntKind.u64.wrap (d : Int) = (d : Int) := by rw [IntKind.wrap_u64]; omega
  have i4 : IntKind.u64.wrap (P : Int) = (P : Int) := by rw [IntKind.wrap_u64]; omega
  have i5 : IntKind.u64.wrap (p : Int) = (p : Int) := by rw [IntKind.wrap_u64]; omega
  have i6 : IntKind.i64.wrap (q : Int) = (q : Int) := by rw [IntKind.wrap_i64]; omega
  unfold rr at hU ⊢
  clear hP hp hd hU0 hU1 hc hX hpd he hS hQ hSe hT hq hs ex ey et eo
  go_enter Tryd.func13, Tryd.ntmps13
  have HQ0 := Lib.hid (Blk.new w 34 #[.int .u32 (p : Int), .bool th])
  have HB0 := Lib.hid (b_alloc w (.cells #[.int .u32 (p : Int), .bool th] 34))
  go_wp2_with fail
  refine (hM _).mono ?_
  rintro e w1 ⟨rfl, hb1⟩
  have HQ1_0 := Lib.hid (HQ0.out.below hb1 HQ0.out.lt)
  have HB1 := Lib.hid (HB0.out.trans (hb1.mono HB0.out.size))
  clear hb1
  have c1_0_0 := HQ1_0.out.cell 0
  have c1_0_1 := HQ1_0.out.cell 1
  have z1_0 := HQ1_0.out.lt
  simp at c1_0_0 c1_0_1
  go_wp2_with fail
  refine (hO _).mono ?_
  rintro e w2 ⟨rfl, hb2⟩
  have HQ2_0 := Lib.hid (HQ1_0.out.below hb2 HQ1_0.out.lt)
  have HB2 := Lib.hid (HB1.out.trans (hb2.mono HB1.out.size))
  clear hb2 c1_0_0 c1_0_1 z1_0
  have c2_0_0 := HQ2_0.out.cell 0
  have c2_0_1 := HQ2_0.out.cell 1
  have z2_0 := HQ2_0.out.lt
  simp at c2_0_0 c2_0_1
  go_wp2_with fail
  refine (hA _).mono ?_
  rintro e w3 ⟨rfl, hb3⟩
  have HQ3_0 := Lib.hid (HQ2_0.out.below hb3 HQ2_0.out.lt)
  have HB3 := Lib.hid (HB2.out.trans (hb3.mono HB2.out.size))
  clear hb3 c2_0_0 c2_0_1 z2_0
  have c3_0_0 := HQ3_0.out.cell 0
  have c3_0_1 := HQ3_0.out.cell 1
  have z3_0 := HQ3_0.out.lt
  simp at c3_0_0 c3_0_1
  have HQ4_0 := Lib.hid (HQ3_0.out.alloc (.cells #[.int .u32 (x0 : Int), .int .u32 (x1 : Int), .int .u32 (x2 : Int), .int .u32 (x3 : Int), .int .u32 (x4 : Int), .int .u32 (x5 : Int), .int .u32 (x6 : Int), .int .u32 (x7 : Int)] 64))
  have HQ4_1 := Lib.hid (Blk.new w3 64 #[.int .u32 (x0 : Int), .int .u32 (x1 : Int), .int .u32 (x2 : Int), .int .u32 (x3 : Int), .int .u32 (x4 : Int), .int .u32 (x5 : Int), .int .u32 (x6 : Int), .int .u32 (x7 : Int)])
  have HB4 := Lib.hid (HB3.out.alloc HB3.out.size (.cells #[.int .u32 (x0 : Int), .int .u32 (x1 : Int), .int .u32 (x2 : Int), .int .u32 (x3 : Int), .int .u32 (x4 : Int), .int .u32 (x5 : Int), .int .u32 (x6 : Int), .int .u32 (x7 : Int)] 64))
  go_wp2_with fail
  obtain ⟨G, hG⟩ : ∃ G, w3.heap.size = G := ⟨_, rfl⟩
  obtain ⟨W7, hW7⟩ : ∃ W, (w3.alloc (.cells #[.int .u32 (x0 : Int), .int .u32 (x1 : Int), .int .u32 (x2 : Int), .int .u32 (x3 : Int), .int .u32 (x4 : Int), .int .u32 (x5 : Int), .int .u32 (x6 : Int), .int .u32 (x7 : Int)] 64)) = W := ⟨_, rfl⟩
  have R7 : Hid (Blk W7 w.heap.size 34 #[.int .u32 (p : Int), .bool th]) := Lib.hid (by rw [← hW7]; exact HQ4_0.out)
  have N7 : Hid (Blk W7 G 64 #[.int .u32 (x0 : Int), .int .u32 (x1 : Int), .int .u32 (x2 : Int), .int .u32 (x3 : Int), .int .u32 (x4 : Int), .int .u32 (x5 : Int), .int .u32 (x6 : Int), .int .u32 (x7 : Int)]) := Lib.hid (by rw [← hW7, ← hG]; exact HQ4_1.out)
  have B7 : Hid (Below w.heap.size w W7) := Lib.hid (by rw [← hW7]; exact HB4.out)
  rw [hW7, hG]
  clear hW7 hG HQ4_0 HQ4_1 HB4 HB1 HB2 HB3 HB0 HQ0 HQ1_0 HQ2_0 HQ3_0 hM hO hA
  go_cut [12, 13] from 29 to 35 (fun y z wx => ∃ g, y = .pointer (some ⟨g, 0, none⟩) ∧ z = .int .u64 (s : Int) ∧ Blk wx g 64 #[.int .u32 (y0 : Int), .int .u32 (y1 : Int), .int .u32 (y2 : Int), .int .u32 (y3 : Int), .int .u32 (y4 : Int), .int .u32 (y5 : Int), .int .u32 (y6 : Int), .int .u32 (y7 : Int)] ∧ Below W7.heap.size W7 wx)
  case first =>
    have hr7 := Below.refl W7.heap.size W7
    have hs7 : W7.heap.size ≤ W7.heap.size := Nat.le_refl _
    go_region_held3 (fun W => W.cell? ⟨w.heap.size, 0, none⟩ = some (.int .u32 (p : Int)) ∧ W.cell? ⟨w.heap.size, 1, none⟩ = some (.bool th) ∧ W.cell? ⟨G, 0, none⟩ = some (.int .u32 (x0 : Int)) ∧ W.cell? ⟨G, 1, none⟩ = some (.int .u32 (x1 : Int)) ∧ W.cell? ⟨G, 2, none⟩ = some (.int .u32 (x2 : Int)) ∧ W.cell? ⟨G, 3, none⟩ = some (.int .u32 (x3 : Int)) ∧ W.cell? ⟨G, 4, none⟩ = some (.int .u32 (x4 : Int)) ∧ W.cell? ⟨G, 5, none⟩ = some (.int .u32 (x5 : Int)) ∧ W.cell? ⟨G, 6, none⟩ = some (.int .u32 (x6 : Int)) ∧ W.cell? ⟨G, 7, none⟩ = some (.int .u32 (x7 : Int))) ((refine two_eight R7.out N7.out ?_; go_grown))
      (first
        | (go_at_call 7; go_must (refine (hU _).mono ?_); rintro e w8 ⟨rfl, hb8⟩; have hb78 : Below W7.heap.size W7 w8 := (by (refine Below.trans ?_ (hb8.mono ?_)) <;> go_grown); have hs8 := hb78.size; (try (have Z8 : Hid (Blk w8 W7.heap.size 64 #[.int .u32 0, .int .u32 0, .int .u32 0, .int .u32 0, .int .u32 0, .int .u32 0, .int .u32 0, .int .u32 0]) := Lib.hid (by first | exact (Blk.new W7 _ _).below hb8 (by simp) | exact ((Blk.new W7 _ _).drew).below hb8 (by simp)))); clear hb8)
        | (go_at_call 30; go_must (refine (hD _).mono ?_); rintro e w9 ⟨rfl, hb9⟩; have hb79 : Below W7.heap.size W7 w9 := (by (refine Below.trans ?_ (hb9.mono ?_)) <;> go_grown); have hs9 := hb79.size; (first | (have Z9 : Hid (Blk w9 W7.heap.size 64 #[.int .u32 0, .int .u32 0, .int .u32 0, .int .u32 0, .int .u32 0, .int .u32 0, .int .u32 0, .int .u32 0]) := Lib.hid (by first | exact Z8.out.below hb9 Z8.out.lt | exact Z8.out.drew.below hb9 Z8.out.lt)) | (have Z9 : Hid (Blk w9 w8.heap.size 64 #[.int .u32 0, .int .u32 0, .int .u32 0, .int .u32 0, .int .u32 0, .int .u32 0, .int .u32 0, .int .u32 0]) := Lib.hid (by first | exact (Blk.new w8 _ _).below hb9 (by simp) | exact ((Blk.new w8 _ _).drew).below hb9 (by simp))) | skip); (try (obtain ⟨m0, m1, m2, m3, m4, m5, m6, m7⟩ := eightc Z9.out (Below.refl _ _); have g0 := Z9.out.frozen 0; have g1 := Z9.out.frozen 1; have g2 := Z9.out.frozen 2; have g3 := Z9.out.frozen 3; have g4 := Z9.out.frozen 4; have g5 := Z9.out.frozen 5; have g6 := Z9.out.frozen 6; have g7 := Z9.out.frozen 7)); clear hb9))
    all_goals
      go_wp2_with fail
      go_meet
      case rel =>
        refine ⟨_, rfl, rfl, ?_, ?_⟩
        · first
            | (with_reducible exact Blk.new w9 _ _)
            | exact ((((((((Z9.out.set_ 0 (.int .u32 (y0 : Int))).set_ 1 (.int .u32 (y1 : Int))).set_ 2 (.int .u32 (y2 : Int))).set_ 3 (.int .u32 (y3 : Int))).set_ 4 (.int .u32 (y4 : Int))).set_ 5 (.int .u32 (y5 : Int))).set_ 6 (.int .u32 (y6 : Int))).set_ 7 (.int .u32 (y7 : Int)))
        · go_grown
  case rest =>
    obtain ⟨g, rfl, rfl, hR8, hb78⟩ := hcut
    have B8 := Lib.hid (B7.out.trans (hb78.mono B7.out.size))
    obtain ⟨m0, m1, m2, m3, m4, m5, m6, m7⟩ := eightc hR8 (Below.refl _ _)
    clear hb78
    go_wp2_with fail
    refine (hF _).mono ?_
    rintro e w10 ⟨rfl, hb10⟩
    have B10 := Lib.hid (B8.out.trans (hb10.mono B8.out.size))
    clear hb10 m0 m1 m2 m3 m4 m5 m6 m7
    go_wp2_with fail
    go_ret2
    exact ⟨rfl, B10.out⟩
end Go.Proofs.YtbfekonlgbolcaaDoor
