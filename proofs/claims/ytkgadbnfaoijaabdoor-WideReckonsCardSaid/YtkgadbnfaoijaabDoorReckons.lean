/-
  WideReckons: the walk. Conditions: the numbers' kinds; errors.errorType is laid.
-/
import Derived.Test.YtkgadbnfaoijaabDoorWideB
import Derived.Test.YtkgadbnfaoijaabDoorCodeC
import Derived.Test.YtkgadbnfaoijaabDoorRefP
import Derived.Test.YtkgadbnfaoijaabDoorRefQ
import Derived.Test.YtkgadbnfaoijaabDoorRefR
import Derived.Test.YtkgadbnfaoijaabDoorRefL
import Derived.Test.YtkgadbnfaoijaabDoorSameW
import Derived.Deep.RegionWith
import Derived.Deep.RegionHeld3
import Derived.Deep.CutBlock
import Derived.Handy
namespace Go.Proofs.YtkgadbnfaoijaabDoor
open Go.RowKit Go.BigFrame

theorem blk_on {W W' : World} {o : Obj} {g : Nat} {t : TypeId} {cs : Array Value} (h : Blk W g t cs) (hb : Below (W.alloc o).heap.size (W.alloc o) W') : Blk W' g t cs :=
  (h.alloc o).below hb (h.alloc o).lt
theorem blk_new {W W' : World} {g : Nat} {t : TypeId} {cs : Array Value} (hb : Below (W.alloc (.cells cs t)).heap.size (W.alloc (.cells cs t)) W') (hg : W.heap.size = g) : Blk W' g t cs := by
  subst hg
  exact (Blk.new W t cs).below hb (Blk.new W t cs).lt
theorem below_next {W0 W W' : World} {o : Obj} (h : Below W0.heap.size W0 W) (hb : Below (W.alloc o).heap.size (W.alloc o) W') : Below W0.heap.size W0 W' :=
  (h.alloc h.size o).trans (hb.mono (Nat.le_trans h.size (by rw [World.size_alloc]; omega)))

theorem lt_sq (N : Nat) (h : N / 18446744073709551616 < 18446744073709551616) : N < 340282366920938463463374607431768211456 := by omega
theorem lt_two (a b : Nat) (ha : a < 18446744073709551616) (hb : b < 18446744073709551616) : a * 18446744073709551616 + b < 340282366920938463463374607431768211456 := by omega
theorem eightc {W W' : World} {g : Nat} {t : TypeId} {c0 c1 c2 c3 c4 c5 c6 c7 : Value} (h : Blk W g t #[c0, c1, c2, c3, c4, c5, c6, c7]) (hb : Below W.heap.size W W') :
    W'.cell? ⟨g, 0, none⟩ = some c0 ∧ W'.cell? ⟨g, 1, none⟩ = some c1 ∧ W'.cell? ⟨g, 2, none⟩ = some c2 ∧ W'.cell? ⟨g, 3, none⟩ = some c3 ∧ W'.cell? ⟨g, 4, none⟩ = some c4 ∧ W'.cell? ⟨g, 5, none⟩ = some c5 ∧ W'.cell? ⟨g, 6, none⟩ = some c6 ∧ W'.cell? ⟨g, 7, none⟩ = some c7 := by
  have k := h.below hb h.lt
  exact ⟨k.cell 0, k.cell 1, k.cell 2, k.cell 3, k.cell 4, k.cell 5, k.cell 6, k.cell 7⟩

/-- A sum: what the program says of it, and what the document does. -/
theorem plus_ex (a b c d : Nat) (ha : a < 18446744073709551616) (hb : b < 18446744073709551616) (hc : c < 18446744073709551616) (hd : d < 18446744073709551616) :
    ∃ (e : Value) (sh sl t0 t1 t2 t3 t4 t5 t6 t7 : Nat) (f : Bool), (∀ W, Calls Tryd.prog 13 #[wv a b, wv c d] W (Ret (.tuple #[.agg #[.int .u64 (sh : Int), .int .u64 (sl : Int)], e]) W)) ∧
      (∀ W, Calls Tryd.prog 14 #[bgv (digs 8 (a * 18446744073709551616 + b)), bgv (digs 8 (c * 18446744073709551616 + d))] W fun en w' => en = .returned (.tuple #[bgv [t0, t1, t2, t3, t4, t5, t6, t7], .bool f]) ∧ Below W.heap.size W w') ∧
      ((e = .nilIface ∧ f = true ∧ ∀ W, Calls Tryd.prog 16 #[.agg #[.int .u64 (sh : Int), .int .u64 (sl : Int)], bgv [t0, t1, t2, t3, t4, t5, t6, t7]] W (Ret (.bool true) W)) ∨
        (e = .iface 38 (.int .i64 12) ∧ f = false ∧ sh = 0 ∧ sl = 0)) := by
  have hR := fun W => RefAdd_any (a * 18446744073709551616 + b) (c * 18446744073709551616 + d) (by omega) (by omega) W
  obtain ⟨S, hS⟩ : ∃ S, a * 18446744073709551616 + b + (c * 18446744073709551616 + d) = S := ⟨_, rfl⟩
  rw [hS] at hR
  obtain ⟨t0, t1, t2, t3, t4, t5, t6, t7, et⟩ := eight (digs 8 (S % 340282366920938463463374607431768211456)) (digs_length 8 _)
  by_cases hs : S < 340282366920938463463374607431768211456
  · have h1 := fun W => Plus_ok a b c d S hb hd hS hs W
    have h2 := fun W => same_any S hs W
    rw [Nat.mod_eq_of_lt hs] at et hR
    rw [et] at h2 hR
    rw [decide_eq_true hs] at hR
    obtain ⟨sh, sl, es, -, -⟩ := wof_ex S
    rw [es] at h1 h2
    exact ⟨_, sh, sl, t0, t1, t2, t3, t4, t5, t6, t7, true, h1, hR, Or.inl ⟨rfl, rfl, h2⟩⟩
  · rw [et, decide_eq_false hs] at hR
    exact ⟨_, 0, 0, t0, t1, t2, t3, t4, t5, t6, t7, false, fun W => Plus_over a b c d ha hb hc hd (by omega) W, hR, Or.inr ⟨rfl, rfl, rfl, rfl⟩⟩
theorem add_ex (a b n : Nat) (ha : a < 18446744073709551616) (hb : b < 18446744073709551616) (hn : n < 18446744073709551616) :
    ∃ (e : Value) (sh sl t0 t1 t2 t3 t4 t5 t6 t7 : Nat) (f : Bool), (∀ W, Calls Tryd.prog 15 #[wv a b, .int .u64 (n : Int)] W (Ret (.tuple #[.agg #[.int .u64 (sh : Int), .int .u64 (sl : Int)], e]) W)) ∧
      (∀ W, Calls Tryd.prog 14 #[bgv (digs 8 (a * 18446744073709551616 + b)), bgv (digs 8 n)] W fun en w' => en = .returned (.tuple #[bgv [t0, t1, t2, t3, t4, t5, t6, t7], .bool f]) ∧ Below W.heap.size W w') ∧
      ((e = .nilIface ∧ f = true ∧ ∀ W, Calls Tryd.prog 16 #[.agg #[.int .u64 (sh : Int), .int .u64 (sl : Int)], bgv [t0, t1, t2, t3, t4, t5, t6, t7]] W (Ret (.bool true) W)) ∨
        (e = .iface 38 (.int .i64 12) ∧ f = false ∧ sh = 0 ∧ sl = 0)) := by
  have hR := fun W => RefAdd_any (a * 18446744073709551616 + b) n (by omega) (by omega) W
  obtain ⟨S, hS⟩ : ∃ S, a * 18446744073709551616 + b + n = S := ⟨_, rfl⟩
  rw [hS] at hR
  obtain ⟨t0, t1, t2, t3, t4, t5, t6, t7, et⟩ := eight (digs 8 (S % 340282366920938463463374607431768211456)) (digs_length 8 _)
  by_cases hs : S < 340282366920938463463374607431768211456
  · have h1 := fun W => Add_ok a b n S hb hn hS hs W
    have h2 := fun W => same_any S hs W
    rw [Nat.mod_eq_of_lt hs] at et hR
    rw [et] at h2 hR
    rw [decide_eq_true hs] at hR
    obtain ⟨sh, sl, es, -, -⟩ := wof_ex S
    rw [es] at h1 h2
    exact ⟨_, sh, sl, t0, t1, t2, t3, t4, t5, t6, t7, true, h1, hR, Or.inl ⟨rfl, rfl, h2⟩⟩
  · rw [et, decide_eq_false hs] at hR
    exact ⟨_, 0, 0, t0, t1, t2, t3, t4, t5, t6, t7, false, fun W => Add_over a b n ha hb hn (by omega) W, hR, Or.inr ⟨rfl, rfl, rfl, rfl⟩⟩

set_option maxHeartbeats 8000000 in
set_option maxRecDepth 20000 in
theorem Reckons_any (a b c d n : Nat) (ha : a < 18446744073709551616) (hb : b < 18446744073709551616) (hc : c < 18446744073709551616) (hd : d < 18446744073709551616) (hn : n < 18446744073709551616) (w : World) (hw : Laid w) :
    Calls Tryd.prog 3 #[.int .u64 a, .int .u64 b, .int .u64 c, .int .u64 d, .int .u64 n] w (Ret (.bool true) w) := by
  have HW := Lib.hid hw
  clear hw
  have hX := fun W => Of_any a b ha hb W
  have hY := fun W => Of_any c d hc hd W
  have hZ := fun W => Of_any 0 n (by decide) hn W
  rw [Nat.zero_mul, Nat.zero_add] at hZ
  obtain ⟨e1, sh, sl, t0, t1, t2, t3, t4, t5, t6, t7, f1, p1, p2, p3⟩ := plus_ex a b c d ha hb hc hd
  obtain ⟨e2, uh, ul, r0, r1, r2, r3, r4, r5, r6, r7, f2, q1, q2, q3⟩ := add_ex a b n ha hb hn
  obtain ⟨x0, x1, x2, x3, x4, x5, x6, x7, ex⟩ := eight (digs 8 (a * 18446744073709551616 + b)) (digs_length 8 _)
  obtain ⟨y0, y1, y2, y3, y4, y5, y6, y7, ey⟩ := eight (digs 8 (c * 18446744073709551616 + d)) (digs_length 8 _)
  obtain ⟨z0, z1, z2, z3, z4, z5, z6, z7, ez⟩ := eight (digs 8 n) (digs_length 8 _)
  have HEx : Hid (digs 8 (a * 18446744073709551616 + b) = [x0, x1, x2, x3, x4, x5, x6, x7]) := Lib.hid ex
  have HEy : Hid (digs 8 (c * 18446744073709551616 + d) = [y0, y1, y2, y3, y4, y5, y6, y7]) := Lib.hid ey
  rw [ex] at hX p2 q2
  rw [ey] at hY p2
  rw [ez] at hZ q2
  simp only [bgv, List.map_cons, List.map_nil] at hX hY hZ p2 q2 p3 q3
  unfold wv at p1 q1
  have P3 := Lib.hid p3
  have Q3 := Lib.hid q3
  clear ex ey ez p3 q3
  go_enter Tryd.func3, Tryd.ntmps3
  go_wp2_with fail
  refine (awake_any _).mono ?_
  rintro e w1 ⟨rfl, hb1⟩
  go_wp2_with fail
  refine (hX _).mono ?_
  rintro e w2 ⟨rfl, hb2⟩
  go_wp2_with fail
  refine (hY _).mono ?_
  rintro e w3 ⟨rfl, hb3⟩
  obtain ⟨G, hG⟩ : ∃ G, w1.heap.size = G := ⟨_, rfl⟩
  rw [hG]
  have hv : Blk ((w1.alloc (.cells #[.int .u64 (a : Int), .int .u64 (b : Int)] 25)).alloc (.cells #[.int .u64 (c : Int), .int .u64 (d : Int)] 25)) G 25 #[.int .u64 (a : Int), .int .u64 (b : Int)] := by
    rw [← hG]
    exact (Blk.new w1 _ _).alloc _
  have hw2 : Blk ((w1.alloc (.cells #[.int .u64 (a : Int), .int .u64 (b : Int)] 25)).alloc (.cells #[.int .u64 (c : Int), .int .u64 (d : Int)] 25)) (G + 1) 25 #[.int .u64 (c : Int), .int .u64 (d : Int)] := by
    have h := Blk.new (w1.alloc (.cells #[.int .u64 (a : Int), .int .u64 (b : Int)] 25)) 25 #[.int .u64 (c : Int), .int .u64 (d : Int)]
    rw [World.size_alloc, hG] at h
    exact h
  have V3 := Lib.hid ((hv.below hb2 hv.lt).below hb3 (hv.below hb2 hv.lt).lt)
  have U3 := Lib.hid ((hw2.below hb2 hw2.lt).below hb3 (hw2.below hb2 hw2.lt).lt)
  have hb3' : Below w.heap.size w w3 := by
    have h := (hb1.alloc hb1.size (.cells #[.int .u64 (a : Int), .int .u64 (b : Int)] 25)).alloc (Nat.le_trans hb1.size (by simp)) (.cells #[.int .u64 (c : Int), .int .u64 (d : Int)] 25)
    have h2 := h.trans (hb2.mono h.size)
    exact h2.trans (hb3.mono h2.size)
  have B3 := Lib.hid hb3'
  clear hv hw2 hG hb1 hb2 hb3 hb3'
  have hGl := U3.out.lt
  have hGl0 := V3.out.lt
  have v0 := V3.out.cell 0
  have v1 := V3.out.cell 1
  have u0 := U3.out.cell 0
  have u1 := U3.out.cell 1
  simp only [List.getElem?_toArray, List.getElem?_cons_zero, List.getElem?_cons_succ] at v0 v1 u0 u1
  go_wp2_with fail
  refine (p1 _).mono ?_
  rintro e w4 ⟨rfl, hb4⟩
  obtain ⟨H, hH⟩ : ∃ H, w3.heap.size = H := ⟨_, rfl⟩
  rw [hH] at hGl hGl0 ⊢
  have hx : Blk ((w3.alloc (.cells #[.int .u32 x0, .int .u32 x1, .int .u32 x2, .int .u32 x3, .int .u32 x4, .int .u32 x5, .int .u32 x6, .int .u32 x7] 28)).alloc (.cells #[.int .u32 y0, .int .u32 y1, .int .u32 y2, .int .u32 y3, .int .u32 y4, .int .u32 y5, .int .u32 y6, .int .u32 y7] 28)) H 28 #[.int .u32 x0, .int .u32 x1, .int .u32 x2, .int .u32 x3, .int .u32 x4, .int .u32 x5, .int .u32 x6, .int .u32 x7] := by
    rw [← hH]
    exact (Blk.new w3 _ _).alloc _
  have hy : Blk ((w3.alloc (.cells #[.int .u32 x0, .int .u32 x1, .int .u32 x2, .int .u32 x3, .int .u32 x4, .int .u32 x5, .int .u32 x6, .int .u32 x7] 28)).alloc (.cells #[.int .u32 y0, .int .u32 y1, .int .u32 y2, .int .u32 y3, .int .u32 y4, .int .u32 y5, .int .u32 y6, .int .u32 y7] 28)) (H + 1) 28 #[.int .u32 y0, .int .u32 y1, .int .u32 y2, .int .u32 y3, .int .u32 y4, .int .u32 y5, .int .u32 y6, .int .u32 y7] := by
    have h := Blk.new (w3.alloc (.cells #[.int .u32 x0, .int .u32 x1, .int .u32 x2, .int .u32 x3, .int .u32 x4, .int .u32 x5, .int .u32 x6, .int .u32 x7] 28)) 28 #[.int .u32 y0, .int .u32 y1, .int .u32 y2, .int .u32 y3, .int .u32 y4, .int .u32 y5, .int .u32 y6, .int .u32 y7]
    rw [World.size_alloc, hH] at h
    exact h
  have X4 := Lib.hid (hx.below hb4 hx.lt)
  have Y4 := Lib.hid (hy.below hb4 hy.lt)
  have V4 := Lib.hid (blk_on (V3.out.alloc _) hb4)
  have U4 := Lib.hid (blk_on (U3.out.alloc _) hb4)
  have B4 := Lib.hid (below_next (B3.out.alloc B3.out.size _) hb4)
  clear hx hy hH hb4 V3 U3 B3 v0 v1 u0 u1 hGl hGl0
  have hHl := Y4.out.lt
  have hHl0 := X4.out.lt
  have cx0 := X4.out.cell 0
  have cx1 := X4.out.cell 1
  have cx2 := X4.out.cell 2
  have cx3 := X4.out.cell 3
  have cx4 := X4.out.cell 4
  have cx5 := X4.out.cell 5
  have cx6 := X4.out.cell 6
  have cx7 := X4.out.cell 7
  simp only [List.getElem?_toArray, List.getElem?_cons_zero, List.getElem?_cons_succ] at cx0 cx1 cx2 cx3 cx4 cx5 cx6 cx7
  have cy0 := Y4.out.cell 0
  have cy1 := Y4.out.cell 1
  have cy2 := Y4.out.cell 2
  have cy3 := Y4.out.cell 3
  have cy4 := Y4.out.cell 4
  have cy5 := Y4.out.cell 5
  have cy6 := Y4.out.cell 6
  have cy7 := Y4.out.cell 7
  simp only [List.getElem?_toArray, List.getElem?_cons_zero, List.getElem?_cons_succ] at cy0 cy1 cy2 cy3 cy4 cy5 cy6 cy7
  go_wp2_with fail
  refine (p2 _).mono ?_
  rintro e w5 ⟨rfl, hb5⟩
  have S5 := Lib.hid (blk_new hb5 rfl)
  have X5 := Lib.hid (blk_on X4.out hb5)
  have Y5 := Lib.hid (blk_on Y4.out hb5)
  have V5 := Lib.hid (blk_on V4.out hb5)
  have U5 := Lib.hid (blk_on U4.out hb5)
  have B5 := Lib.hid (below_next B4.out hb5)
  obtain ⟨I, hI⟩ : ∃ I, w4.heap.size = I := ⟨_, rfl⟩
  rw [hI] at S5 ⊢
  clear hI hb5 X4 Y4 V4 U4 B4 hHl hHl0 cx0 cx1 cx2 cx3 cx4 cx5 cx6 cx7 cy0 cy1 cy2 cy3 cy4 cy5 cy6 cy7
  have hIl := S5.out.lt
  have v0 := V5.out.cell 0
  have v1 := V5.out.cell 1
  simp only [List.getElem?_toArray, List.getElem?_cons_zero, List.getElem?_cons_succ] at v0 v1
  have hVl := V5.out.lt
  go_wp2_with fail
  refine (q1 _).mono ?_
  rintro e w6 ⟨rfl, hb6⟩
  have T6 := Lib.hid (blk_new hb6 rfl)
  have S6 := Lib.hid (blk_on S5.out hb6)
  have X6 := Lib.hid (blk_on X5.out hb6)
  have Y6 := Lib.hid (blk_on Y5.out hb6)
  have V6 := Lib.hid (blk_on V5.out hb6)
  have U6 := Lib.hid (blk_on U5.out hb6)
  have B6 := Lib.hid (below_next B5.out hb6)
  obtain ⟨J, hJ⟩ : ∃ J, w5.heap.size = J := ⟨_, rfl⟩
  rw [hJ] at T6 ⊢
  clear hJ hb6 S5 X5 Y5 V5 U5 B5 hIl hVl v0 v1
  go_wp2_with fail
  obtain ⟨K0, hK0⟩ : ∃ K, w6.heap.size = K := ⟨_, rfl⟩
  rw [hK0]
  obtain ⟨W7, hW7⟩ : ∃ W, w6.alloc (.cells #[.int .u64 (uh : Int), .int .u64 (ul : Int)] 25) = W := ⟨_, rfl⟩
  have N7 : Hid (Blk W7 K0 25 #[.int .u64 (uh : Int), .int .u64 (ul : Int)]) := Lib.hid (by rw [← hW7, ← hK0]; exact Blk.new w6 _ _)
  have T7 := Lib.hid (hW7 ▸ T6.out.alloc (.cells #[.int .u64 (uh : Int), .int .u64 (ul : Int)] 25))
  have S7 := Lib.hid (hW7 ▸ S6.out.alloc (.cells #[.int .u64 (uh : Int), .int .u64 (ul : Int)] 25))
  have X7 := Lib.hid (hW7 ▸ X6.out.alloc (.cells #[.int .u64 (uh : Int), .int .u64 (ul : Int)] 25))
  have Y7 := Lib.hid (hW7 ▸ Y6.out.alloc (.cells #[.int .u64 (uh : Int), .int .u64 (ul : Int)] 25))
  have V7 := Lib.hid (hW7 ▸ V6.out.alloc (.cells #[.int .u64 (uh : Int), .int .u64 (ul : Int)] 25))
  have U7 := Lib.hid (hW7 ▸ U6.out.alloc (.cells #[.int .u64 (uh : Int), .int .u64 (ul : Int)] 25))
  have B7 := Lib.hid (hW7 ▸ B6.out.alloc B6.out.size (.cells #[.int .u64 (uh : Int), .int .u64 (ul : Int)] 25))
  rw [hW7]
  clear hW7 hK0 T6 S6 X6 Y6 V6 U6 B6
  go_cut [21, 22] from 60 to 66 (fun p q wx => ∃ g, p = .pointer (some ⟨g, 0, none⟩) ∧ q = .bool f2 ∧ Blk wx g 28 #[.int .u32 r0, .int .u32 r1, .int .u32 r2, .int .u32 r3, .int .u32 r4, .int .u32 r5, .int .u32 r6, .int .u32 r7] ∧ Below W7.heap.size W7 wx)
  case first =>
    have hr7 := Below.refl W7.heap.size W7
    have hs7 : W7.heap.size ≤ W7.heap.size := Nat.le_refl _
    go_region_held3 (fun w' => w'.cell? ⟨H, 0, none⟩ = some (.int .u32 (x0 : Int)) ∧ w'.cell? ⟨H, 1, none⟩ = some (.int .u32 (x1 : Int)) ∧ w'.cell? ⟨H, 2, none⟩ = some (.int .u32 (x2 : Int)) ∧ w'.cell? ⟨H, 3, none⟩ = some (.int .u32 (x3 : Int)) ∧ w'.cell? ⟨H, 4, none⟩ = some (.int .u32 (x4 : Int)) ∧ w'.cell? ⟨H, 5, none⟩ = some (.int .u32 (x5 : Int)) ∧ w'.cell? ⟨H, 6, none⟩ = some (.int .u32 (x6 : Int)) ∧ w'.cell? ⟨H, 7, none⟩ = some (.int .u32 (x7 : Int))) ((refine eightc X7.out ?_; go_grown))
      (first
        | (go_at_call 12; go_must (refine (hZ _).mono ?_); rintro e w8 ⟨rfl, hb8⟩; have hb78 : Below W7.heap.size W7 w8 := (by (refine Below.trans ?_ (hb8.mono ?_)) <;> go_grown); have hs8 := hb78.size; (try (have Z8 : Hid (Blk w8 W7.heap.size 28 #[.int .u32 0, .int .u32 0, .int .u32 0, .int .u32 0, .int .u32 0, .int .u32 0, .int .u32 0, .int .u32 0]) := Lib.hid (by first | exact (Blk.new W7 _ _).below hb8 (by simp) | exact ((Blk.new W7 _ _).drew).below hb8 (by simp)))); clear hb8)
        | (go_at_call 14; go_must (refine (q2 _).mono ?_); rintro e w9 ⟨rfl, hb9⟩; have hb79 : Below W7.heap.size W7 w9 := (by (refine Below.trans ?_ (hb9.mono ?_)) <;> go_grown); have hs9 := hb79.size; (first | (have Z9 : Hid (Blk w9 W7.heap.size 28 #[.int .u32 0, .int .u32 0, .int .u32 0, .int .u32 0, .int .u32 0, .int .u32 0, .int .u32 0, .int .u32 0]) := Lib.hid (by first | exact Z8.out.below hb9 Z8.out.lt | exact Z8.out.drew.below hb9 Z8.out.lt)) | (have Z9 : Hid (Blk w9 w8.heap.size 28 #[.int .u32 0, .int .u32 0, .int .u32 0, .int .u32 0, .int .u32 0, .int .u32 0, .int .u32 0, .int .u32 0]) := Lib.hid (by first | exact (Blk.new w8 _ _).below hb9 (by simp) | exact ((Blk.new w8 _ _).drew).below hb9 (by simp))) | skip); (try (obtain ⟨m0, m1, m2, m3, m4, m5, m6, m7⟩ := eightc Z9.out (Below.refl _ _); have g0 := Z9.out.frozen 0; have g1 := Z9.out.frozen 1; have g2 := Z9.out.frozen 2; have g3 := Z9.out.frozen 3; have g4 := Z9.out.frozen 4; have g5 := Z9.out.frozen 5; have g6 := Z9.out.frozen 6; have g7 := Z9.out.frozen 7)); clear hb9))
    all_goals
      go_wp2_with fail
      go_meet
      case rel =>
        refine ⟨_, rfl, rfl, ?_, ?_⟩
        · first
            | (with_reducible exact Blk.new w9 _ _)
            | exact ((((((((Z9.out.set_ 0 (.int .u32 (r0 : Int))).set_ 1 (.int .u32 (r1 : Int))).set_ 2 (.int .u32 (r2 : Int))).set_ 3 (.int .u32 (r3 : Int))).set_ 4 (.int .u32 (r4 : Int))).set_ 5 (.int .u32 (r5 : Int))).set_ 6 (.int .u32 (r6 : Int))).set_ 7 (.int .u32 (r7 : Int)))
        · go_grown
  case rest =>
    obtain ⟨g, rfl, rfl, hR8, hb78⟩ := hcut
    have R8 := Lib.hid hR8
    have V8 := Lib.hid (V7.out.below hb78 V7.out.lt)
    have U8 := Lib.hid (U7.out.below hb78 U7.out.lt)
    have S8 := Lib.hid (S7.out.below hb78 S7.out.lt)
    have N8 := Lib.hid (N7.out.below hb78 N7.out.lt)
    have X8 := Lib.hid (X7.out.below hb78 X7.out.lt)
    have Y8 := Lib.hid (Y7.out.below hb78 Y7.out.lt)
    have T8 := Lib.hid (T7.out.below hb78 T7.out.lt)
    have B8 := Lib.hid (B7.out.trans (hb78.mono B7.out.size))
    have L8 := Lib.hid (HW.out.below B8.out)
    clear hR8 hb78 V7 U7 S7 N7 X7 Y7 T7 B7
    go_upto_region 9 with (fail)
    go_cut [119] from 67 to 119 (fun q wx => q = .bool false ∧ Below wc.heap.size wc wx)
    case first =>
      rcases P3.out with ⟨rfl, rfl, p3⟩ | ⟨rfl, rfl, rfl, rfl⟩
      · rcases Q3.out with ⟨rfl, rfl, q3⟩ | ⟨rfl, rfl, rfl, rfl⟩
        · skip
          have fs0 := S8.out.cell 0
          have fs1 := S8.out.cell 1
          have ft0 := T8.out.cell 0
          have ft1 := T8.out.cell 1
          have ft2 := T8.out.cell 2
          have ft3 := T8.out.cell 3
          have ft4 := T8.out.cell 4
          have ft5 := T8.out.cell 5
          have ft6 := T8.out.cell 6
          have ft7 := T8.out.cell 7
          have fn0 := N8.out.cell 0
          have fn1 := N8.out.cell 1
          have fr0 := R8.out.cell 0
          have fr1 := R8.out.cell 1
          have fr2 := R8.out.cell 2
          have fr3 := R8.out.cell 3
          have fr4 := R8.out.cell 4
          have fr5 := R8.out.cell 5
          have fr6 := R8.out.cell 6
          have fr7 := R8.out.cell 7
          simp only [List.getElem?_toArray, List.getElem?_cons_zero, List.getElem?_cons_succ] at fs0 fs1 ft0 ft1 ft2 ft3 ft4 ft5 ft6 ft7 fn0 fn1 fr0 fr1 fr2 fr3 fr4 fr5 fr6 fr7
          go_wp2_with fail
          refine (p3 _).mono ?_
          rintro e w10 ⟨rfl, hb10⟩
          have S10 := Lib.hid (S8.out.below hb10 S8.out.lt)
          have T10 := Lib.hid (T8.out.below hb10 T8.out.lt)
          have N10 := Lib.hid (N8.out.below hb10 N8.out.lt)
          have R10 := Lib.hid (R8.out.below hb10 R8.out.lt)
          have L10 := Lib.hid (L8.out.below hb10)
          have hT10 := hb10
          clear hb10 fs0 fs1 ft0 ft1 ft2 ft3 ft4 ft5 ft6 ft7 fn0 fn1 fr0 fr1 fr2 fr3 fr4 fr5 fr6 fr7
          have fs0 := S10.out.cell 0
          have fs1 := S10.out.cell 1
          have ft0 := T10.out.cell 0
          have ft1 := T10.out.cell 1
          have ft2 := T10.out.cell 2
          have ft3 := T10.out.cell 3
          have ft4 := T10.out.cell 4
          have ft5 := T10.out.cell 5
          have ft6 := T10.out.cell 6
          have ft7 := T10.out.cell 7
          have fn0 := N10.out.cell 0
          have fn1 := N10.out.cell 1
          have fr0 := R10.out.cell 0
          have fr1 := R10.out.cell 1
          have fr2 := R10.out.cell 2
          have fr3 := R10.out.cell 3
          have fr4 := R10.out.cell 4
          have fr5 := R10.out.cell 5
          have fr6 := R10.out.cell 6
          have fr7 := R10.out.cell 7
          simp only [List.getElem?_toArray, List.getElem?_cons_zero, List.getElem?_cons_succ] at fs0 fs1 ft0 ft1 ft2 ft3 ft4 ft5 ft6 ft7 fn0 fn1 fr0 fr1 fr2 fr3 fr4 fr5 fr6 fr7
          go_wp2_with fail
          refine (q3 _).mono ?_
          rintro e w11 ⟨rfl, hb11⟩
          have S11 := Lib.hid (S10.out.below hb11 S10.out.lt)
          have T11 := Lib.hid (T10.out.below hb11 T10.out.lt)
          have N11 := Lib.hid (N10.out.below hb11 N10.out.lt)
          have R11 := Lib.hid (R10.out.below hb11 R10.out.lt)
          have L11 := Lib.hid (L10.out.below hb11)
          have hT11 := hT10.trans (hb11.mono hT10.size)
          clear hb11 fs0 fs1 ft0 ft1 ft2 ft3 ft4 ft5 ft6 ft7 fn0 fn1 fr0 fr1 fr2 fr3 fr4 fr5 fr6 fr7
          have fs0 := S11.out.cell 0
          have fs1 := S11.out.cell 1
          have ft0 := T11.out.cell 0
          have ft1 := T11.out.cell 1
          have ft2 := T11.out.cell 2
          have ft3 := T11.out.cell 3
          have ft4 := T11.out.cell 4
          have ft5 := T11.out.cell 5
          have ft6 := T11.out.cell 6
          have ft7 := T11.out.cell 7
          have fn0 := N11.out.cell 0
          have fn1 := N11.out.cell 1
          have fr0 := R11.out.cell 0
          have fr1 := R11.out.cell 1
          have fr2 := R11.out.cell 2
          have fr3 := R11.out.cell 3
          have fr4 := R11.out.cell 4
          have fr5 := R11.out.cell 5
          have fr6 := R11.out.cell 6
          have fr7 := R11.out.cell 7
          simp only [List.getElem?_toArray, List.getElem?_cons_zero, List.getElem?_cons_succ] at fs0 fs1 ft0 ft1 ft2 ft3 ft4 ft5 ft6 ft7 fn0 fn1 fr0 fr1 fr2 fr3 fr4 fr5 fr6 fr7
          go_wp2_with fail
          go_meet
          case rel => exact ⟨rfl, hT11⟩
        · skip
          have fs0 := S8.out.cell 0
          have fs1 := S8.out.cell 1
          have ft0 := T8.out.cell 0
          have ft1 := T8.out.cell 1
          have ft2 := T8.out.cell 2
          have ft3 := T8.out.cell 3
          have ft4 := T8.out.cell 4
          have ft5 := T8.out.cell 5
          have ft6 := T8.out.cell 6
          have ft7 := T8.out.cell 7
          have fn0 := N8.out.cell 0
          have fn1 := N8.out.cell 1
          have fr0 := R8.out.cell 0
          have fr1 := R8.out.cell 1
          have fr2 := R8.out.cell 2
          have fr3 := R8.out.cell 3
          have fr4 := R8.out.cell 4
          have fr5 := R8.out.cell 5
          have fr6 := R8.out.cell 6
          have fr7 := R8.out.cell 7
          simp only [List.getElem?_toArray, List.getElem?_cons_zero, List.getElem?_cons_succ] at fs0 fs1 ft0 ft1 ft2 ft3 ft4 ft5 ft6 ft7 fn0 fn1 fr0 fr1 fr2 fr3 fr4 fr5 fr6 fr7
          go_wp2_with fail
          refine (p3 _).mono ?_
          rintro e w10 ⟨rfl, hb10⟩
          have S10 := Lib.hid (S8.out.below hb10 S8.out.lt)
          have T10 := Lib.hid (T8.out.below hb10 T8.out.lt)
          have N10 := Lib.hid (N8.out.below hb10 N8.out.lt)
          have R10 := Lib.hid (R8.out.below hb10 R8.out.lt)
          have L10 := Lib.hid (L8.out.below hb10)
          have hT10 := hb10
          clear hb10 fs0 fs1 ft0 ft1 ft2 ft3 ft4 ft5 ft6 ft7 fn0 fn1 fr0 fr1 fr2 fr3 fr4 fr5 fr6 fr7
          have fs0 := S10.out.cell 0
          have fs1 := S10.out.cell 1
          have ft0 := T10.out.cell 0
          have ft1 := T10.out.cell 1
          have ft2 := T10.out.cell 2
          have ft3 := T10.out.cell 3
          have ft4 := T10.out.cell 4
          have ft5 := T10.out.cell 5
          have ft6 := T10.out.cell 6
          have ft7 := T10.out.cell 7
          have fn0 := N10.out.cell 0
          have fn1 := N10.out.cell 1
          have fr0 := R10.out.cell 0
          have fr1 := R10.out.cell 1
          have fr2 := R10.out.cell 2
          have fr3 := R10.out.cell 3
          have fr4 := R10.out.cell 4
          have fr5 := R10.out.cell 5
          have fr6 := R10.out.cell 6
          have fr7 := R10.out.cell 7
          simp only [List.getElem?_toArray, List.getElem?_cons_zero, List.getElem?_cons_succ] at fs0 fs1 ft0 ft1 ft2 ft3 ft4 ft5 ft6 ft7 fn0 fn1 fr0 fr1 fr2 fr3 fr4 fr5 fr6 fr7
          go_wp2_with fail
          refine (Code_errno _ _ L10.out).mono ?_
          rintro e w11 ⟨rfl, hb11⟩
          have S11 := Lib.hid (S10.out.below hb11 S10.out.lt)
          have T11 := Lib.hid (T10.out.below hb11 T10.out.lt)
          have N11 := Lib.hid (N10.out.below hb11 N10.out.lt)
          have R11 := Lib.hid (R10.out.below hb11 R10.out.lt)
          have L11 := Lib.hid (L10.out.below hb11)
          have hT11 := hT10.trans (hb11.mono hT10.size)
          clear hb11 fs0 fs1 ft0 ft1 ft2 ft3 ft4 ft5 ft6 ft7 fn0 fn1 fr0 fr1 fr2 fr3 fr4 fr5 fr6 fr7
          have fs0 := S11.out.cell 0
          have fs1 := S11.out.cell 1
          have ft0 := T11.out.cell 0
          have ft1 := T11.out.cell 1
          have ft2 := T11.out.cell 2
          have ft3 := T11.out.cell 3
          have ft4 := T11.out.cell 4
          have ft5 := T11.out.cell 5
          have ft6 := T11.out.cell 6
          have ft7 := T11.out.cell 7
          have fn0 := N11.out.cell 0
          have fn1 := N11.out.cell 1
          have fr0 := R11.out.cell 0
          have fr1 := R11.out.cell 1
          have fr2 := R11.out.cell 2
          have fr3 := R11.out.cell 3
          have fr4 := R11.out.cell 4
          have fr5 := R11.out.cell 5
          have fr6 := R11.out.cell 6
          have fr7 := R11.out.cell 7
          simp only [List.getElem?_toArray, List.getElem?_cons_zero, List.getElem?_cons_succ] at fs0 fs1 ft0 ft1 ft2 ft3 ft4 ft5 ft6 ft7 fn0 fn1 fr0 fr1 fr2 fr3 fr4 fr5 fr6 fr7
          go_wp2_with fail
          go_meet
          case rel => exact ⟨rfl, hT11⟩
      · rcases Q3.out with ⟨rfl, rfl, q3⟩ | ⟨rfl, rfl, rfl, rfl⟩
        · skip
          have fs0 := S8.out.cell 0
          have fs1 := S8.out.cell 1
          have ft0 := T8.out.cell 0
          have ft1 := T8.out.cell 1
          have ft2 := T8.out.cell 2
          have ft3 := T8.out.cell 3
          have ft4 := T8.out.cell 4
          have ft5 := T8.out.cell 5
          have ft6 := T8.out.cell 6
          have ft7 := T8.out.cell 7
          have fn0 := N8.out.cell 0
          have fn1 := N8.out.cell 1
          have fr0 := R8.out.cell 0
          have fr1 := R8.out.cell 1
          have fr2 := R8.out.cell 2
          have fr3 := R8.out.cell 3
          have fr4 := R8.out.cell 4
          have fr5 := R8.out.cell 5
          have fr6 := R8.out.cell 6
          have fr7 := R8.out.cell 7
          simp only [List.getElem?_toArray, List.getElem?_cons_zero, List.getElem?_cons_succ] at fs0 fs1 ft0 ft1 ft2 ft3 ft4 ft5 ft6 ft7 fn0 fn1 fr0 fr1 fr2 fr3 fr4 fr5 fr6 fr7
          go_wp2_with fail
          refine (q3 _).mono ?_
          rintro e w10 ⟨rfl, hb10⟩
          have S10 := Lib.hid (S8.out.below hb10 S8.out.lt)
          have T10 := Lib.hid (T8.out.below hb10 T8.out.lt)
          have N10 := Lib.hid (N8.out.below hb10 N8.out.lt)
          have R10 := Lib.hid (R8.out.below hb10 R8.out.lt)
          have L10 := Lib.hid (L8.out.below hb10)
          have hT10 := hb10
          clear hb10 fs0 fs1 ft0 ft1 ft2 ft3 ft4 ft5 ft6 ft7 fn0 fn1 fr0 fr1 fr2 fr3 fr4 fr5 fr6 fr7
          have fs0 := S10.out.cell 0
          have fs1 := S10.out.cell 1
          have ft0 := T10.out.cell 0
          have ft1 := T10.out.cell 1
          have ft2 := T10.out.cell 2
          have ft3 := T10.out.cell 3
          have ft4 := T10.out.cell 4
          have ft5 := T10.out.cell 5
          have ft6 := T10.out.cell 6
          have ft7 := T10.out.cell 7
          have fn0 := N10.out.cell 0
          have fn1 := N10.out.cell 1
          have fr0 := R10.out.cell 0
          have fr1 := R10.out.cell 1
          have fr2 := R10.out.cell 2
          have fr3 := R10.out.cell 3
          have fr4 := R10.out.cell 4
          have fr5 := R10.out.cell 5
          have fr6 := R10.out.cell 6
          have fr7 := R10.out.cell 7
          simp only [List.getElem?_toArray, List.getElem?_cons_zero, List.getElem?_cons_succ] at fs0 fs1 ft0 ft1 ft2 ft3 ft4 ft5 ft6 ft7 fn0 fn1 fr0 fr1 fr2 fr3 fr4 fr5 fr6 fr7
          go_wp2_with fail
          refine (Code_errno _ _ L10.out).mono ?_
          rintro e w11 ⟨rfl, hb11⟩
          have S11 := Lib.hid (S10.out.below hb11 S10.out.lt)
          have T11 := Lib.hid (T10.out.below hb11 T10.out.lt)
          have N11 := Lib.hid (N10.out.below hb11 N10.out.lt)
          have R11 := Lib.hid (R10.out.below hb11 R10.out.lt)
          have L11 := Lib.hid (L10.out.below hb11)
          have hT11 := hT10.trans (hb11.mono hT10.size)
          clear hb11 fs0 fs1 ft0 ft1 ft2 ft3 ft4 ft5 ft6 ft7 fn0 fn1 fr0 fr1 fr2 fr3 fr4 fr5 fr6 fr7
          have fs0 := S11.out.cell 0
          have fs1 := S11.out.cell 1
          have ft0 := T11.out.cell 0
          have ft1 := T11.out.cell 1
          have ft2 := T11.out.cell 2
          have ft3 := T11.out.cell 3
          have ft4 := T11.out.cell 4
          have ft5 := T11.out.cell 5
          have ft6 := T11.out.cell 6
          have ft7 := T11.out.cell 7
          have fn0 := N11.out.cell 0
          have fn1 := N11.out.cell 1
          have fr0 := R11.out.cell 0
          have fr1 := R11.out.cell 1
          have fr2 := R11.out.cell 2
          have fr3 := R11.out.cell 3
          have fr4 := R11.out.cell 4
          have fr5 := R11.out.cell 5
          have fr6 := R11.out.cell 6
          have fr7 := R11.out.cell 7
          simp only [List.getElem?_toArray, List.getElem?_cons_zero, List.getElem?_cons_succ] at fs0 fs1 ft0 ft1 ft2 ft3 ft4 ft5 ft6 ft7 fn0 fn1 fr0 fr1 fr2 fr3 fr4 fr5 fr6 fr7
          go_wp2_with fail
          go_meet
          case rel => exact ⟨rfl, hT11⟩
        · skip
          have fs0 := S8.out.cell 0
          have fs1 := S8.out.cell 1
          have ft0 := T8.out.cell 0
          have ft1 := T8.out.cell 1
          have ft2 := T8.out.cell 2
          have ft3 := T8.out.cell 3
          have ft4 := T8.out.cell 4
          have ft5 := T8.out.cell 5
          have ft6 := T8.out.cell 6
          have ft7 := T8.out.cell 7
          have fn0 := N8.out.cell 0
          have fn1 := N8.out.cell 1
          have fr0 := R8.out.cell 0
          have fr1 := R8.out.cell 1
          have fr2 := R8.out.cell 2
          have fr3 := R8.out.cell 3
          have fr4 := R8.out.cell 4
          have fr5 := R8.out.cell 5
          have fr6 := R8.out.cell 6
          have fr7 := R8.out.cell 7
          simp only [List.getElem?_toArray, List.getElem?_cons_zero, List.getElem?_cons_succ] at fs0 fs1 ft0 ft1 ft2 ft3 ft4 ft5 ft6 ft7 fn0 fn1 fr0 fr1 fr2 fr3 fr4 fr5 fr6 fr7
          go_wp2_with fail
          refine (Code_errno _ _ L8.out).mono ?_
          rintro e w10 ⟨rfl, hb10⟩
          have S10 := Lib.hid (S8.out.below hb10 S8.out.lt)
          have T10 := Lib.hid (T8.out.below hb10 T8.out.lt)
          have N10 := Lib.hid (N8.out.below hb10 N8.out.lt)
          have R10 := Lib.hid (R8.out.below hb10 R8.out.lt)
          have L10 := Lib.hid (L8.out.below hb10)
          have hT10 := hb10
          clear hb10 fs0 fs1 ft0 ft1 ft2 ft3 ft4 ft5 ft6 ft7 fn0 fn1 fr0 fr1 fr2 fr3 fr4 fr5 fr6 fr7
          have fs0 := S10.out.cell 0
          have fs1 := S10.out.cell 1
          have ft0 := T10.out.cell 0
          have ft1 := T10.out.cell 1
          have ft2 := T10.out.cell 2
          have ft3 := T10.out.cell 3
          have ft4 := T10.out.cell 4
          have ft5 := T10.out.cell 5
          have ft6 := T10.out.cell 6
          have ft7 := T10.out.cell 7
          have fn0 := N10.out.cell 0
          have fn1 := N10.out.cell 1
          have fr0 := R10.out.cell 0
          have fr1 := R10.out.cell 1
          have fr2 := R10.out.cell 2
          have fr3 := R10.out.cell 3
          have fr4 := R10.out.cell 4
          have fr5 := R10.out.cell 5
          have fr6 := R10.out.cell 6
          have fr7 := R10.out.cell 7
          simp only [List.getElem?_toArray, List.getElem?_cons_zero, List.getElem?_cons_succ] at fs0 fs1 ft0 ft1 ft2 ft3 ft4 ft5 ft6 ft7 fn0 fn1 fr0 fr1 fr2 fr3 fr4 fr5 fr6 fr7
          go_wp2_with fail
          refine (Code_errno _ _ L10.out).mono ?_
          rintro e w11 ⟨rfl, hb11⟩
          have S11 := Lib.hid (S10.out.below hb11 S10.out.lt)
          have T11 := Lib.hid (T10.out.below hb11 T10.out.lt)
          have N11 := Lib.hid (N10.out.below hb11 N10.out.lt)
          have R11 := Lib.hid (R10.out.below hb11 R10.out.lt)
          have L11 := Lib.hid (L10.out.below hb11)
          have hT11 := hT10.trans (hb11.mono hT10.size)
          clear hb11 fs0 fs1 ft0 ft1 ft2 ft3 ft4 ft5 ft6 ft7 fn0 fn1 fr0 fr1 fr2 fr3 fr4 fr5 fr6 fr7
          have fs0 := S11.out.cell 0
          have fs1 := S11.out.cell 1
          have ft0 := T11.out.cell 0
          have ft1 := T11.out.cell 1
          have ft2 := T11.out.cell 2
          have ft3 := T11.out.cell 3
          have ft4 := T11.out.cell 4
          have ft5 := T11.out.cell 5
          have ft6 := T11.out.cell 6
          have ft7 := T11.out.cell 7
          have fn0 := N11.out.cell 0
          have fn1 := N11.out.cell 1
          have fr0 := R11.out.cell 0
          have fr1 := R11.out.cell 1
          have fr2 := R11.out.cell 2
          have fr3 := R11.out.cell 3
          have fr4 := R11.out.cell 4
          have fr5 := R11.out.cell 5
          have fr6 := R11.out.cell 6
          have fr7 := R11.out.cell 7
          simp only [List.getElem?_toArray, List.getElem?_cons_zero, List.getElem?_cons_succ] at fs0 fs1 ft0 ft1 ft2 ft3 ft4 ft5 ft6 ft7 fn0 fn1 fr0 fr1 fr2 fr3 fr4 fr5 fr6 fr7
          go_wp2_with fail
          go_meet
          case rel => exact ⟨rfl, hT11⟩
    case rest =>
      obtain ⟨rfl, hb9⟩ := hcut
      have V9 := Lib.hid (V8.out.below hb9 V8.out.lt)
      have U9 := Lib.hid (U8.out.below hb9 U8.out.lt)
      have X9 := Lib.hid (X8.out.below hb9 X8.out.lt)
      have Y9 := Lib.hid (Y8.out.below hb9 Y8.out.lt)
      have B9 := Lib.hid (B8.out.trans (hb9.mono B8.out.size))
      clear hb9 V8 U8 S8 N8 X8 Y8 T8 R8 B8 L8 P3 Q3 p1 p2 q1 q2 hX hY hZ
      have hXl := lt_two a b ha hb
      have hYl := lt_two c d hc hd
      have hLs := fun W => Less_any a b c d hb hd W
      have hRL := fun W => RefLess_any _ _ hXl hYl W
      obtain ⟨BB, hBB⟩ : ∃ BB, decide (a * 18446744073709551616 + b < c * 18446744073709551616 + d) = BB := ⟨_, rfl⟩
      rw [hBB] at hLs hRL
      rw [HEx.out, HEy.out] at hRL
      unfold wv at hLs
      have hM := fun W => Mul_any a c ha hc W
      have hRM := fun W => RefMul_any a c ha hc W
      have hMl := lt_sq (a * c) (of_mul a c ha hc)
      have hSm := fun W => same_any (a * c) hMl W
      obtain ⟨mh, ml, em, -, -⟩ := wof_ex (a * c)
      obtain ⟨m0, m1, m2, m3, m4, m5, m6, m7, ed⟩ := eight (digs 8 (a * c)) (digs_length 8 _)
      rw [em] at hM hSm
      rw [ed] at hRM hSm
      simp only [bgv, List.map_cons, List.map_nil] at hRL hRM hSm
      clear em ed hMl hBB
      have v0 := V9.out.cell 0
      have v1 := V9.out.cell 1
      simp only [List.getElem?_toArray, List.getElem?_cons_zero, List.getElem?_cons_succ] at v0 v1
      rcases Nat.eq_zero_or_pos n with hn0 | hn0
      · subst hn0
        have hD := fun W => Div_zero a b W
        unfold wv eno at hD
        go_wp2_with fail
        refine (hD _).mono ?_
        rintro e w20 ⟨rfl, hb20⟩
        go_wp2_with fail
        obtain ⟨W13, hW13⟩ : ∃ W, w20.alloc (.cells #[.int .u64 0, .int .u64 0] 25) = W := ⟨_, rfl⟩
        have VA := Lib.hid (hW13 ▸ (V9.out.below hb20 V9.out.lt).alloc (.cells #[.int .u64 0, .int .u64 0] 25))
        have UA := Lib.hid (hW13 ▸ (U9.out.below hb20 U9.out.lt).alloc (.cells #[.int .u64 0, .int .u64 0] 25))
        have XA := Lib.hid (hW13 ▸ (X9.out.below hb20 X9.out.lt).alloc (.cells #[.int .u64 0, .int .u64 0] 25))
        have YA := Lib.hid (hW13 ▸ (Y9.out.below hb20 Y9.out.lt).alloc (.cells #[.int .u64 0, .int .u64 0] 25))
        have hBA := B9.out.trans (hb20.mono B9.out.size)
        have BA := Lib.hid (hW13 ▸ hBA.alloc hBA.size (.cells #[.int .u64 0, .int .u64 0] 25))
        rw [hW13]
        have LA := Lib.hid (HW.out.below BA.out)
        clear hW13 hb20 hBA hD v0 v1 V9 U9 X9 Y9 B9
        have fv0 := cell_regrown (VA.out.cell 0)
        have fv1 := cell_regrown (VA.out.cell 1)
        have fu0 := cell_regrown (UA.out.cell 0)
        have fu1 := cell_regrown (UA.out.cell 1)
        have fx0 := cell_regrown (XA.out.cell 0)
        have fx1 := cell_regrown (XA.out.cell 1)
        have fx2 := cell_regrown (XA.out.cell 2)
        have fx3 := cell_regrown (XA.out.cell 3)
        have fx4 := cell_regrown (XA.out.cell 4)
        have fx5 := cell_regrown (XA.out.cell 5)
        have fx6 := cell_regrown (XA.out.cell 6)
        have fx7 := cell_regrown (XA.out.cell 7)
        have fy0 := cell_regrown (YA.out.cell 0)
        have fy1 := cell_regrown (YA.out.cell 1)
        have fy2 := cell_regrown (YA.out.cell 2)
        have fy3 := cell_regrown (YA.out.cell 3)
        have fy4 := cell_regrown (YA.out.cell 4)
        have fy5 := cell_regrown (YA.out.cell 5)
        have fy6 := cell_regrown (YA.out.cell 6)
        have fy7 := cell_regrown (YA.out.cell 7)
        have HC := fun (dd : Nat) (os : Array Obj) => Calls.regrown_of (Code_errno 1 (Go.Sort.grow (redrawn W13 dd) os) (LA.out.below (below_regrown W13 dd os)))
        have HM := fun (dd : Nat) (os : Array Obj) => Calls.regrown_of (hM (Go.Sort.grow (redrawn W13 dd) os))
        have HR := fun (dd : Nat) (os : Array Obj) => Calls.regrown_of (hRM (Go.Sort.grow (redrawn W13 dd) os))
        have HS := fun (dd : Nat) (os : Array Obj) => Calls.regrown_of (hSm (Go.Sort.grow (redrawn W13 dd) os))
        have HL := fun (dd : Nat) (os : Array Obj) => Calls.regrown_of (hLs (Go.Sort.grow (redrawn W13 dd) os))
        have HT := fun (dd : Nat) (os : Array Obj) => Calls.regrown_of (hRL (Go.Sort.grow (redrawn W13 dd) os))
        clear hM hRM hSm hLs hRL
        refine wp_region_quiet_below (by kernel_rfl) (by kernel_rfl) ?_
        iterate 22
          go_big_quiet_step (first
            | (go_at_call 17; exact HC _ _)
            | (go_at_call 19; exact HM _ _)
            | (go_at_call 20; exact HR _ _)
            | (go_at_call 16; exact HS _ _)
            | (go_at_call 21; exact HL _ _)
            | (go_at_call 22; exact HT _ _))
        refine wpQuiet_nil ?_
        intro w30 hw'
        have hbx : Below W13.heap.size W13 w30 := by
          obtain ⟨p, rfl⟩ := hw'
          exact below_regrown _ _ _
        clear hw'
        go_wp2_with fail
        go_ret
        exact ⟨rfl, BA.out.trans (hbx.mono BA.out.size)⟩
      · have hD := fun W => Div_some a b n ha hb hn0 hn W
        have hE := fun W => RefDiv_any (a * 18446744073709551616 + b) n hXl hn0 hn W
        have hql := Nat.lt_of_le_of_lt (Nat.div_le_self (a * 18446744073709551616 + b) n) hXl
        have hSq := fun W => same_any ((a * 18446744073709551616 + b) / n) hql W
        rw [HEx.out] at hE
        obtain ⟨qh, ql, eq, -, -⟩ := wof_ex ((a * 18446744073709551616 + b) / n)
        obtain ⟨z0, z1, z2, z3, z4, z5, z6, z7, ez⟩ := eight (digs 8 ((a * 18446744073709551616 + b) / n)) (digs_length 8 _)
        obtain ⟨rr, hrr⟩ : ∃ rr, (a * 18446744073709551616 + b) % n = rr := ⟨_, rfl⟩
        rw [hrr] at hD hE
        rw [eq] at hD hSq
        rw [ez] at hE hSq
        simp only [bgv, List.map_cons, List.map_nil] at hE hSq
        unfold wv at hD
        have hnz : ((n : Int) == 0) = false := by rw [beq_eq_false_iff_ne]; omega
        clear eq ez hrr hql hn0
        go_wp2_with fail
        refine (hD _).mono ?_
        rintro e w20 ⟨rfl, hb20⟩
        have VA := Lib.hid (V9.out.below hb20 V9.out.lt)
        have UA := Lib.hid (U9.out.below hb20 U9.out.lt)
        have XA := Lib.hid (X9.out.below hb20 X9.out.lt)
        have YA := Lib.hid (Y9.out.below hb20 Y9.out.lt)
        have BA := Lib.hid (B9.out.trans (hb20.mono B9.out.size))
        have cx0 := XA.out.cell 0
        have cx1 := XA.out.cell 1
        have cx2 := XA.out.cell 2
        have cx3 := XA.out.cell 3
        have cx4 := XA.out.cell 4
        have cx5 := XA.out.cell 5
        have cx6 := XA.out.cell 6
        have cx7 := XA.out.cell 7
        simp only [List.getElem?_toArray, List.getElem?_cons_zero, List.getElem?_cons_succ] at cx0 cx1 cx2 cx3 cx4 cx5 cx6 cx7
        have hxl := XA.out.lt
        clear hb20 hD v0 v1 V9 U9 X9 Y9 B9
        go_wp2_with fail
        refine (hE _).mono ?_
        rintro e w21 ⟨rfl, hb21⟩
        go_wp2_with fail
        obtain ⟨Q0, hQ0⟩ : ∃ Q, w20.heap.size = Q := ⟨_, rfl⟩
        obtain ⟨Z0, hZ0⟩ : ∃ Z, w21.heap.size = Z := ⟨_, rfl⟩
        have hq1 := blk_new hb21 hQ0
        rw [hQ0, hZ0]
        obtain ⟨W15, hW15⟩ : ∃ W, w21.alloc (.cells #[.int .u32 z0, .int .u32 z1, .int .u32 z2, .int .u32 z3, .int .u32 z4, .int .u32 z5, .int .u32 z6, .int .u32 z7] 28) = W := ⟨_, rfl⟩
        have ZC : Hid (Blk W15 Z0 28 #[.int .u32 z0, .int .u32 z1, .int .u32 z2, .int .u32 z3, .int .u32 z4, .int .u32 z5, .int .u32 z6, .int .u32 z7]) := Lib.hid (by rw [← hW15, ← hZ0]; exact Blk.new w21 _ _)
        have QC := Lib.hid (hW15 ▸ hq1.alloc (.cells #[.int .u32 z0, .int .u32 z1, .int .u32 z2, .int .u32 z3, .int .u32 z4, .int .u32 z5, .int .u32 z6, .int .u32 z7] 28))
        have VC := Lib.hid (hW15 ▸ (blk_on VA.out hb21).alloc (.cells #[.int .u32 z0, .int .u32 z1, .int .u32 z2, .int .u32 z3, .int .u32 z4, .int .u32 z5, .int .u32 z6, .int .u32 z7] 28))
        have UC := Lib.hid (hW15 ▸ (blk_on UA.out hb21).alloc (.cells #[.int .u32 z0, .int .u32 z1, .int .u32 z2, .int .u32 z3, .int .u32 z4, .int .u32 z5, .int .u32 z6, .int .u32 z7] 28))
        have XC := Lib.hid (hW15 ▸ (blk_on XA.out hb21).alloc (.cells #[.int .u32 z0, .int .u32 z1, .int .u32 z2, .int .u32 z3, .int .u32 z4, .int .u32 z5, .int .u32 z6, .int .u32 z7] 28))
        have YC := Lib.hid (hW15 ▸ (blk_on YA.out hb21).alloc (.cells #[.int .u32 z0, .int .u32 z1, .int .u32 z2, .int .u32 z3, .int .u32 z4, .int .u32 z5, .int .u32 z6, .int .u32 z7] 28))
        have hBC := below_next BA.out hb21
        have BC := Lib.hid (hW15 ▸ hBC.alloc hBC.size (.cells #[.int .u32 z0, .int .u32 z1, .int .u32 z2, .int .u32 z3, .int .u32 z4, .int .u32 z5, .int .u32 z6, .int .u32 z7] 28))
        rw [hW15]
        clear hW15 hq1 hb21 hBC hE hQ0 hZ0 hxl cx0 cx1 cx2 cx3 cx4 cx5 cx6 cx7 VA UA XA YA BA
        have fv0 := cell_regrown (VC.out.cell 0)
        have fv1 := cell_regrown (VC.out.cell 1)
        have fu0 := cell_regrown (UC.out.cell 0)
        have fu1 := cell_regrown (UC.out.cell 1)
        have fx0 := cell_regrown (XC.out.cell 0)
        have fx1 := cell_regrown (XC.out.cell 1)
        have fx2 := cell_regrown (XC.out.cell 2)
        have fx3 := cell_regrown (XC.out.cell 3)
        have fx4 := cell_regrown (XC.out.cell 4)
        have fx5 := cell_regrown (XC.out.cell 5)
        have fx6 := cell_regrown (XC.out.cell 6)
        have fx7 := cell_regrown (XC.out.cell 7)
        have fy0 := cell_regrown (YC.out.cell 0)
        have fy1 := cell_regrown (YC.out.cell 1)
        have fy2 := cell_regrown (YC.out.cell 2)
        have fy3 := cell_regrown (YC.out.cell 3)
        have fy4 := cell_regrown (YC.out.cell 4)
        have fy5 := cell_regrown (YC.out.cell 5)
        have fy6 := cell_regrown (YC.out.cell 6)
        have fy7 := cell_regrown (YC.out.cell 7)
        have fq0 := cell_regrown (QC.out.cell 0)
        have fq1 := cell_regrown (QC.out.cell 1)
        have fz0 := cell_regrown (ZC.out.cell 0)
        have fz1 := cell_regrown (ZC.out.cell 1)
        have fz2 := cell_regrown (ZC.out.cell 2)
        have fz3 := cell_regrown (ZC.out.cell 3)
        have fz4 := cell_regrown (ZC.out.cell 4)
        have fz5 := cell_regrown (ZC.out.cell 5)
        have fz6 := cell_regrown (ZC.out.cell 6)
        have fz7 := cell_regrown (ZC.out.cell 7)
        have HM := fun (dd : Nat) (os : Array Obj) => Calls.regrown_of (hM (Go.Sort.grow (redrawn W15 dd) os))
        have HR := fun (dd : Nat) (os : Array Obj) => Calls.regrown_of (hRM (Go.Sort.grow (redrawn W15 dd) os))
        have HS := fun (dd : Nat) (os : Array Obj) => Calls.regrown_of (hSm (Go.Sort.grow (redrawn W15 dd) os))
        have HQ := fun (dd : Nat) (os : Array Obj) => Calls.regrown_of (hSq (Go.Sort.grow (redrawn W15 dd) os))
        have HL := fun (dd : Nat) (os : Array Obj) => Calls.regrown_of (hLs (Go.Sort.grow (redrawn W15 dd) os))
        have HT := fun (dd : Nat) (os : Array Obj) => Calls.regrown_of (hRL (Go.Sort.grow (redrawn W15 dd) os))
        clear hM hRM hSm hLs hRL hSq
        refine wp_region_quiet_below (by kernel_rfl) (by kernel_rfl) ?_
        iterate 7
          go_big_quiet_step (exact HQ _ _)
        iterate 24
          go_big_quiet_step (first
            | (go_at_call 19; exact HM _ _)
            | (go_at_call 20; exact HR _ _)
            | (go_at_call 16; exact HS _ _)
            | (go_at_call 21; exact HL _ _)
            | (go_at_call 22; exact HT _ _))
        refine wpQuiet_nil ?_
        intro w30 hw'
        have hbx : Below W15.heap.size W15 w30 := by
          obtain ⟨p, rfl⟩ := hw'
          exact below_regrown _ _ _
        clear hw'
        go_wp2_with fail
        go_ret
        exact ⟨rfl, BC.out.trans (hbx.mono BC.out.size)⟩
end Go.Proofs.YtkgadbnfaoijaabDoor
