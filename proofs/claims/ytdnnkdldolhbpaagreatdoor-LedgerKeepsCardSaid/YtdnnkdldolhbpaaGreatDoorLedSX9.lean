/-
LedgerNil walked. Condition: errors.errorType is laid.
-/
import Derived.Test.YtdnnkdldolhbpaaGreatDoorLedRX9
import Derived.Test.YtdnnkdldolhbpaaGreatDoorFlowX9
namespace Go.Proofs.YtdnnkdldolhbpaaGreatDoor
open Go.ChangeShapes Go.WideShapes Go.ChangeAt Go.RowKit Go.Maps

theorem own_two {w : World} {B c : Nat} {A : Option Addr} (h : OwnS legT 53 w B (.slice A 2 c) 2 exL) : ∃ (g : Nat) (cur : Array Value), A = some ⟨g, 0, none⟩ ∧ B ≤ g ∧ Blk w g 53 cur ∧ cur[1]? = some (.int .i64 (-5)) := by
  unfold OwnS at h
  rcases h.2 with ⟨_, h2⟩ | ⟨g, cap, cur, h1, h2, h3, _, _, _, h7⟩
  · cases h2
  · injection h1 with h1 _ _
    refine ⟨g, cur, h1, h2, h3, ?_⟩
    have h8 := congrArg (fun l => l[1]?) h7
    simp [flatS, exL, legT] at h8
    simpa using h8
theorem Rs_two' {w : World} {g : Nat} {ty : TypeId} {x : Int} (h : Blk w g ty (exG x)) : Rs legT w w.heap.size (some ⟨g, 0, none⟩) [(1, x), (2, 5)] := rs_two h
def faultW (a n : Int) : Flw := ⟨fun v w => FaultIs w 0 v a n, fun h hb => h.below hb⟩
theorem fault_toF {P : Program} {f : FuncId} {args : Array Value} {w : World} {a n : Int} (h : Calls P f args w (FaultPost a n w)) : Calls P f args w (ToF (faultW a n) w) :=
  h.mono fun _ _ ⟨v, h1, ⟨N, h2, _, h4⟩, h5⟩ => ⟨v, h1, ⟨N, h2, Nat.zero_le _, h4⟩, h5⟩
theorem uniq_at {ds : List (Option Tmp)} {d : Tmp} {i : Nat} (h : ((List.range ds.length).all fun j => !(ds[j]? == some (some d)) || j == i) = true) : ∀ j : Nat, ds[j]? = some (some d) → j = i := fun j hj => by
  have hl : j < ds.length := (List.getElem?_eq_some_iff.1 hj).1
  have := List.all_eq_true.1 h j (List.mem_range.2 hl)
  simpa [hj] using this
theorem wp_region_flow1 {P : Program} {id : Nat} {l : List Oper} {Q : Exit → Act → World → Prop} {a0 : Act} {w : World} (ds : List (Option Tmp)) (F : Nat → Flw) (hm : P.follows .mixedOrders = true)
    (hB : flowB l.toArray a0.tmps.size = true) (hd : l.map (·.dst) = ds) (hs : stepsF P l.toArray ds F a0 w 0 l) (d : Tmp) (i : Nat) (v : Value) (hi : ds[i]? = some (some d))
    (hu : ((List.range ds.length).all fun j => !(ds[j]? == some (some d)) || j == i) = true) (hF : ∀ u w', (F i).p u w' → u = v) (hsz : d < a0.tmps.size)
    (hq : ∀ (T : Array Value) w', T[d]? = some v → Below w.heap.size w w' → Q .normal ⟨T, a0.defers⟩ w') : (Code.region id l.toArray true).wp P Q a0 w := by
  refine wp_region_flow ds F hm hB hd hs fun f w' hf hb => ?_
  have h1 := putF_size f ds 0 a0
  have h2 := putF_new f ds 0 a0 d i hsz hi (uniq_at hu)
  rw [Nat.zero_add, hF _ _ (hf i d hi)] at h2
  obtain ⟨A, hA⟩ : ∃ A, putF f ds 0 a0 = A := ⟨_, rfl⟩
  rw [hA] at h1 h2 ⊢
  obtain ⟨T, E⟩ := A
  have := h1.2
  simp only at this
  subst this
  exact hq T w' h2 hb
theorem fin_tmp {Post : Ending → World → Prop} {f : Func} {W : World} {T : Array Value} {i : Nat} {v : Value} (hf : f.results = #[.tmp i]) (h : T[i]? = some v) (hP : Post (.returned v) W) : bodyPost Tryz.prog f Post Exit.ret { tmps := T, defers := [] } W := by
  refine bodyPost_ret (v := v) ?_ rfl hP
  simp [results, hf, go_sem, h]
theorem ent_load14 {w : World} {g : Nat} {a b c d e : Value} (h : Blk w g 40 #[a, b, c, d, e]) : (Instr.loadAt 40 (.pointer (some ⟨g, 0, none⟩))).run Tryz.prog w = .ok (.agg #[a, b, c, d, e]) w := by
  have x0 := h.cell 0
  have x1 := h.cell 1
  have x2 := h.cell 2
  have x3 := h.cell 3
  have x4 := h.cell 4
  simp at x0 x1 x2 x3 x4
  go_simp
theorem key_load14 {w : World} {g : Nat} {a b c d : Value} (h : Blk w g 33 #[a, b, c, d]) : (Instr.loadAt 33 (.pointer (some ⟨g, 0, none⟩))).run Tryz.prog w = .ok (.agg #[a, b, c, d]) w := by
  have x0 := h.cell 0
  have x1 := h.cell 1
  have x2 := h.cell 2
  have x3 := h.cell 3
  simp at x0 x1 x2 x3
  go_simp
theorem u32_load14 {w : World} {g : Nat} {a b c d : Value} (h : Blk w g 33 #[a, b, c, d]) : (Instr.loadAt 30 (.pointer (some ⟨g, 0, none⟩))).run Tryz.prog w = .ok a w := by
  have x0 := h.cell 0
  simp at x0
  go_simp
theorem coin_load14 {w : World} {p : Addr} {v : Value} (h : w.cell? p = some v) : (Instr.loadAt 51 (.pointer (some p))).run Tryz.prog w = .ok v w := by
  go_simp
/-- The cells that the law's own k, e and e's legs lie in. -/
structure NilW (w : World) (y : Ky) (N g gE : Nat) (x : Int) : Prop where
  hk : Blk w N 33 #[.int .u32 (y.a : Int), .int .i32 y.d, .int .u8 (y.k : Int), .int .u32 (y.s : Int)]
  hg : Blk w g 53 (exG x)
  he : Blk w gE 40 #[.int .u32 (y.a : Int), .int .i32 0, .int .u8 1, .int .u32 0, .slice (some ⟨g, 0, none⟩) 2 2]
  hng : N < g
  hge : g < gE
theorem NilW.below {w w' : World} {y : Ky} {N g gE B : Nat} {x : Int} (h : NilW w y N g gE x) (hb : Below B w w') (hB : gE < B) : NilW w' y N g gE x :=
  ⟨h.hk.below hb (by have := h.hng; have := h.hge; omega), h.hg.below hb (by have := h.hge; omega), h.he.below hb hB, h.hng, h.hge⟩
theorem NilW.on {w w' : World} {y : Ky} {N g gE : Nat} {x : Int} (h : NilW w y N g gE x) (hb : Below w.heap.size w w') : NilW w' y N g gE x := h.below hb h.he.lt
theorem NilW.set {w : World} {y : Ky} {N g gE : Nat} {x : Int} (h : NilW w y N g gE x) (z : Int) : NilW (w.setCell ⟨g, 1, none⟩ (.int .i64 z)) y N g gE z :=
  ⟨h.hk.far (by have := h.hng; simp; omega) _, h.hg.set_ 1 _, h.he.far (by have := h.hge; simp; omega) _, h.hng, h.hge⟩
theorem NilW.chg {w w' : World} {D : Nat → Prop} {y : Ky} {N g gE q : Nat} {x : Int} (h : NilW w y N g gE x) (hb : Chg D w w') (hD : ∀ i, D i → q ≤ i) (hq : gE < q) : NilW w' y N g gE x :=
  ⟨hb.blk h.hk (fun hh => by have := hD _ hh; have := h.hng; have := h.hge; omega), hb.blk h.hg (fun hh => by have := hD _ hh; have := h.hge; omega), hb.blk h.he (fun hh => by have := hD _ hh; omega), h.hng, h.hge⟩
set_option maxRecDepth 100000 in
set_option maxHeartbeats 8000000 in
theorem law_nil14 (y : Ky) (hy : y.In) (i : Int) (hi : -9223372036854775808 ≤ i ∧ i ≤ 9223372036854775807) (c : Nat) (w : World) (hg : Laid w) : Calls Tryz.prog 4 #[y.v, .int .i64 i, .int .u8 (c : Int)] w (Ret (.bool true) w) := by
  have hya : y.a < 4294967296 := hy.1
  have HV : Hid (y.v = .agg #[.int .u32 (y.a : Int), .int .i32 y.d, .int .u8 (y.k : Int), .int .u32 (y.s : Int)]) := Lib.hid rfl
  have HAW := Lib.hid (awake14 (w.alloc (.cells #[.int .u32 (y.a : Int), .int .i32 y.d, .int .u8 (y.k : Int), .int .u32 (y.s : Int)] 33)))
  rw [HV.out]
  go_enter Tryz.func4, Tryz.ntmps4
  go_wp2_with fail
  refine HAW.out.mono ?_
  rintro e w1 ⟨rfl, hb1⟩
  have HK := Lib.hid ((Blk.new w 33 #[.int .u32 (y.a : Int), .int .i32 y.d, .int .u8 (y.k : Int), .int .u32 (y.s : Int)]).below hb1 (by simp))
  have HB := Lib.hid ((b_alloc w (.cells #[.int .u32 (y.a : Int), .int .i32 y.d, .int .u8 (y.k : Int), .int .u32 (y.s : Int)] 33)).trans (hb1.mono (by simp)))
  clear hb1 HAW
  have k0 := HK.out.cell 0
  have k1 := HK.out.cell 1
  have k2 := HK.out.cell 2
  have k3 := HK.out.cell 3
  simp at k0 k1 k2 k3
  go_upto_region 5 with (fail)
  clear k0 k1 k2 k3
  obtain ⟨X, hX⟩ : ∃ X : Array Value, X = exG (-5) := ⟨_, rfl⟩
  obtain ⟨Y, hY⟩ : ∃ Y : Array Value, Y = #[.int .u32 (y.a : Int), .int .i32 0, .int .u8 1, .int .u32 0, .slice (some ⟨w1.heap.size, 0, none⟩) 2 2] := ⟨_, rfl⟩
  have HN2 : Hid (NilW ((w1.alloc (.cells (exG (-5)) 53)).alloc (.cells #[.int .u32 (y.a : Int), .int .i32 0, .int .u8 1, .int .u32 0, .slice (some ⟨w1.heap.size, 0, none⟩) 2 2] 40)) y w.heap.size w1.heap.size (w1.heap.size + 1) (-5)) := Lib.hid ⟨(HK.out.alloc _).alloc _, (Blk.new w1 _ _).alloc _, (by
    have h := Blk.new (w1.alloc (.cells (exG (-5)) 53)) 40 #[.int .u32 (y.a : Int), .int .i32 0, .int .u8 1, .int .u32 0, .slice (some ⟨w1.heap.size, 0, none⟩) 2 2]
    rw [show (w1.alloc (.cells (exG (-5)) 53)).heap.size = w1.heap.size + 1 by simp] at h
    exact h), HK.out.lt, Nat.lt_succ_self _⟩
  have HB2 := Lib.hid (HB.out.trans (((b_alloc w1 (.cells (exG (-5)) 53)).alloc (by simp) (.cells #[.int .u32 (y.a : Int), .int .i32 0, .int .u8 1, .int .u32 0, .slice (some ⟨w1.heap.size, 0, none⟩) 2 2] 40)).mono HB.out.size))
  unfold exG at HN2 HB2
  obtain ⟨W2, hW2⟩ : ∃ W, ((w1.alloc (.cells #[.int .u8 1, .int .i64 (-5), .int .u8 2, .int .i64 5] 53)).alloc (.cells #[.int .u32 (y.a : Int), .int .i32 0, .int .u8 1, .int .u32 0, .slice (some ⟨w1.heap.size, 0, none⟩) 2 2] 40)) = W := ⟨_, rfl⟩
  rw [hW2] at HN2 HB2 ⊢
  obtain ⟨g, hg'⟩ : ∃ g, w1.heap.size = g := ⟨_, rfl⟩
  rw [hg'] at HN2 ⊢
  clear hW2 hg' HK HB hX hY X Y
  have HLn := Lib.hid (Line_nil i hi W2)
  go_wp2_with fail
  refine HLn.out.mono ?_
  rintro e w3 ⟨rfl, hb⟩
  have HN3 := Lib.hid (HN2.out.on hb)
  have HB3 := Lib.hid (HB2.out.trans (hb.mono HB2.out.size))
  clear hb HN2 HB2 HLn
  unfold zeroLn
  go_upto_region 6 with (fail)
  have ha := b_alloc w3 (.cells #[.int .u32 0, .int .i32 0, .int .u8 0, .int .u32 0, .slice none 0 0, .int .i64 0] 42)
  obtain ⟨W4, hW4⟩ : ∃ W, w3.alloc (.cells #[.int .u32 0, .int .i32 0, .int .u8 0, .int .u32 0, .slice none 0 0, .int .i64 0] 42) = W := ⟨_, rfl⟩
  rw [hW4] at ha ⊢
  have HN4 := Lib.hid (HN3.out.on ha)
  have HB4 := Lib.hid (HB3.out.trans (ha.mono HB3.out.size))
  clear ha hW4 HN3 HB3
  have k0 := HN4.out.hk.cell 0
  have k1 := HN4.out.hk.cell 1
  have k2 := HN4.out.hk.cell 2
  have k3 := HN4.out.hk.cell 3
  simp at k0 k1 k2 k3
  have HLv := Lib.hid (Live_nil y W4)
  rw [HV.out] at HLv
  go_wp2_with fail
  refine HLv.out.mono ?_
  rintro e w5 ⟨rfl, hb⟩
  have HN5 := Lib.hid (HN4.out.on hb)
  have HB5 := Lib.hid (HB4.out.trans (hb.mono HB4.out.size))
  clear hb HN4 HB4 HLv k0 k1 k2 k3
  unfold zeroT
  go_upto_region 7 with (fail)
  have ha := b_alloc w5 (.cells #[.int .u32 0, .int .i32 0, .int .u8 0, .int .u32 0, .slice none 0 0] 40)
  obtain ⟨W6, hW6⟩ : ∃ W, w5.alloc (.cells #[.int .u32 0, .int .i32 0, .int .u8 0, .int .u32 0, .slice none 0 0] 40) = W := ⟨_, rfl⟩
  rw [hW6] at ha ⊢
  have HN6 := Lib.hid (HN5.out.on ha)
  have HB6 := Lib.hid (HB5.out.trans (ha.mono HB5.out.size))
  clear ha hW6 HN5 HB5
  have HNw := New_any W6
  unfold NewPost at HNw
  obtain ⟨q, hq⟩ : ∃ q, W6.heap.size = q := ⟨_, rfl⟩
  have HQ : Hid (g + 1 < q) := Lib.hid (by rw [← hq]; exact HN6.out.he.lt)
  have HQw : Hid (w.heap.size ≤ q) := Lib.hid (by rw [← hq]; exact HB6.out.size)
  rw [hq] at HNw
  have HNw := Lib.hid HNw
  go_wp2_with fail
  refine HNw.out.mono ?_
  rintro e w7 ⟨rfl, hl7, hb⟩
  have HN7 := Lib.hid (HN6.out.on (by rw [hq]; exact hb))
  have HB7 := Lib.hid (HB6.out.trans (hb.mono HQw.out))
  have HL7 := Lib.hid hl7
  clear hb hl7 HN6 HB6 HNw hq
  have m0 := HN7.out.he.cell 0
  have m1 := HN7.out.he.cell 1
  have m2 := HN7.out.he.cell 2
  have m3 := HN7.out.he.cell 3
  have m4 := HN7.out.he.cell 4
  simp at m0 m1 m2 m3 m4
  have HP : Hid (Calls Tryz.prog 17 #[.pointer (some ⟨q, 0, none⟩), .agg #[.int .u32 (y.a : Int), .int .i32 0, .int .u8 1, .int .u32 0, .slice (some ⟨g, 0, none⟩) 2 2]] w7 (PostPost w7 q (fun i => i = q) [] (exY y.a) exL)) := Lib.hid (Post_any q _ [] (exY y.a) (exY_in hya) (some ⟨g, 0, none⟩) 2 2 exL w7 HL7.out (Rs_two' HN7.out.hg) rfl (by decide) exL_in (by decide))
  go_wp2_with fail
  refine HP.out.mono ?_
  rintro e w8 ⟨hyes, -⟩
  obtain ⟨rfl, hcg, D, hl8, hd8⟩ := hyes (exOk1 y.a)
  have HD : Hid (∀ i, D i → q ≤ i) := Lib.hid (fun i hi => by
    rcases hd8 i hi with h | h
    · exact Nat.le_of_eq h.symm
    · have := HL7.out.lt q rfl
      omega)
  have HN8 := Lib.hid (HN7.out.chg hcg (fun i hi => Nat.le_of_eq (Eq.symm hi)) HQ.out)
  have HB8 := Lib.hid (HB7.out.trans (hcg.below HB7.out.size (fun i hi => by rw [hi]; exact HQw.out)))
  have HL8 : Hid (Led w8 q D (exM1 y.a)) := Lib.hid hl8
  clear hyes hcg hl8 hd8 HP HN7 HB7 HL7 m0 m1 m2 m3 m4
  have m0 := HN8.out.he.cell 0
  have m1 := HN8.out.he.cell 1
  have m2 := HN8.out.he.cell 2
  have m3 := HN8.out.he.cell 3
  have m4 := HN8.out.he.cell 4
  simp at m0 m1 m2 m3 m4
  have g0 := HN8.out.hg.cell 0
  have g1 := HN8.out.hg.cell 1
  have g2 := HN8.out.hg.cell 2
  have g3 := HN8.out.hg.cell 3
  simp [exG] at g0 g1 g2 g3
  have f1 := HN8.out.hg.frozen 1
  go_upto_region 10 with (fail)
  have hs := Nat.le_of_eq (World.size_setCell w8 ⟨g, 1, none⟩ (.int .i64 9)).symm
  obtain ⟨W9, hW9⟩ : ∃ W, w8.setCell ⟨g, 1, none⟩ (.int .i64 9) = W := ⟨_, rfl⟩
  rw [hW9] at ⊢
  have HN9 : Hid (NilW W9 y w.heap.size g (g + 1) 9) := Lib.hid (by rw [← hW9]; exact HN8.out.set 9)
  have HB9 : Hid (Below w.heap.size w W9) := Lib.hid (by rw [← hW9]; exact HB8.out.setCell (Nat.le_of_lt HN8.out.hng) _)
  have HL9 : Hid (Led W9 q D (exM1 y.a)) := Lib.hid (by
    rw [← hW9]
    exact HL8.out.far (p := ⟨g, 1, none⟩) (fun hh => by have : q ≤ g := HD.out _ hh; have := HQ.out; omega) _)
  clear hs hW9 HN8 HB8 HL8 m0 m1 m2 m3 m4 g0 g1 g2 g3 f1
  have HLn : Hid (Calls Tryz.prog 12 #[.pointer (some ⟨q, 0, none⟩), .int .i64 0] W9 (LinePost (some ⟨exY y.a, exL, 0⟩) W9)) := Lib.hid (Line_any q D (exM1 y.a) 0 (by decide) W9 HL9.out (by show (1 : Nat) ≤ 1000000; decide))
  go_wp2_with fail
  refine HLn.out.mono ?_
  rintro e w10 ⟨A, cA, rfl, ho, hb⟩
  obtain ⟨gA, XA, rfl, hB, hx, hx1⟩ := own_two ho
  have HXA := Lib.hid hx1
  have HN10 := Lib.hid (HN9.out.on hb)
  have HB10 := Lib.hid (HB9.out.trans (hb.mono HB9.out.size))
  have HL10 := Lib.hid (HL9.out.below hb)
  have HQA : Hid (q < gA) := Lib.hid (Nat.lt_of_lt_of_le (HL9.out.lt q HL9.out.self) hB)
  have HGA : Hid (∀ i, D i → i ≠ gA) := Lib.hid (fun i hi e => by have := HL9.out.lt i hi; omega)
  have HY10 := Lib.hid hx
  clear hb ho hB hx hx1 HN9 HB9 HL9 HLn
  unfold linW exY exL
  go_upto_region 11 with (fail)
  have hz := Blk.new w10 42 #[.int .u32 (y.a : Int), .int .i32 0, .int .u8 1, .int .u32 0, .slice (some ⟨gA, 0, none⟩) 2 cA, .int .i64 0]
  have ha := b_alloc w10 (.cells #[.int .u32 (y.a : Int), .int .i32 0, .int .u8 1, .int .u32 0, .slice (some ⟨gA, 0, none⟩) 2 cA, .int .i64 0] 42)
  obtain ⟨W11, hW⟩ : ∃ W, w10.alloc (.cells #[.int .u32 (y.a : Int), .int .i32 0, .int .u8 1, .int .u32 0, .slice (some ⟨gA, 0, none⟩) 2 cA, .int .i64 0] 42) = W := ⟨_, rfl⟩
  rw [hW] at ha hz ⊢
  have HN11 := Lib.hid (HN10.out.on ha)
  have HB11 := Lib.hid (HB10.out.trans (ha.mono HB10.out.size))
  have HL11 := Lib.hid (HL10.out.below ha)
  have HY11 := Lib.hid (HY10.out.below ha HY10.out.lt)
  have HE11 := Lib.hid hz
  clear ha hW hz HN10 HB10 HL10 HY10
  have x0 := HE11.out.cell 0
  have x1 := HE11.out.cell 1
  have x2 := HE11.out.cell 2
  have x3 := HE11.out.cell 3
  have x4 := HE11.out.cell 4
  have x5 := HE11.out.cell 5
  simp at x0 x1 x2 x3 x4 x5
  have y1 := HY11.out.cell 1
  have f1 := HY11.out.frozen 1
  rw [HXA.out] at y1
  go_upto_region 12 with (fail)
  obtain ⟨W12, hW⟩ : ∃ W, W11.setCell ⟨gA, 1, none⟩ (.int .i64 8) = W := ⟨_, rfl⟩
  rw [hW]
  have HN12 : Hid (NilW W12 y w.heap.size g (g + 1) 9) := Lib.hid (by
    rw [← hW]
    exact HN11.out.below ((Below.refl _ W11).setCell (B := q) (Nat.le_of_lt HQA.out) _) HQ.out)
  have HB12 : Hid (Below w.heap.size w W12) := Lib.hid (by
    rw [← hW]
    exact HB11.out.setCell (Nat.le_of_lt (Nat.lt_of_le_of_lt HQw.out HQA.out)) _)
  have HL12 : Hid (Led W12 q D (exM1 y.a)) := Lib.hid (by
    rw [← hW]
    exact HL11.out.far (p := ⟨gA, 1, none⟩) (fun hh => HGA.out _ hh rfl) _)
  clear hW HN11 HB11 HL11 HY11 HE11 y1 f1 x0 x1 x2 x3 x4 x5 HXA HGA HQA
  have m0 := HN12.out.he.cell 0
  have m1 := HN12.out.he.cell 1
  have m2 := HN12.out.he.cell 2
  have m3 := HN12.out.he.cell 3
  have m4 := HN12.out.he.cell 4
  simp at m0 m1 m2 m3 m4
  have HLv : Hid (Calls Tryz.prog 16 #[.pointer (some ⟨q, 0, none⟩), .agg #[.int .u32 (y.a : Int), .int .i32 0, .int .u8 1, .int .u32 0]] W12 (LivePost (some ⟨exY y.a, exL, 0⟩) W12)) := Lib.hid (by
    have := Live_any q D (exM1 y.a) (exY y.a) (exY_in hya) W12 HL12.out (by show (1 : Nat) ≤ 1000000; decide)
    rw [show liveX (exM1 y.a) (exY y.a) = some ⟨exY y.a, exL, 0⟩ from by unfold liveX; rw [exLive1]; rfl] at this
    exact this)
  go_wp2_with fail
  refine HLv.out.mono ?_
  rintro e w13 ⟨B, cB, rfl, ho, hb⟩
  obtain ⟨gB, XB, rfl, hB, hx, hx1⟩ := own_two ho
  have HXB := Lib.hid hx1
  have HN13 := Lib.hid (HN12.out.on hb)
  have HB13 := Lib.hid (HB12.out.trans (hb.mono HB12.out.size))
  have HL13 := Lib.hid (HL12.out.below hb)
  have HQB : Hid (q < gB) := Lib.hid (Nat.lt_of_lt_of_le (HL12.out.lt q HL12.out.self) hB)
  have HGB : Hid (∀ i, D i → i ≠ gB) := Lib.hid (fun i hi e => by have := HL12.out.lt i hi; omega)
  have HY13 := Lib.hid hx
  clear hb ho hB hx hx1 HN12 HB12 HL12 HLv m0 m1 m2 m3 m4
  unfold entV entC exY exL
  go_upto_region 13 with (fail)
  have hz := Blk.new w13 40 #[.int .u32 (y.a : Int), .int .i32 0, .int .u8 1, .int .u32 0, .slice (some ⟨gB, 0, none⟩) 2 cB]
  have ha := b_alloc w13 (.cells #[.int .u32 (y.a : Int), .int .i32 0, .int .u8 1, .int .u32 0, .slice (some ⟨gB, 0, none⟩) 2 cB] 40)
  obtain ⟨W14, hW⟩ : ∃ W, w13.alloc (.cells #[.int .u32 (y.a : Int), .int .i32 0, .int .u8 1, .int .u32 0, .slice (some ⟨gB, 0, none⟩) 2 cB] 40) = W := ⟨_, rfl⟩
  rw [hW] at ha hz ⊢
  have HN14 := Lib.hid (HN13.out.on ha)
  have HB14 := Lib.hid (HB13.out.trans (ha.mono HB13.out.size))
  have HL14 := Lib.hid (HL13.out.below ha)
  have HY14 := Lib.hid (HY13.out.below ha HY13.out.lt)
  have HE14 := Lib.hid hz
  clear ha hW hz HN13 HB13 HL13 HY13
  have x0 := HE14.out.cell 0
  have x1 := HE14.out.cell 1
  have x2 := HE14.out.cell 2
  have x3 := HE14.out.cell 3
  have x4 := HE14.out.cell 4
  simp at x0 x1 x2 x3 x4
  have y1 := HY14.out.cell 1
  have f1 := HY14.out.frozen 1
  rw [HXB.out] at y1
  go_upto_region 14 with (fail)
  obtain ⟨W15, hW⟩ : ∃ W, W14.setCell ⟨gB, 1, none⟩ (.int .i64 7) = W := ⟨_, rfl⟩
  rw [hW]
  have HN15 : Hid (NilW W15 y w.heap.size g (g + 1) 9) := Lib.hid (by
    rw [← hW]
    exact HN14.out.below ((Below.refl _ W14).setCell (B := q) (Nat.le_of_lt HQB.out) _) HQ.out)
  have HB15 : Hid (Below w.heap.size w W15) := Lib.hid (by
    rw [← hW]
    exact HB14.out.setCell (Nat.le_of_lt (Nat.lt_of_le_of_lt HQw.out HQB.out)) _)
  have HL15 : Hid (Led W15 q D (exM1 y.a)) := Lib.hid (by
    rw [← hW]
    exact HL14.out.far (p := ⟨gB, 1, none⟩) (fun hh => HGB.out _ hh rfl) _)
  clear hW HN14 HB14 HL14 HY14 HE14 y1 f1 x0 x1 x2 x3 x4 HXB HGB HQB
  have m0 := HN15.out.he.cell 0
  have m1 := HN15.out.he.cell 1
  have m2 := HN15.out.he.cell 2
  have m3 := HN15.out.he.cell 3
  have m4 := HN15.out.he.cell 4
  simp at m0 m1 m2 m3 m4
  have HLv : Hid (Calls Tryz.prog 16 #[.pointer (some ⟨q, 0, none⟩), .agg #[.int .u32 (y.a : Int), .int .i32 0, .int .u8 1, .int .u32 0]] W15 (LivePost (some ⟨exY y.a, exL, 0⟩) W15)) := Lib.hid (by
    have := Live_any q D (exM1 y.a) (exY y.a) (exY_in hya) W15 HL15.out (by show (1 : Nat) ≤ 1000000; decide)
    rw [show liveX (exM1 y.a) (exY y.a) = some ⟨exY y.a, exL, 0⟩ from by unfold liveX; rw [exLive1]; rfl] at this
    exact this)
  go_wp2_with fail
  refine HLv.out.mono ?_
  rintro e w16 ⟨C, cC, rfl, ho, hb⟩
  obtain ⟨gC, XC, rfl, hB, hx, hx1⟩ := own_two ho
  have HXC := Lib.hid hx1
  have HN16 := Lib.hid (HN15.out.on hb)
  have HB16 := Lib.hid (HB15.out.trans (hb.mono HB15.out.size))
  have HL16 := Lib.hid (HL15.out.below hb)
  have HQC : Hid (q < gC) := Lib.hid (Nat.lt_of_lt_of_le (HL15.out.lt q HL15.out.self) hB)
  have HLC : Hid (gC < w16.heap.size) := Lib.hid hx.lt
  have HGC : Hid (∀ i, D i → i ≠ gC) := Lib.hid (fun i hi e => by have := HL15.out.lt i hi; omega)
  have HY16 := Lib.hid hx
  clear hb ho hB hx hx1 HN15 HB15 HL15 HLv m0 m1 m2 m3 m4
  unfold entV entC exY exL
  go_upto_region 15 with (fail)
  have hz := Blk.new w16 40 #[.int .u32 (y.a : Int), .int .i32 0, .int .u8 1, .int .u32 0, .slice (some ⟨gC, 0, none⟩) 2 cC]
  have ha := b_alloc w16 (.cells #[.int .u32 (y.a : Int), .int .i32 0, .int .u8 1, .int .u32 0, .slice (some ⟨gC, 0, none⟩) 2 cC] 40)
  obtain ⟨W17, hW⟩ : ∃ W, w16.alloc (.cells #[.int .u32 (y.a : Int), .int .i32 0, .int .u8 1, .int .u32 0, .slice (some ⟨gC, 0, none⟩) 2 cC] 40) = W := ⟨_, rfl⟩
  rw [hW] at ha hz ⊢
  have HN17 := Lib.hid (HN16.out.on ha)
  have HB17 := Lib.hid (HB16.out.trans (ha.mono HB16.out.size))
  have HL17 := Lib.hid (HL16.out.below ha)
  have HY17 := Lib.hid (HY16.out.below ha HY16.out.lt)
  have HE17 := Lib.hid hz
  clear ha hW hz HN16 HB16 HL16 HY16
  have m0 := HN17.out.he.cell 0
  have m1 := HN17.out.he.cell 1
  have m2 := HN17.out.he.cell 2
  have m3 := HN17.out.he.cell 3
  have m4 := HN17.out.he.cell 4
  simp at m0 m1 m2 m3 m4
  have g0 := HN17.out.hg.cell 0
  have g1 := HN17.out.hg.cell 1
  have g2 := HN17.out.hg.cell 2
  have g3 := HN17.out.hg.cell 3
  simp [exG] at g0 g1 g2 g3
  have f1 := HN17.out.hg.frozen 1
  go_upto_region 16 with (fail)
  obtain ⟨W18, hW⟩ : ∃ W, W17.setCell ⟨g, 1, none⟩ (.int .i64 (-5)) = W := ⟨_, rfl⟩
  rw [hW]
  have HN18 : Hid (NilW W18 y w.heap.size g (g + 1) (-5)) := Lib.hid (by rw [← hW]; exact HN17.out.set (-5))
  have HB18 : Hid (Below w.heap.size w W18) := Lib.hid (by rw [← hW]; exact HB17.out.setCell (Nat.le_of_lt HN17.out.hng) _)
  have HL18 : Hid (Led W18 q D (exM1 y.a)) := Lib.hid (by
    rw [← hW]
    exact HL17.out.far (p := ⟨g, 1, none⟩) (fun hh => by have : q ≤ g := HD.out _ hh; have := HQ.out; omega) _)
  have HY18 : Hid (Blk W18 gC 53 XC) := Lib.hid (by rw [← hW]; exact HY17.out.far (by have := HQ.out; have := HQC.out; simp; omega) _)
  have HE18 : Hid (Blk W18 w16.heap.size 40 #[.int .u32 (y.a : Int), .int .i32 0, .int .u8 1, .int .u32 0, .slice (some ⟨gC, 0, none⟩) 2 cC]) := Lib.hid (by rw [← hW]; exact HE17.out.far (by have := HQ.out; have := HQC.out; have := HLC.out; simp; omega) _)
  obtain ⟨gW, hgW⟩ : ∃ gW, w16.heap.size = gW := ⟨_, rfl⟩
  rw [hgW] at HE18 ⊢
  clear hW hgW HN17 HB17 HL17 HY17 HE17 m0 m1 m2 m3 m4 g0 g1 g2 g3 f1 HLC HQC HGC
  have m0 := HN18.out.he.cell 0
  have m1 := HN18.out.he.cell 1
  have m2 := HN18.out.he.cell 2
  have m3 := HN18.out.he.cell 3
  have m4 := HN18.out.he.cell 4
  simp at m0 m1 m2 m3 m4
  have HP : Hid (Calls Tryz.prog 17 #[.pointer (some ⟨q, 0, none⟩), .agg #[.int .u32 (y.a : Int), .int .i32 0, .int .u8 1, .int .u32 0, .slice (some ⟨g, 0, none⟩) 2 2]] W18 (PostPost W18 q D (exM1 y.a) (exY y.a) exL)) := Lib.hid (Post_any q D (exM1 y.a) (exY y.a) (exY_in hya) (some ⟨g, 0, none⟩) 2 2 exL W18 HL18.out (Rs_two' HN18.out.hg) rfl (by decide) exL_in (by show (1 : Nat) ≤ 1000000; decide))
  go_wp2_with fail
  refine HP.out.mono ?_
  rintro e w19 ⟨-, hno⟩
  have hnot : ¬ postOk (exM1 y.a) (exY y.a) exL := fun h => by
    have h1 := exLive1 y.a
    rw [h.2.1] at h1
    cases h1
  obtain ⟨v, rfl, -, hfa, hb⟩ := hno hnot
  obtain ⟨NT, rfl, -, hT⟩ := hfa (exEnt y.a)
  have hT : Blk w19 NT 122 #[.int .u64 (y.a : Int), eno14 10] := by
    have he : (postE (exM1 y.a) (exY y.a) exL : Int) = 10 := by
      unfold postE
      rw [exEnt, exLive1]
      rfl
    rw [he] at hT
    exact hT
  have HN19 := Lib.hid (HN18.out.on hb)
  have HB19 := Lib.hid (HB18.out.trans (hb.mono HB18.out.size))
  have HL19 := Lib.hid (HL18.out.below hb)
  have HY19 := Lib.hid (HY18.out.below hb HY18.out.lt)
  have HE19 := Lib.hid (HE18.out.below hb HE18.out.lt)
  have HT19 := Lib.hid hT
  clear hno hnot hfa hb hT HP HN18 HB18 HL18 HY18 HE18 m0 m1 m2 m3 m4
  have HLn : Hid (Calls Tryz.prog 12 #[.pointer (some ⟨q, 0, none⟩), .int .i64 1] w19 (LinePost none w19)) := Lib.hid (Line_any q D (exM1 y.a) 1 (by decide) w19 HL19.out (by show (1 : Nat) ≤ 1000000; decide))
  go_wp2_with fail
  refine HLn.out.mono ?_
  rintro e w20 ⟨rfl, hb⟩
  have HN20 := Lib.hid (HN19.out.on hb)
  have HB20 := Lib.hid (HB19.out.trans (hb.mono HB19.out.size))
  have HY20 := Lib.hid (HY19.out.below hb HY19.out.lt)
  have HE20 := Lib.hid (HE19.out.below hb HE19.out.lt)
  have HT20 := Lib.hid (HT19.out.below hb HT19.out.lt)
  clear hb HN19 HB19 HL19 HY19 HE19 HT19 HLn
  unfold zeroLn
  go_upto_region 18 with (fail)
  have ha := b_alloc w20 (.cells #[.int .u32 0, .int .i32 0, .int .u8 0, .int .u32 0, .slice none 0 0, .int .i64 0] 42)
  have HN0 := Lib.hid (HN20.out.on ha)
  have HB0 := Lib.hid (HB20.out.trans (ha.mono HB20.out.size))
  have HY0 := Lib.hid (HY20.out.below ha HY20.out.lt)
  have HE0 := Lib.hid (HE20.out.below ha HE20.out.lt)
  have HT0 := Lib.hid (HT20.out.below ha HT20.out.lt)
  clear ha HN20 HB20 HY20 HE20 HT20
  obtain ⟨u0, hu0⟩ : ∃ W, w20.alloc (.cells #[.int .u32 0, .int .i32 0, .int .u8 0, .int .u32 0, .slice none 0 0, .int .i64 0] 42) = W := ⟨_, rfl⟩
  rw [hu0] at HN0 HB0 HY0 HE0 HT0 ⊢
  have HU0 := Lib.hid (Below.refl u0.heap.size u0)
  have HG0 := Lib.hid (hg.below HB0.out)
  clear hu0
  have hw : IntKind.u64.wrap (y.a : Int) = (y.a : Int) := by rw [IntKind.wrap_u64]; omega
  have LE : ∀ W', Below u0.heap.size u0 W' → (Instr.loadAt 40 (.pointer (some ⟨g + 1, 0, none⟩))).run Tryz.prog W' = .ok (.agg #[.int .u32 (y.a : Int), .int .i32 0, .int .u8 1, .int .u32 0, .slice (some ⟨g, 0, none⟩) 2 2]) W' := fun W' hb => ent_load14 (HN0.out.on hb).he
  have LK : ∀ W', Below u0.heap.size u0 W' → (Instr.loadAt 33 (.pointer (some ⟨w.heap.size, 0, none⟩))).run Tryz.prog W' = .ok (.agg #[.int .u32 (y.a : Int), .int .i32 y.d, .int .u8 (y.k : Int), .int .u32 (y.s : Int)]) W' := fun W' hb => key_load14 (HN0.out.on hb).hk
  have LU : ∀ W', Below u0.heap.size u0 W' → (Instr.loadAt 30 (.pointer (some ⟨w.heap.size, 0, none⟩))).run Tryz.prog W' = .ok (.int .u32 (y.a : Int)) W' := fun W' hb => u32_load14 (HN0.out.on hb).hk
  have LS : ∀ W', Below u0.heap.size u0 W' → (Instr.loadAt 34 (.pointer (some ⟨gW, 4, none⟩))).run Tryz.prog W' = .ok (.slice (some ⟨gC, 0, none⟩) 2 cC) W' := fun W' hb => sl_loadT (HE0.out.below hb HE0.out.lt)
  have LA : ∀ W', Below u0.heap.size u0 W' → (Instr.loadAt 51 (.pointer (some ⟨gC, 1, none⟩))).run Tryz.prog W' = .ok (.int .i64 (-5)) W' := fun W' hb => coin_load14 (((HY0.out.below hb HY0.out.lt).cell 1).trans HXC.out)
  have LG : ∀ W', Below u0.heap.size u0 W' → Laid W' := fun W' hb => HG0.out.below hb
  have LT : ∀ W', Below u0.heap.size u0 W' → Blk W' NT 122 #[.int .u64 (y.a : Int), eno14 10] := fun W' hb => HT0.out.below hb HT0.out.lt
  clear HN0 HY0 HE0 HT0 HU0 HG0
  refine wp_region_flow1 [some 92, some 93, some 94, some 95, some 96, some 97, some 98, some 99, some 100, some 101, some 102, some 103, some 104, some 105, some 106, some 107, some 108, some 109, some 110, some 111, some 112, some 113, some 114, some 115, some 116, some 117, some 118, some 119, some 120, some 121, some 122, some 123, some 124, some 125, some 126, some 127, some 128, some 129, some 130, some 131, some 132, some 133, some 134, some 135, some 136, some 137, some 138, some 139, some 140, some 141, some 142, some 143, some 144, some 145, some 146, some 147, some 148, some 149, some 150, some 151, some 152, some 153, some 154, some 155, some 156, some 157, some 158, some 159, some 160, some 161, some 162, some 163, some 164, some 165, some 166, some 167, some 168, some 169, some 170, some 171, some 172, some 173, some 174, some 175, some 176, some 177, some 178, some 179, some 180, some 6] (fun i => ([.is (.pointer none), .is (.agg #[.int .u32 (y.a : Int), .int .i32 0, .int .u8 1, .int .u32 0, .slice (some ⟨g, 0, none⟩) 2 2]), faultW (y.a : Int) 3, .is (.int .i64 3), .is (.bool true), .is (.bool true), .is (.pointer none), .is (.agg #[.int .u32 (y.a : Int), .int .i32 y.d, .int .u8 (y.k : Int), .int .u32 (y.s : Int)]), faultW (y.a : Int) 3, .is (.int .i64 3), .is (.bool true), .is (.bool true), .is (.bool true), .is (.bool false), .is (.bool true), .is (.bool true), .is (.bool true), .is (.bool false), .is (.bool true), .is (.bool true), .is (.bool true), .is (.bool false), .is (.bool true), .is (.bool true), .is (.bool true), .is (.pointer none), .is (.slice none 0 0), .is (.int .i64 0), .is (.pointer none), .is (.slice none 0 0), .is (.int .i64 0), .is (.int .i64 0), .is (.pointer none), .is (.slice none 0 0), .is (.int .i64 0), .is (.int .i64 0), .is (.pointer none), .is (.int .i64 0), .is (.int .i64 0), .is (.bool true), .is (.bool true), .is (.bool true), .is (.pointer none), .is (.pointer (some ⟨w.heap.size, 0, none⟩)), .is (.int .u32 (y.a : Int)), .is (.int .u8 (c : Int)), .is (.int .i64 0), .is (.bool true), .is (.bool true), .is (.bool true), .is (.pointer none), .is (.int .u8 (c : Int)), .is (.int .i64 0), .is (.bool true), .is (.bool true), .is (.bool true), .is (.pointer none), .is (.pointer none), .is (.bool true), .is (.bool true), .is (.bool true), .is (.bool true), .is (.bool true), .is (.bool true), .is (.pointer (some ⟨q, 0, none⟩)), .is (.bool false), .is (.bool true), .is (.bool true), .is (.bool true), .is (.pointer (some ⟨gW, 4, none⟩)), .is (.slice (some ⟨gC, 0, none⟩) 2 cC), .is (.pointer (some ⟨gC, 0, none⟩)), .is (.pointer (some ⟨gC, 1, none⟩)), .is (.int .i64 (-5)), .is (.bool true), .is (.bool true), .is (.bool true), .is (.iface 119 (.pointer (some ⟨NT, 0, none⟩))), .is (.int .i64 10), .is (.bool true), .is (.bool true), .is (.bool true), .is (.iface 119 (.pointer (some ⟨NT, 0, none⟩))), .is (.int .u64 (y.a : Int)), .is (.pointer (some ⟨w.heap.size, 0, none⟩)), .is (.int .u32 (y.a : Int)), .is (.int .u64 (y.a : Int)), .is (.bool true), .is (.bool true), .is (.bool true)] : List Flw).getD i .any) (by kernel_rfl) (by kernel_rfl) rfl ?_ 6 89 (.bool true) rfl (by kernel_rfl) ?_ (by simp) ?_
  · skip
    refine ⟨step_free rfl (fun aF wF hs hb => ?_), ?_⟩
    · obtain ⟨x0, -⟩ := hs
      have e0 : aF.eval (.tmp 7) = .pointer none := x0
      exact opC_move e0 ⟨rfl, below_same wF⟩
    refine ⟨step_free rfl (fun aF wF hs hb => ?_), ?_⟩
    · obtain ⟨x0, -⟩ := hs
      have e0 : aF.eval (.tmp 8) = .pointer (some ⟨g + 1, 0, none⟩) := x0
      exact opC_load e0 (LE wF hb) ⟨rfl, below_same wF⟩
    refine ⟨step_free rfl (fun aF wF hs hb => ?_), ?_⟩
    · obtain ⟨x0, x1, -⟩ := hs
      have e0 : aF.eval (.tmp 92) = .pointer none := x0
      have e1 : aF.eval (.tmp 93) = .agg #[.int .u32 (y.a : Int), .int .i32 0, .int .u8 1, .int .u32 0, .slice (some ⟨g, 0, none⟩) 2 2] := x1
      exact opC_callF (args := #[.pointer none, .agg #[.int .u32 (y.a : Int), .int .i32 0, .int .u8 1, .int .u32 0, .slice (some ⟨g, 0, none⟩) 2 2]]) (enters_of Tryz.func17 (by kernel_rfl) rfl) (by simp [e0, e1]) ((fault_toF (Post_nil (exY y.a) hya (.slice (some ⟨g, 0, none⟩) 2 2) wF))) (fun _ _ h1 h2 => ⟨h1, h2⟩)
    refine ⟨step_free rfl (fun aF wF hs hb => ?_), ?_⟩
    · obtain ⟨x0, -⟩ := hs
      obtain ⟨Nf, hv, -, hN⟩ : (faultW (y.a : Int) 3).p (aF.eval (.tmp 94)) wF := x0
      exact opC_call (args := #[.iface 119 (.pointer (some ⟨Nf, 0, none⟩))]) (enters_of Tryz.func18 (by kernel_rfl) rfl) (by simp [hv]) (Code_err Nf _ 3 wF (LG wF hb) hN) (fun _ h => ⟨rfl, h⟩)
    refine ⟨step_free rfl (fun aF wF hs hb => ?_), ?_⟩
    · obtain ⟨x0, -⟩ := hs
      have e0 : aF.eval (.tmp 95) = .int .i64 3 := x0
      refine opC_value (v := .bool true) ?_ ⟨rfl, below_same wF⟩
      have t0 := ev_of e0
      simp [execOp, go_sem, t0]
    refine ⟨step_free rfl (fun aF wF hs hb => ?_), ?_⟩
    · obtain ⟨x0, -⟩ := hs
      have e0 : aF.eval (.tmp 96) = .bool true := x0
      exact opC_move e0 ⟨rfl, below_same wF⟩
    refine ⟨step_yes 5 97 rfl rfl (fun _ _ h => h) (fun aF wF hs hb => ?_), ?_⟩
    · obtain ⟨x0, -⟩ := hs
      have e0 : aF.eval (.tmp 7) = .pointer none := x0
      exact opC_move e0 ⟨rfl, below_same wF⟩
    refine ⟨step_yes 5 97 rfl rfl (fun _ _ h => h) (fun aF wF hs hb => ?_), ?_⟩
    · obtain ⟨x0, -⟩ := hs
      have e0 : aF.eval (.tmp 3) = .pointer (some ⟨w.heap.size, 0, none⟩) := x0
      exact opC_load e0 (LK wF hb) ⟨rfl, below_same wF⟩
    refine ⟨step_yes 5 97 rfl rfl (fun _ _ h => h) (fun aF wF hs hb => ?_), ?_⟩
    · obtain ⟨x0, x1, -⟩ := hs
      have e0 : aF.eval (.tmp 98) = .pointer none := x0
      have e1 : aF.eval (.tmp 99) = .agg #[.int .u32 (y.a : Int), .int .i32 y.d, .int .u8 (y.k : Int), .int .u32 (y.s : Int)] := x1
      exact opC_callF (args := #[.pointer none, .agg #[.int .u32 (y.a : Int), .int .i32 y.d, .int .u8 (y.k : Int), .int .u32 (y.s : Int)]]) (enters_of Tryz.func19 (by kernel_rfl) rfl) (by simp [e0, e1]) ((fault_toF (Rev_nil y hy wF))) (fun _ _ h1 h2 => ⟨h1, h2⟩)
    refine ⟨step_yes 5 97 rfl rfl (fun _ _ h => h) (fun aF wF hs hb => ?_), ?_⟩
    · obtain ⟨x0, -⟩ := hs
      obtain ⟨Nf, hv, -, hN⟩ : (faultW (y.a : Int) 3).p (aF.eval (.tmp 100)) wF := x0
      exact opC_call (args := #[.iface 119 (.pointer (some ⟨Nf, 0, none⟩))]) (enters_of Tryz.func18 (by kernel_rfl) rfl) (by simp [hv]) (Code_err Nf _ 3 wF (LG wF hb) hN) (fun _ h => ⟨rfl, h⟩)
    refine ⟨step_yes 5 97 rfl rfl (fun _ _ h => h) (fun aF wF hs hb => ?_), ?_⟩
    · obtain ⟨x0, -⟩ := hs
      have e0 : aF.eval (.tmp 101) = .int .i64 3 := x0
      refine opC_value (v := .bool true) ?_ ⟨rfl, below_same wF⟩
      have t0 := ev_of e0
      simp [execOp, go_sem, t0]
    refine ⟨step_free rfl (fun aF wF hs hb => ?_), ?_⟩
    · obtain ⟨x0, x1, -⟩ := hs
      have e0 : aF.eval (.tmp 97) = .bool true := x0
      have e1 : aF.eval (.tmp 102) = .bool true := x1
      refine opC_value (v := .bool true) ?_ ⟨rfl, below_same wF⟩
      have t0 := ev_of e0
      have t1 := ev_of e1
      simp [execOp, go_sem, t0, t1]
    refine ⟨step_free rfl (fun aF wF hs hb => ?_), ?_⟩
    · obtain ⟨x0, -⟩ := hs
      have e0 : aF.eval (.tmp 103) = .bool true := x0
      exact opC_move e0 ⟨rfl, below_same wF⟩
    refine ⟨step_yes 12 104 rfl rfl (fun _ _ h => h) (fun aF wF hs hb => ?_), ?_⟩
    · obtain ⟨x0, -⟩ := hs
      have e0 : aF.eval (.tmp 10) = .bool false := x0
      exact opC_move e0 ⟨rfl, below_same wF⟩
    refine ⟨step_yes 12 104 rfl rfl (fun _ _ h => h) (fun aF wF hs hb => ?_), ?_⟩
    · obtain ⟨x0, -⟩ := hs
      have e0 : aF.eval (.tmp 105) = .bool false := x0
      refine opC_value (v := .bool true) ?_ ⟨rfl, below_same wF⟩
      have t0 := ev_of e0
      simp [execOp, go_sem, t0]
    refine ⟨step_free rfl (fun aF wF hs hb => ?_), ?_⟩
    · obtain ⟨x0, x1, -⟩ := hs
      have e0 : aF.eval (.tmp 104) = .bool true := x0
      have e1 : aF.eval (.tmp 106) = .bool true := x1
      refine opC_value (v := .bool true) ?_ ⟨rfl, below_same wF⟩
      have t0 := ev_of e0
      have t1 := ev_of e1
      simp [execOp, go_sem, t0, t1]
    refine ⟨step_free rfl (fun aF wF hs hb => ?_), ?_⟩
    · obtain ⟨x0, -⟩ := hs
      have e0 : aF.eval (.tmp 107) = .bool true := x0
      exact opC_move e0 ⟨rfl, below_same wF⟩
    refine ⟨step_yes 16 108 rfl rfl (fun _ _ h => h) (fun aF wF hs hb => ?_), ?_⟩
    · obtain ⟨x0, -⟩ := hs
      have e0 : aF.eval (.tmp 12) = .bool false := x0
      exact opC_move e0 ⟨rfl, below_same wF⟩
    refine ⟨step_yes 16 108 rfl rfl (fun _ _ h => h) (fun aF wF hs hb => ?_), ?_⟩
    · obtain ⟨x0, -⟩ := hs
      have e0 : aF.eval (.tmp 109) = .bool false := x0
      refine opC_value (v := .bool true) ?_ ⟨rfl, below_same wF⟩
      have t0 := ev_of e0
      simp [execOp, go_sem, t0]
    refine ⟨step_free rfl (fun aF wF hs hb => ?_), ?_⟩
    · obtain ⟨x0, x1, -⟩ := hs
      have e0 : aF.eval (.tmp 108) = .bool true := x0
      have e1 : aF.eval (.tmp 110) = .bool true := x1
      refine opC_value (v := .bool true) ?_ ⟨rfl, below_same wF⟩
      have t0 := ev_of e0
      have t1 := ev_of e1
      simp [execOp, go_sem, t0, t1]
    refine ⟨step_free rfl (fun aF wF hs hb => ?_), ?_⟩
    · obtain ⟨x0, -⟩ := hs
      have e0 : aF.eval (.tmp 111) = .bool true := x0
      exact opC_move e0 ⟨rfl, below_same wF⟩
    refine ⟨step_yes 20 112 rfl rfl (fun _ _ h => h) (fun aF wF hs hb => ?_), ?_⟩
    · obtain ⟨x0, -⟩ := hs
      have e0 : aF.eval (.tmp 22) = .bool false := x0
      exact opC_move e0 ⟨rfl, below_same wF⟩
    refine ⟨step_yes 20 112 rfl rfl (fun _ _ h => h) (fun aF wF hs hb => ?_), ?_⟩
    · obtain ⟨x0, -⟩ := hs
      have e0 : aF.eval (.tmp 113) = .bool false := x0
      refine opC_value (v := .bool true) ?_ ⟨rfl, below_same wF⟩
      have t0 := ev_of e0
      simp [execOp, go_sem, t0]
    refine ⟨step_free rfl (fun aF wF hs hb => ?_), ?_⟩
    · obtain ⟨x0, x1, -⟩ := hs
      have e0 : aF.eval (.tmp 112) = .bool true := x0
      have e1 : aF.eval (.tmp 114) = .bool true := x1
      refine opC_value (v := .bool true) ?_ ⟨rfl, below_same wF⟩
      have t0 := ev_of e0
      have t1 := ev_of e1
      simp [execOp, go_sem, t0, t1]
    refine ⟨step_free rfl (fun aF wF hs hb => ?_), ?_⟩
    · obtain ⟨x0, -⟩ := hs
      have e0 : aF.eval (.tmp 115) = .bool true := x0
      exact opC_move e0 ⟨rfl, below_same wF⟩
    refine ⟨step_yes 24 116 rfl rfl (fun _ _ h => h) (fun aF wF hs hb => ?_), ?_⟩
    · obtain ⟨x0, -⟩ := hs
      have e0 : aF.eval (.tmp 7) = .pointer none := x0
      exact opC_move e0 ⟨rfl, below_same wF⟩
    refine ⟨step_yes 24 116 rfl rfl (fun _ _ h => h) (fun aF wF hs hb => ?_), ?_⟩
    · obtain ⟨x0, -⟩ := hs
      have e0 : aF.eval (.tmp 117) = .pointer none := x0
      exact opC_call (args := #[.pointer none, .int .u32 1]) (enters_of Tryz.func15 (by kernel_rfl) rfl) (by simp [e0] <;> rfl) (Loan_nil 1 wF) (fun _ h => ⟨rfl, h⟩)
    refine ⟨step_yes 24 116 rfl rfl (fun _ _ h => h) (fun aF wF hs hb => ?_), ?_⟩
    · obtain ⟨x0, -⟩ := hs
      have e0 : aF.eval (.tmp 118) = .slice none 0 0 := x0
      refine opC_value (v := .int .i64 0) ?_ ⟨rfl, below_same wF⟩
      have t0 := ev_of e0
      go_simp
    refine ⟨step_yes 24 116 rfl rfl (fun _ _ h => h) (fun aF wF hs hb => ?_), ?_⟩
    · obtain ⟨x0, -⟩ := hs
      have e0 : aF.eval (.tmp 7) = .pointer none := x0
      exact opC_move e0 ⟨rfl, below_same wF⟩
    refine ⟨step_yes 24 116 rfl rfl (fun _ _ h => h) (fun aF wF hs hb => ?_), ?_⟩
    · obtain ⟨x0, -⟩ := hs
      have e0 : aF.eval (.tmp 120) = .pointer none := x0
      exact opC_call (args := #[.pointer none]) (enters_of Tryz.func14 (by kernel_rfl) rfl) (by simp [e0]) (Loans_nil wF) (fun _ h => ⟨rfl, h⟩)
    refine ⟨step_yes 24 116 rfl rfl (fun _ _ h => h) (fun aF wF hs hb => ?_), ?_⟩
    · obtain ⟨x0, -⟩ := hs
      have e0 : aF.eval (.tmp 121) = .slice none 0 0 := x0
      refine opC_value (v := .int .i64 0) ?_ ⟨rfl, below_same wF⟩
      have t0 := ev_of e0
      go_simp
    refine ⟨step_yes 24 116 rfl rfl (fun _ _ h => h) (fun aF wF hs hb => ?_), ?_⟩
    · obtain ⟨x0, x1, -⟩ := hs
      have e0 : aF.eval (.tmp 119) = .int .i64 0 := x0
      have e1 : aF.eval (.tmp 122) = .int .i64 0 := x1
      refine opC_value (v := .int .i64 0) ?_ ⟨rfl, below_same wF⟩
      have t0 := ev_of e0
      have t1 := ev_of e1
      simp [execOp, go_sem, t0, t1]
      decide
    refine ⟨step_yes 24 116 rfl rfl (fun _ _ h => h) (fun aF wF hs hb => ?_), ?_⟩
    · obtain ⟨x0, -⟩ := hs
      have e0 : aF.eval (.tmp 7) = .pointer none := x0
      exact opC_move e0 ⟨rfl, below_same wF⟩
    refine ⟨step_yes 24 116 rfl rfl (fun _ _ h => h) (fun aF wF hs hb => ?_), ?_⟩
    · obtain ⟨x0, -⟩ := hs
      have e0 : aF.eval (.tmp 124) = .pointer none := x0
      exact opC_call (args := #[.pointer none]) (enters_of Tryz.func20 (by kernel_rfl) rfl) (by simp [e0]) (Bytes_nil14 wF) (fun _ h => ⟨rfl, h⟩)
    refine ⟨step_yes 24 116 rfl rfl (fun _ _ h => h) (fun aF wF hs hb => ?_), ?_⟩
    · obtain ⟨x0, -⟩ := hs
      have e0 : aF.eval (.tmp 125) = .slice none 0 0 := x0
      refine opC_value (v := .int .i64 0) ?_ ⟨rfl, below_same wF⟩
      have t0 := ev_of e0
      go_simp
    refine ⟨step_yes 24 116 rfl rfl (fun _ _ h => h) (fun aF wF hs hb => ?_), ?_⟩
    · obtain ⟨x0, x1, -⟩ := hs
      have e0 : aF.eval (.tmp 123) = .int .i64 0 := x0
      have e1 : aF.eval (.tmp 126) = .int .i64 0 := x1
      refine opC_value (v := .int .i64 0) ?_ ⟨rfl, below_same wF⟩
      have t0 := ev_of e0
      have t1 := ev_of e1
      simp [execOp, go_sem, t0, t1]
      decide
    refine ⟨step_yes 24 116 rfl rfl (fun _ _ h => h) (fun aF wF hs hb => ?_), ?_⟩
    · obtain ⟨x0, -⟩ := hs
      have e0 : aF.eval (.tmp 7) = .pointer none := x0
      exact opC_move e0 ⟨rfl, below_same wF⟩
    refine ⟨step_yes 24 116 rfl rfl (fun _ _ h => h) (fun aF wF hs hb => ?_), ?_⟩
    · obtain ⟨x0, -⟩ := hs
      have e0 : aF.eval (.tmp 128) = .pointer none := x0
      exact opC_call (args := #[.pointer none]) (enters_of Tryz.func11 (by kernel_rfl) rfl) (by simp [e0]) (Len_nil wF) (fun _ h => ⟨rfl, h⟩)
    refine ⟨step_yes 24 116 rfl rfl (fun _ _ h => h) (fun aF wF hs hb => ?_), ?_⟩
    · obtain ⟨x0, x1, -⟩ := hs
      have e0 : aF.eval (.tmp 127) = .int .i64 0 := x0
      have e1 : aF.eval (.tmp 129) = .int .i64 0 := x1
      refine opC_value (v := .int .i64 0) ?_ ⟨rfl, below_same wF⟩
      have t0 := ev_of e0
      have t1 := ev_of e1
      simp [execOp, go_sem, t0, t1]
      decide
    refine ⟨step_yes 24 116 rfl rfl (fun _ _ h => h) (fun aF wF hs hb => ?_), ?_⟩
    · obtain ⟨x0, -⟩ := hs
      have e0 : aF.eval (.tmp 130) = .int .i64 0 := x0
      refine opC_value (v := .bool true) ?_ ⟨rfl, below_same wF⟩
      have t0 := ev_of e0
      simp [execOp, go_sem, t0]
    refine ⟨step_free rfl (fun aF wF hs hb => ?_), ?_⟩
    · obtain ⟨x0, x1, -⟩ := hs
      have e0 : aF.eval (.tmp 116) = .bool true := x0
      have e1 : aF.eval (.tmp 131) = .bool true := x1
      refine opC_value (v := .bool true) ?_ ⟨rfl, below_same wF⟩
      have t0 := ev_of e0
      have t1 := ev_of e1
      simp [execOp, go_sem, t0, t1]
    refine ⟨step_free rfl (fun aF wF hs hb => ?_), ?_⟩
    · obtain ⟨x0, -⟩ := hs
      have e0 : aF.eval (.tmp 132) = .bool true := x0
      exact opC_move e0 ⟨rfl, below_same wF⟩
    refine ⟨step_yes 41 133 rfl rfl (fun _ _ h => h) (fun aF wF hs hb => ?_), ?_⟩
    · obtain ⟨x0, -⟩ := hs
      have e0 : aF.eval (.tmp 7) = .pointer none := x0
      exact opC_move e0 ⟨rfl, below_same wF⟩
    refine ⟨step_yes 41 133 rfl rfl (fun _ _ h => h) (fun aF wF hs hb => ?_), ?_⟩
    · obtain ⟨x0, -⟩ := hs
      have e0 : aF.eval (.tmp 3) = .pointer (some ⟨w.heap.size, 0, none⟩) := x0
      refine opC_value (v := .pointer (some ⟨w.heap.size, 0, none⟩)) ?_ ⟨rfl, below_same wF⟩
      have t0 := ev_of e0
      go_simp
    refine ⟨step_yes 41 133 rfl rfl (fun _ _ h => h) (fun aF wF hs hb => ?_), ?_⟩
    · obtain ⟨x0, -⟩ := hs
      have e0 : aF.eval (.tmp 135) = .pointer (some ⟨w.heap.size, 0, none⟩) := x0
      exact opC_load e0 (LU wF hb) ⟨rfl, below_same wF⟩
    refine ⟨step_yes 41 133 rfl rfl (fun _ _ h => h) (fun aF wF hs hb => ?_), ?_⟩
    · obtain ⟨x0, -⟩ := hs
      have e0 : aF.eval (.tmp 2) = .int .u8 (c : Int) := x0
      exact opC_move e0 ⟨rfl, below_same wF⟩
    refine ⟨step_yes 41 133 rfl rfl (fun _ _ h => h) (fun aF wF hs hb => ?_), ?_⟩
    · obtain ⟨x0, x1, x2, -⟩ := hs
      have e0 : aF.eval (.tmp 134) = .pointer none := x0
      have e1 : aF.eval (.tmp 136) = .int .u32 (y.a : Int) := x1
      have e2 : aF.eval (.tmp 137) = .int .u8 (c : Int) := x2
      exact opC_call (args := #[.pointer none, .int .u32 (y.a : Int), .int .u8 (c : Int)]) (enters_of Tryz.func21 (by kernel_rfl) rfl) (by simp [e0, e1, e2]) (Bal_nil y.a c wF) (fun _ h => ⟨rfl, h⟩)
    refine ⟨step_yes 41 133 rfl rfl (fun _ _ h => h) (fun aF wF hs hb => ?_), ?_⟩
    · obtain ⟨x0, -⟩ := hs
      have e0 : aF.eval (.tmp 138) = .int .i64 0 := x0
      refine opC_value (v := .bool true) ?_ ⟨rfl, below_same wF⟩
      have t0 := ev_of e0
      simp [execOp, go_sem, t0]
    refine ⟨step_free rfl (fun aF wF hs hb => ?_), ?_⟩
    · obtain ⟨x0, x1, -⟩ := hs
      have e0 : aF.eval (.tmp 133) = .bool true := x0
      have e1 : aF.eval (.tmp 139) = .bool true := x1
      refine opC_value (v := .bool true) ?_ ⟨rfl, below_same wF⟩
      have t0 := ev_of e0
      have t1 := ev_of e1
      simp [execOp, go_sem, t0, t1]
    refine ⟨step_free rfl (fun aF wF hs hb => ?_), ?_⟩
    · obtain ⟨x0, -⟩ := hs
      have e0 : aF.eval (.tmp 140) = .bool true := x0
      exact opC_move e0 ⟨rfl, below_same wF⟩
    refine ⟨step_yes 49 141 rfl rfl (fun _ _ h => h) (fun aF wF hs hb => ?_), ?_⟩
    · obtain ⟨x0, -⟩ := hs
      have e0 : aF.eval (.tmp 7) = .pointer none := x0
      exact opC_move e0 ⟨rfl, below_same wF⟩
    refine ⟨step_yes 49 141 rfl rfl (fun _ _ h => h) (fun aF wF hs hb => ?_), ?_⟩
    · obtain ⟨x0, -⟩ := hs
      have e0 : aF.eval (.tmp 2) = .int .u8 (c : Int) := x0
      exact opC_move e0 ⟨rfl, below_same wF⟩
    refine ⟨step_yes 49 141 rfl rfl (fun _ _ h => h) (fun aF wF hs hb => ?_), ?_⟩
    · obtain ⟨x0, x1, -⟩ := hs
      have e0 : aF.eval (.tmp 142) = .pointer none := x0
      have e1 : aF.eval (.tmp 143) = .int .u8 (c : Int) := x1
      exact opC_call (args := #[.pointer none, .int .u8 (c : Int)]) (enters_of Tryz.func22 (by kernel_rfl) rfl) (by simp [e0, e1]) (Ctl_nil c wF) (fun _ h => ⟨rfl, h⟩)
    refine ⟨step_yes 49 141 rfl rfl (fun _ _ h => h) (fun aF wF hs hb => ?_), ?_⟩
    · obtain ⟨x0, -⟩ := hs
      have e0 : aF.eval (.tmp 144) = .int .i64 0 := x0
      refine opC_value (v := .bool true) ?_ ⟨rfl, below_same wF⟩
      have t0 := ev_of e0
      simp [execOp, go_sem, t0]
    refine ⟨step_free rfl (fun aF wF hs hb => ?_), ?_⟩
    · obtain ⟨x0, x1, -⟩ := hs
      have e0 : aF.eval (.tmp 141) = .bool true := x0
      have e1 : aF.eval (.tmp 145) = .bool true := x1
      refine opC_value (v := .bool true) ?_ ⟨rfl, below_same wF⟩
      have t0 := ev_of e0
      have t1 := ev_of e1
      simp [execOp, go_sem, t0, t1]
    refine ⟨step_free rfl (fun aF wF hs hb => ?_), ?_⟩
    · obtain ⟨x0, -⟩ := hs
      have e0 : aF.eval (.tmp 146) = .bool true := x0
      exact opC_move e0 ⟨rfl, below_same wF⟩
    refine ⟨step_yes 55 147 rfl rfl (fun _ _ h => h) (fun aF wF hs hb => ?_), ?_⟩
    · obtain ⟨x0, -⟩ := hs
      have e0 : aF.eval (.tmp 7) = .pointer none := x0
      exact opC_move e0 ⟨rfl, below_same wF⟩
    refine ⟨step_yes 55 147 rfl rfl (fun _ _ h => h) (fun aF wF hs hb => ?_), ?_⟩
    · obtain ⟨x0, -⟩ := hs
      have e0 : aF.eval (.tmp 148) = .pointer none := x0
      exact opC_call (args := #[.pointer none]) (enters_of Tryz.func10 (by kernel_rfl) rfl) (by simp [e0]) (Copy_nil14 wF) (fun _ h => ⟨rfl, h⟩)
    refine ⟨step_yes 55 147 rfl rfl (fun _ _ h => h) (fun aF wF hs hb => ?_), ?_⟩
    · obtain ⟨x0, -⟩ := hs
      have e0 : aF.eval (.tmp 149) = .pointer none := x0
      refine opC_value (v := .bool true) ?_ ⟨rfl, below_same wF⟩
      have t0 := ev_of e0
      go_simp
    refine ⟨step_free rfl (fun aF wF hs hb => ?_), ?_⟩
    · obtain ⟨x0, x1, -⟩ := hs
      have e0 : aF.eval (.tmp 147) = .bool true := x0
      have e1 : aF.eval (.tmp 150) = .bool true := x1
      refine opC_value (v := .bool true) ?_ ⟨rfl, below_same wF⟩
      have t0 := ev_of e0
      have t1 := ev_of e1
      simp [execOp, go_sem, t0, t1]
    refine ⟨step_free rfl (fun aF wF hs hb => ?_), ?_⟩
    · obtain ⟨x0, -⟩ := hs
      have e0 : aF.eval (.tmp 151) = .bool true := x0
      exact opC_move e0 ⟨rfl, below_same wF⟩
    refine ⟨step_yes 60 152 rfl rfl (fun _ _ h => h) (fun aF wF hs hb => ?_), ?_⟩
    · exact opC_call (args := #[.pointer none, .pointer none]) (enters_of Tryz.func23 (by kernel_rfl) rfl) (by simp <;> rfl) (Same_nn wF) (fun _ h => ⟨rfl, h⟩)
    refine ⟨step_free rfl (fun aF wF hs hb => ?_), ?_⟩
    · obtain ⟨x0, x1, -⟩ := hs
      have e0 : aF.eval (.tmp 152) = .bool true := x0
      have e1 : aF.eval (.tmp 153) = .bool true := x1
      refine opC_value (v := .bool true) ?_ ⟨rfl, below_same wF⟩
      have t0 := ev_of e0
      have t1 := ev_of e1
      simp [execOp, go_sem, t0, t1]
    refine ⟨step_free rfl (fun aF wF hs hb => ?_), ?_⟩
    · obtain ⟨x0, -⟩ := hs
      have e0 : aF.eval (.tmp 154) = .bool true := x0
      exact opC_move e0 ⟨rfl, below_same wF⟩
    refine ⟨step_yes 63 155 rfl rfl (fun _ _ h => h) (fun aF wF hs hb => ?_), ?_⟩
    · obtain ⟨x0, -⟩ := hs
      have e0 : aF.eval (.tmp 13) = .pointer (some ⟨q, 0, none⟩) := x0
      exact opC_move e0 ⟨rfl, below_same wF⟩
    refine ⟨step_yes 63 155 rfl rfl (fun _ _ h => h) (fun aF wF hs hb => ?_), ?_⟩
    · obtain ⟨x0, -⟩ := hs
      have e0 : aF.eval (.tmp 156) = .pointer (some ⟨q, 0, none⟩) := x0
      exact opC_call (args := #[.pointer none, .pointer (some ⟨q, 0, none⟩)]) (enters_of Tryz.func23 (by kernel_rfl) rfl) (by simp [e0] <;> rfl) (Same_np q wF) (fun _ h => ⟨rfl, h⟩)
    refine ⟨step_yes 63 155 rfl rfl (fun _ _ h => h) (fun aF wF hs hb => ?_), ?_⟩
    · obtain ⟨x0, -⟩ := hs
      have e0 : aF.eval (.tmp 157) = .bool false := x0
      refine opC_value (v := .bool true) ?_ ⟨rfl, below_same wF⟩
      have t0 := ev_of e0
      simp [execOp, go_sem, t0]
    refine ⟨step_free rfl (fun aF wF hs hb => ?_), ?_⟩
    · obtain ⟨x0, x1, -⟩ := hs
      have e0 : aF.eval (.tmp 155) = .bool true := x0
      have e1 : aF.eval (.tmp 158) = .bool true := x1
      refine opC_value (v := .bool true) ?_ ⟨rfl, below_same wF⟩
      have t0 := ev_of e0
      have t1 := ev_of e1
      simp [execOp, go_sem, t0, t1]
    refine ⟨step_free rfl (fun aF wF hs hb => ?_), ?_⟩
    · obtain ⟨x0, -⟩ := hs
      have e0 : aF.eval (.tmp 159) = .bool true := x0
      exact opC_move e0 ⟨rfl, below_same wF⟩
    refine ⟨step_yes 68 160 rfl rfl (fun _ _ h => h) (fun aF wF hs hb => ?_), ?_⟩
    · obtain ⟨x0, -⟩ := hs
      have e0 : aF.eval (.tmp 18) = .pointer (some ⟨gW, 0, none⟩) := x0
      refine opC_value (v := .pointer (some ⟨gW, 4, none⟩)) ?_ ⟨rfl, below_same wF⟩
      have t0 := ev_of e0
      go_simp
    refine ⟨step_yes 68 160 rfl rfl (fun _ _ h => h) (fun aF wF hs hb => ?_), ?_⟩
    · obtain ⟨x0, -⟩ := hs
      have e0 : aF.eval (.tmp 161) = .pointer (some ⟨gW, 4, none⟩) := x0
      exact opC_load e0 (LS wF hb) ⟨rfl, below_same wF⟩
    refine ⟨step_yes 68 160 rfl rfl (fun _ _ h => h) (fun aF wF hs hb => ?_), ?_⟩
    · obtain ⟨x0, -⟩ := hs
      have e0 : aF.eval (.tmp 162) = .slice (some ⟨gC, 0, none⟩) 2 cC := x0
      refine opC_value (v := .pointer (some ⟨gC, 0, none⟩)) ?_ ⟨rfl, below_same wF⟩
      have t0 := ev_of e0
      go_simp
    refine ⟨step_yes 68 160 rfl rfl (fun _ _ h => h) (fun aF wF hs hb => ?_), ?_⟩
    · obtain ⟨x0, -⟩ := hs
      have e0 : aF.eval (.tmp 163) = .pointer (some ⟨gC, 0, none⟩) := x0
      refine opC_value (v := .pointer (some ⟨gC, 1, none⟩)) ?_ ⟨rfl, below_same wF⟩
      have t0 := ev_of e0
      go_simp
    refine ⟨step_yes 68 160 rfl rfl (fun _ _ h => h) (fun aF wF hs hb => ?_), ?_⟩
    · obtain ⟨x0, -⟩ := hs
      have e0 : aF.eval (.tmp 164) = .pointer (some ⟨gC, 1, none⟩) := x0
      exact opC_load e0 (LA wF hb) ⟨rfl, below_same wF⟩
    refine ⟨step_yes 68 160 rfl rfl (fun _ _ h => h) (fun aF wF hs hb => ?_), ?_⟩
    · obtain ⟨x0, -⟩ := hs
      have e0 : aF.eval (.tmp 165) = .int .i64 (-5) := x0
      refine opC_value (v := .bool true) ?_ ⟨rfl, below_same wF⟩
      have t0 := ev_of e0
      simp [execOp, go_sem, t0]
    refine ⟨step_free rfl (fun aF wF hs hb => ?_), ?_⟩
    · obtain ⟨x0, x1, -⟩ := hs
      have e0 : aF.eval (.tmp 160) = .bool true := x0
      have e1 : aF.eval (.tmp 166) = .bool true := x1
      refine opC_value (v := .bool true) ?_ ⟨rfl, below_same wF⟩
      have t0 := ev_of e0
      have t1 := ev_of e1
      simp [execOp, go_sem, t0, t1]
    refine ⟨step_free rfl (fun aF wF hs hb => ?_), ?_⟩
    · obtain ⟨x0, -⟩ := hs
      have e0 : aF.eval (.tmp 167) = .bool true := x0
      exact opC_move e0 ⟨rfl, below_same wF⟩
    refine ⟨step_yes 76 168 rfl rfl (fun _ _ h => h) (fun aF wF hs hb => ?_), ?_⟩
    · obtain ⟨x0, -⟩ := hs
      have e0 : aF.eval (.tmp 20) = .iface 119 (.pointer (some ⟨NT, 0, none⟩)) := x0
      exact opC_move e0 ⟨rfl, below_same wF⟩
    refine ⟨step_yes 76 168 rfl rfl (fun _ _ h => h) (fun aF wF hs hb => ?_), ?_⟩
    · obtain ⟨x0, -⟩ := hs
      have e0 : aF.eval (.tmp 169) = .iface 119 (.pointer (some ⟨NT, 0, none⟩)) := x0
      exact opC_call (args := #[.iface 119 (.pointer (some ⟨NT, 0, none⟩))]) (enters_of Tryz.func18 (by kernel_rfl) rfl) (by simp [e0]) (Code_err NT _ 10 wF (LG wF hb) (LT wF hb)) (fun _ h => ⟨rfl, h⟩)
    refine ⟨step_yes 76 168 rfl rfl (fun _ _ h => h) (fun aF wF hs hb => ?_), ?_⟩
    · obtain ⟨x0, -⟩ := hs
      have e0 : aF.eval (.tmp 170) = .int .i64 10 := x0
      refine opC_value (v := .bool true) ?_ ⟨rfl, below_same wF⟩
      have t0 := ev_of e0
      simp [execOp, go_sem, t0]
    refine ⟨step_free rfl (fun aF wF hs hb => ?_), ?_⟩
    · obtain ⟨x0, x1, -⟩ := hs
      have e0 : aF.eval (.tmp 168) = .bool true := x0
      have e1 : aF.eval (.tmp 171) = .bool true := x1
      refine opC_value (v := .bool true) ?_ ⟨rfl, below_same wF⟩
      have t0 := ev_of e0
      have t1 := ev_of e1
      simp [execOp, go_sem, t0, t1]
    refine ⟨step_free rfl (fun aF wF hs hb => ?_), ?_⟩
    · obtain ⟨x0, -⟩ := hs
      have e0 : aF.eval (.tmp 172) = .bool true := x0
      exact opC_move e0 ⟨rfl, below_same wF⟩
    refine ⟨step_yes 81 173 rfl rfl (fun _ _ h => h) (fun aF wF hs hb => ?_), ?_⟩
    · obtain ⟨x0, -⟩ := hs
      have e0 : aF.eval (.tmp 20) = .iface 119 (.pointer (some ⟨NT, 0, none⟩)) := x0
      exact opC_move e0 ⟨rfl, below_same wF⟩
    refine ⟨step_yes 81 173 rfl rfl (fun _ _ h => h) (fun aF wF hs hb => ?_), ?_⟩
    · obtain ⟨x0, -⟩ := hs
      have e0 : aF.eval (.tmp 174) = .iface 119 (.pointer (some ⟨NT, 0, none⟩)) := x0
      exact opC_call (args := #[.iface 119 (.pointer (some ⟨NT, 0, none⟩))]) (enters_of Tryz.func24 (by kernel_rfl) rfl) (by simp [e0]) (At_fault NT y.a _ wF (LG wF hb) (LT wF hb)) (fun _ h => ⟨rfl, h⟩)
    refine ⟨step_yes 81 173 rfl rfl (fun _ _ h => h) (fun aF wF hs hb => ?_), ?_⟩
    · obtain ⟨x0, -⟩ := hs
      have e0 : aF.eval (.tmp 3) = .pointer (some ⟨w.heap.size, 0, none⟩) := x0
      refine opC_value (v := .pointer (some ⟨w.heap.size, 0, none⟩)) ?_ ⟨rfl, below_same wF⟩
      have t0 := ev_of e0
      go_simp
    refine ⟨step_yes 81 173 rfl rfl (fun _ _ h => h) (fun aF wF hs hb => ?_), ?_⟩
    · obtain ⟨x0, -⟩ := hs
      have e0 : aF.eval (.tmp 176) = .pointer (some ⟨w.heap.size, 0, none⟩) := x0
      exact opC_load e0 (LU wF hb) ⟨rfl, below_same wF⟩
    refine ⟨step_yes 81 173 rfl rfl (fun _ _ h => h) (fun aF wF hs hb => ?_), ?_⟩
    · obtain ⟨x0, -⟩ := hs
      have e0 : aF.eval (.tmp 177) = .int .u32 (y.a : Int) := x0
      refine opC_value (v := .int .u64 (y.a : Int)) ?_ ⟨rfl, below_same wF⟩
      have t0 := ev_of e0
      go_simp
    refine ⟨step_yes 81 173 rfl rfl (fun _ _ h => h) (fun aF wF hs hb => ?_), ?_⟩
    · obtain ⟨x0, x1, -⟩ := hs
      have e0 : aF.eval (.tmp 175) = .int .u64 (y.a : Int) := x0
      have e1 : aF.eval (.tmp 178) = .int .u64 (y.a : Int) := x1
      refine opC_value (v := .bool true) ?_ ⟨rfl, below_same wF⟩
      have t0 := ev_of e0
      have t1 := ev_of e1
      simp [execOp, go_sem, t0, t1]
    refine ⟨step_free rfl (fun aF wF hs hb => ?_), ?_⟩
    · obtain ⟨x0, x1, -⟩ := hs
      have e0 : aF.eval (.tmp 173) = .bool true := x0
      have e1 : aF.eval (.tmp 179) = .bool true := x1
      refine opC_value (v := .bool true) ?_ ⟨rfl, below_same wF⟩
      have t0 := ev_of e0
      have t1 := ev_of e1
      simp [execOp, go_sem, t0, t1]
    refine ⟨step_free rfl (fun aF wF hs hb => ?_), ?_⟩
    · obtain ⟨x0, -⟩ := hs
      have e0 : aF.eval (.tmp 180) = .bool true := x0
      exact opC_assign e0 ⟨rfl, below_same wF⟩
    exact trivial
  · exact fun _ _ h => h
  · intro T9 w9 h6 hb9
    have HB9 := Lib.hid hb9
    clear hb9
    go_wp2_with fail
    exact fin_tmp rfl h6 ⟨rfl, HB0.out.trans (HB9.out.mono HB0.out.size)⟩
end Go.Proofs.YtdnnkdldolhbpaaGreatDoor
