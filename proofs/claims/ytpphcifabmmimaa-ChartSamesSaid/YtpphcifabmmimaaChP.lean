/-
  ChartMakes: the walk. Conditions: the legs are there.
-/
import Derived.Test.YtpphcifabmmimaaChN
import Derived.Test.YtpphcifabmmimaaChJ
namespace Go.Proofs.Ytpphcifabmmimaa
open Go.ChangeShapes Go.WideShapes Go.ChangeAt Go.RowKit

theorem rs_later {w w' : World} {A : Option Addr} {l : List (Nat × Int)} (h : Rs legT w w.heap.size A l) (hb : Below w.heap.size w w') : Rs legT w' w'.heap.size A l := (h.below hb).more hb.size
/-- An entry, its legs these. -/
def entF (y : Ky) (l : List (Nat × Int)) : Flw := ⟨fun v w => ∃ A c, v = entV y (.slice A l.length c) ∧ Rs legT w w.heap.size A l, fun ⟨A, c, h1, h2⟩ hb => ⟨A, c, h1, rs_later h2 hb⟩⟩
def legsF (l : List (Nat × Int)) : Flw := ⟨fun v w => ∃ A c, v = .slice A l.length c ∧ Rs legT w w.heap.size A l, fun ⟨A, c, h1, h2⟩ hb => ⟨A, c, h1, rs_later h2 hb⟩⟩
theorem own_rs {e : TypeId} {w : World} {base n c : Nat} {A : Option Addr} {l : List (Nat × Int)} (h : OwnS legT e w base (.slice A n c) n l) : Rs legT w w.heap.size A l := by
  obtain ⟨_, A9, c9, he, _, _, hr9⟩ := h.form (by decide)
  injection he with e1
  rw [e1]
  exact hr9
theorem cOwn {y : Ky} {l : List (Nat × Int)} (hm : l.length ≤ 100000) (hI : ∀ u ∈ l, LegIn u) {w : World} {v : Value} (h : (entF y l).p v w) : Calls Try.prog 12 #[v] w (ToF (entF y l) w) := by
  obtain ⟨A, c, rfl, hr⟩ := h
  refine (Own_any y A l.length c w.heap.size l w hr rfl hm (Nat.le_refl _) hI).mono ?_
  rintro e w' ⟨A', c', rfl, ho, hb⟩
  exact ⟨_, rfl, ⟨A', c', rfl, own_rs ho⟩, hb⟩
theorem cRMake {y : Ky} {l : List (Nat × Int)} (hm : l.length ≤ 1000) (hI : ∀ u ∈ l, LegIn u) {w : World} {v : Value} (h : (legsF l).p v w) : Calls Try.prog 10 #[y.v, v] w (ToF (entF y (mkL l)) w) := by
  obtain ⟨A, c, rfl, hr⟩ := h
  refine (RMake_any y A l.length c w.heap.size l w hr rfl hm (Nat.le_refl _) hI).mono ?_
  rintro e w' ⟨A', c', rfl, ho, hb⟩
  exact ⟨_, rfl, ⟨A', c', rfl, own_rs ho⟩, hb⟩
theorem own_low {e : TypeId} {w : World} {b b' n : Nat} {v : Value} {l : List (Nat × Int)} (h : OwnS legT e w b v n l) (hb : b' ≤ b) : OwnS legT e w b' v n l := by
  unfold OwnS at h ⊢
  refine ⟨h.1, ?_⟩
  rcases h.2 with ⟨h1, h2⟩ | ⟨g, cap, cur, h1, h2, h3⟩
  · exact .inl ⟨h1, h2⟩
  · exact .inr ⟨g, cap, cur, h1, Nat.le_trans hb h2, h3⟩
def entO (y : Ky) (l : List (Nat × Int)) (base : Nat) : Flw := ⟨fun v w => ∃ A c, v = entV y (.slice A l.length c) ∧ OwnS legT 67 w base (.slice A l.length c) l.length l, fun ⟨A, c, h1, h2⟩ hb => ⟨A, c, h1, h2.below hb⟩⟩
theorem cRMakeO {y : Ky} {l : List (Nat × Int)} {base : Nat} {w : World} (hw : base ≤ w.heap.size) (hm : l.length ≤ 1000) (hI : ∀ u ∈ l, LegIn u) {v : Value} (h : (legsF l).p v w) : Calls Try.prog 10 #[y.v, v] w (ToF (entO y (mkL l) base) w) := by
  obtain ⟨A, c, rfl, hr⟩ := h
  refine (RMake_any y A l.length c w.heap.size l w hr rfl hm (Nat.le_refl _) hI).mono ?_
  rintro e w' ⟨A', c', rfl, ho, hb⟩
  exact ⟨_, rfl, ⟨A', c', rfl, own_low ho hw⟩, hb⟩
theorem cSame {y1 y2 : Ky} {l1 l2 : List (Nat × Int)} (h1 : l1.length ≤ 100000) (h2 : l2.length ≤ 100000) {w : World} {u v : Value} (hu : (entF y1 l1).p u w) (hv : (entF y2 l2).p v w) : Calls Try.prog 13 #[u, v] w (Ret (.bool (decide (y1 = y2 ∧ l1 = l2))) w) := by
  obtain ⟨A, c, rfl, hr⟩ := hu
  obtain ⟨A', c', rfl, hr'⟩ := hv
  exact RSame_any y1 y2 A A' l1.length c l2.length c' w.heap.size w.heap.size l1 l2 w hr rfl h1 (Nat.le_refl _) hr' rfl h2 (Nat.le_refl _)
theorem same_true {f : Nat} {args : Array Value} {y : Ky} {m : List (Nat × Int)} {w : World} (h : Calls Try.prog f args w (Ret (.bool (decide (y = y ∧ m = m))) w)) : Calls Try.prog f args w (Ret (.bool true) w) := by
  simpa using h
theorem cRight {y : Ky} {l : List (Nat × Int)} (hm : l.length ≤ 100000) (hI : ∀ u ∈ l, LegIn u) {w : World} {v : Value} (h : (entF y l).p v w) : Calls Try.prog 14 #[v] w (Ret (.bool (entB y l)) w) := by
  obtain ⟨A, c, rfl, hr⟩ := h
  exact Right_any13 y A l.length c w.heap.size l w hr rfl hm (Nat.le_refl _) hI
theorem cRRight {y : Ky} {l : List (Nat × Int)} (hm : l.length ≤ 100000) (hI : ∀ u ∈ l, LegIn u) {w : World} {v : Value} (h : (entF y l).p v w) : Calls Try.prog 15 #[v] w (Ret (.bool (entB y l)) w) := by
  obtain ⟨A, c, rfl, hr⟩ := h
  exact RRight_any y A l.length c w.heap.size l w hr rfl hm (Nat.le_refl _) hI
/-- An entry's five cells, loaded and stored. -/
theorem ent_load {t : TypeId} {w : World} {g : Nat} {y : Ky} {v : Value} (ht : t = 30 ∨ t = 36) (h : Blk w g t (entC y v)) : (Instr.loadAt t (.pointer (some ⟨g, 0, none⟩))).run Try.prog w = .ok (entV y v) w := by
  have x0 := h.cell 0
  have x1 := h.cell 1
  have x2 := h.cell 2
  have x3 := h.cell 3
  have x4 := h.cell 4
  unfold entV
  unfold entC at x0 x1 x2 x3 x4 ⊢
  simp at x0 x1 x2 x3 x4
  rcases ht with rfl | rfl <;> go_simp
theorem ent_field (y : Ky) (v : Value) (w : World) : (Instr.field 36 (entV y v) 1).run Try.prog w = .ok v w := by
  unfold entV entC
  simp [Instr.field, run_underlying Try.underlying36, asAgg, go_sem]
theorem ev_tmp (a : Act) (d : Tmp) : a.eval (.tmp d) = a.tmps[d]?.getD undef := by rw [Act.eval, Array.getD_eq_getD_getElem?]
def zeroE : Array Value := #[.int .u32 0, .int .i32 0, .int .u8 0, .int .u32 0, .slice Option.none 0 0]
set_option maxRecDepth 100000 in
set_option maxHeartbeats 4000000 in
theorem CMakes_any (y : Ky) (A : Option Addr) (n c : Nat) (l0 : List (Nat × Int)) (w : World) (hR : Rs legT w w.heap.size A l0) (hn : l0.length = n) (hnc : n ≤ c) (hm : n ≤ maxLen) (hI0 : ∀ u ∈ l0, LegIn u) :
    Calls Try.prog 3 #[y.v, .slice A n c] w (Ret (.bool true) w) := by
  have HQ0 := Lib.hid (Blk.new w 25 #[.int .u32 (y.a : Int), .int .i32 y.d, .int .u8 (y.k : Int), .int .u32 (y.s : Int)])
  have HB0 := Lib.hid (b_alloc w (.cells #[.int .u32 (y.a : Int), .int .i32 y.d, .int .u8 (y.k : Int), .int .u32 (y.s : Int)] 25))
  have HR0 := Lib.hid (hR.below HB0.out)
  have HN := Lib.hid hn
  have HNC := Lib.hid hnc
  have HM := Lib.hid hm
  have hI1 : ∀ u ∈ l0.take 12, LegIn u := fun u hu => hI0 u (List.mem_of_mem_take hu)
  have hl1 : (l0.take 12).length ≤ 12 := by rw [List.length_take]; omega
  clear hR hn hnc hm
  show Calls Try.prog 3 #[.agg #[.int .u32 (y.a : Int), .int .i32 y.d, .int .u8 (y.k : Int), .int .u32 (y.s : Int)], .slice A n c] w (Ret (.bool true) w)
  go_enter Try.func3, Try.ntmps3
  go_wp2_with fail
  refine (awake13 _).mono ?_
  rintro e w1 ⟨rfl, hb1⟩
  have HB1 := Lib.hid (HB0.out.trans (hb1.mono HB0.out.size))
  have HQ1 := Lib.hid (HQ0.out.below hb1 HQ0.out.lt)
  have HR1 := Lib.hid (HR0.out.below (hb1.mono HB0.out.size))
  clear hb1 HB0 HQ0 HR0
  go_wp2_with fail
  refine (Few13_any A n c w.heap.size l0 w1 HR1.out HN.out HNC.out HM.out HB1.out.size).mono ?_
  rintro e w2 ⟨A2, c2, rfl, -, -, ho2, hb2⟩
  obtain ⟨l, hl⟩ : ∃ l, l0.take 12 = l := ⟨_, rfl⟩
  rw [hl] at ho2 hI1 hl1 ⊢
  have HL := Lib.hid hl1
  have HI := Lib.hid hI1
  have HO2 := Lib.hid (own_rs ho2)
  have HB2 := Lib.hid (HB1.out.trans (hb2.mono HB1.out.size))
  have HQ2 := Lib.hid (HQ1.out.below hb2 HQ1.out.lt)
  clear hl hl1 hI1 ho2 hb2 HB1 HQ1 HR1 hI0 HN HNC HM
  have c0 := HQ2.out.cell 0
  have c1 := HQ2.out.cell 1
  have c2' := HQ2.out.cell 2
  have c3 := HQ2.out.cell 3
  have hz2 := HQ2.out.lt
  simp at c0 c1 c2' c3
  have HE2 := Lib.hid (Blk.new w2 30 #[.int .u32 (y.a : Int), .int .i32 y.d, .int .u8 (y.k : Int), .int .u32 (y.s : Int), .slice A2 l.length c2])
  have HBA := Lib.hid (HB2.out.alloc HB2.out.size (.cells #[.int .u32 (y.a : Int), .int .i32 y.d, .int .u8 (y.k : Int), .int .u32 (y.s : Int), .slice A2 l.length c2] 30))
  have HQA := Lib.hid (HQ2.out.alloc (.cells #[.int .u32 (y.a : Int), .int .i32 y.d, .int .u8 (y.k : Int), .int .u32 (y.s : Int), .slice A2 l.length c2] 30))
  have HRA := Lib.hid (rs_later HO2.out (b_alloc w2 (.cells #[.int .u32 (y.a : Int), .int .i32 y.d, .int .u8 (y.k : Int), .int .u32 (y.s : Int), .slice A2 l.length c2] 30)))
  go_wp2_with fail
  refine (Make_any y A2 l.length c2 _ l _ HRA.out rfl (by have := HL.out; omega) (Nat.le_refl _) HI.out).mono ?_
  rintro e w3 ⟨A3, c3', rfl, ho3, hb3⟩
  have HQ3 := Lib.hid (HQA.out.below hb3 HQA.out.lt)
  have HE3 := Lib.hid (HE2.out.below hb3 HE2.out.lt)
  have HR3 := Lib.hid (rs_later HRA.out hb3)
  have HO3 := Lib.hid (own_rs ho3)
  have HB3 := Lib.hid (HBA.out.trans (hb3.mono HBA.out.size))
  clear c0 c1 c2' c3 hz2 hb3 ho3 HBA HQA HRA HE2 HO2 HB2 HQ2
  unfold entV entC
  go_wp2_with fail
  obtain ⟨W, hW⟩ : ∃ W, w3.alloc (.cells #[.int .u32 (y.a : Int), .int .i32 y.d, .int .u8 (y.k : Int), .int .u32 (y.s : Int), .slice A3 (mkL l).length c3'] 30) = W := ⟨_, rfl⟩
  have hQ4 := HQ3.out.alloc (.cells #[.int .u32 (y.a : Int), .int .i32 y.d, .int .u8 (y.k : Int), .int .u32 (y.s : Int), .slice A3 (mkL l).length c3'] 30)
  have hE4 := HE3.out.alloc (.cells #[.int .u32 (y.a : Int), .int .i32 y.d, .int .u8 (y.k : Int), .int .u32 (y.s : Int), .slice A3 (mkL l).length c3'] 30)
  have hM4 := Blk.new w3 30 #[.int .u32 (y.a : Int), .int .i32 y.d, .int .u8 (y.k : Int), .int .u32 (y.s : Int), .slice A3 (mkL l).length c3']
  have hR4 := rs_later HR3.out (b_alloc w3 (.cells #[.int .u32 (y.a : Int), .int .i32 y.d, .int .u8 (y.k : Int), .int .u32 (y.s : Int), .slice A3 (mkL l).length c3'] 30))
  have hO4 := rs_later HO3.out (b_alloc w3 (.cells #[.int .u32 (y.a : Int), .int .i32 y.d, .int .u8 (y.k : Int), .int .u32 (y.s : Int), .slice A3 (mkL l).length c3'] 30))
  have hB4 := HB3.out.alloc HB3.out.size (.cells #[.int .u32 (y.a : Int), .int .i32 y.d, .int .u8 (y.k : Int), .int .u32 (y.s : Int), .slice A3 (mkL l).length c3'] 30)
  rw [hW] at hQ4 hE4 hM4 hR4 hO4 hB4
  rw [hW]
  have HQ4 := Lib.hid hQ4
  have HE4 := Lib.hid hE4
  have HM4 := Lib.hid hM4
  have HR4 := Lib.hid hR4
  have HO4 := Lib.hid hO4
  have HB4 := Lib.hid hB4
  obtain ⟨G5, hG5⟩ : ∃ G, w2.heap.size = G := ⟨_, rfl⟩
  obtain ⟨G6, hG6⟩ : ∃ G, w3.heap.size = G := ⟨_, rfl⟩
  rw [hG5] at HE4
  rw [hG6] at HM4
  rw [hG5, hG6]
  clear hW hQ4 hE4 hM4 hR4 hO4 hB4 HQ3 HE3 HR3 HO3 HB3 hG5 hG6
  refine wp_region_flow_last (l := [{ dst := some 18, op := Go.Op.load 25 (Go.Operand.tmp 2), type := 25, pos := "law.go:43", after := #[], guard := none }, { dst := some 19, op := Go.Op.call { callee := Go.Callee.value (Go.Operand.func 11), args := #[Go.Operand.tmp 18], argTypes := #[25] }, type := 33, pos := "law.go:43", after := #[{ on := 0, ground := Go.Ground.data }], guard := none }, { dst := some 20, op := Go.Op.load 30 (Go.Operand.tmp 5), type := 30, pos := "law.go:43", after := #[], guard := none }, { dst := some 21, op := Go.Op.call { callee := Go.Callee.value (Go.Operand.func 12), args := #[Go.Operand.tmp 20], argTypes := #[30] }, type := 36, pos := "law.go:43", after := #[{ on := 2, ground := Go.Ground.data }, { on := 1, ground := Go.Ground.chain }], guard := none }, { dst := some 22, op := Go.Op.field 36 (Go.Operand.tmp 21) 1, type := 34, pos := "law.go:43", after := #[{ on := 3, ground := Go.Ground.data }], guard := none }, { dst := some 23, op := Go.Op.call { callee := Go.Callee.value (Go.Operand.func 10), args := #[Go.Operand.tmp 19, Go.Operand.tmp 22], argTypes := #[33, 34] }, type := 36, pos := "law.go:43", after := #[{ on := 1, ground := Go.Ground.data }, { on := 4, ground := Go.Ground.data }, { on := 3, ground := Go.Ground.chain }], guard := none }, { dst := some 7, op := Go.Op.alloc 36, type := 0, pos := "law.go:43", after := #[], guard := none }]) (ol := { dst := none, op := Go.Op.store 36 (Go.Operand.tmp 7) (Go.Operand.tmp 23), type := 0, pos := "law.go:43", after := #[{ on := 6, ground := Go.Ground.data }, { on := 5, ground := Go.Ground.data }, { on := 5, ground := Go.Ground.chain }, { on := 0, ground := Go.Ground.phase }, { on := 1, ground := Go.Ground.phase }, { on := 2, ground := Go.Ground.phase }, { on := 3, ground := Go.Ground.phase }, { on := 4, ground := Go.Ground.phase }, { on := 5, ground := Go.Ground.phase }, { on := 6, ground := Go.Ground.phase }], guard := none }) rfl [some 18, some 19, some 20, some 21, some 22, some 23, some 7] (fun i => ([.is (y.v), .is (y.v), entF y l, entF y l, legsF l, entO y (mkL l) w.heap.size, boxF W.heap.size 36 zeroE] : List Flw).getD i .any) (by kernel_rfl) (by kernel_rfl) (by kernel_rfl) rfl rfl ?_ ?_
  · have hl12 : l.length ≤ 100000 := by have := HL.out; omega
    have hl13 : l.length ≤ 1000 := by have := HL.out; omega
    have hI := HI.out
    have HR2 : ∀ W', Below W.heap.size W W' → Rs legT W' W'.heap.size A2 l := fun W' hb => rs_later HR4.out hb
    have LK : ∀ W', Below W.heap.size W W' → (Instr.loadAt 25 (.pointer (some ⟨w.heap.size, 0, none⟩))).run Try.prog W' = .ok y.v W' := fun W' hb => key_load (HQ4.out.below hb HQ4.out.lt)
    have L5 : ∀ W', Below W.heap.size W W' → (Instr.loadAt 30 (.pointer (some ⟨G5, 0, none⟩))).run Try.prog W' = .ok (entV y (.slice A2 l.length c2)) W' := fun W' hb => ent_load (.inl rfl) (HE4.out.below hb HE4.out.lt)
    have hBW := HB4.out.size
    clear HL HI HQ4 HE4 HM4 HR4 HO4 HB4
    refine ⟨step_free rfl (fun aF wF hs hb => ?_), ?_⟩
    · obtain ⟨x0, -⟩ := hs
      have e0 : aF.eval (.tmp 2) = .pointer (some ⟨w.heap.size, 0, none⟩) := x0
      exact opC_load e0 (LK wF hb) ⟨rfl, below_same wF⟩
    refine ⟨step_free rfl (fun aF wF hs hb => ?_), ?_⟩
    · obtain ⟨x0, -⟩ := hs
      have e0 : aF.eval (.tmp 18) = y.v := x0
      exact opC_call (args := #[y.v]) (enters_of Try.func11 (by kernel_rfl) rfl) (by simp [e0]) (Key_any y wF) (fun _ h => ⟨rfl, h⟩)
    refine ⟨step_free rfl (fun aF wF hs hb => ?_), ?_⟩
    · obtain ⟨x0, -⟩ := hs
      have e0 : aF.eval (.tmp 5) = .pointer (some ⟨G5, 0, none⟩) := x0
      exact opC_load e0 (L5 wF hb) ⟨⟨A2, c2, rfl, HR2 _ hb⟩, below_same wF⟩
    refine ⟨step_free rfl (fun aF wF hs hb => ?_), ?_⟩
    · obtain ⟨x0, -⟩ := hs
      have y0 : (entF y l).p (aF.eval (.tmp 20)) wF := x0
      exact opC_callF (args := #[aF.eval (.tmp 20)]) (enters_of Try.func12 (by kernel_rfl) rfl) (by simp) (cOwn hl12 hI y0) (fun _ _ h1 h2 => ⟨h1, h2⟩)
    refine ⟨step_free rfl (fun aF wF hs hb => ?_), ?_⟩
    · obtain ⟨x0, -⟩ := hs
      obtain ⟨A, c, e0, hr⟩ : (entF y l).p (aF.eval (.tmp 21)) wF := x0
      refine opC_value (v := .slice A l.length c) ?_ ⟨⟨A, c, rfl, hr⟩, below_same wF⟩
      have t0 := ev_of e0
      simp [execOp, t0, ev_tmp, ent_field, Result.andThen]
    refine ⟨step_free rfl (fun aF wF hs hb => ?_), ?_⟩
    · obtain ⟨x0, x1, -⟩ := hs
      have e0 : aF.eval (.tmp 19) = y.v := x0
      have y1 : (legsF l).p (aF.eval (.tmp 22)) wF := x1
      exact opC_callF (args := #[y.v, aF.eval (.tmp 22)]) (enters_of Try.func10 (by kernel_rfl) rfl) (by simp [e0]) (cRMakeO (Nat.le_trans hBW hb.size) hl13 hI y1) (fun _ _ h1 h2 => ⟨h1, h2⟩)
    refine ⟨step_free rfl (fun aF wF hs hb => ?_), ?_⟩
    · refine opC_alloc (cs := zeroE) (by unfold zeroE; go_simp) ⟨⟨wF.heap.size, rfl, ?_, ?_⟩, ?_⟩
      · exact hb.size
      · exact heap_alloc_new wF _
      · exact b_alloc wF _
    exact trivial
  · intro f w5 hf hb5
    obtain ⟨G7, e7, hg7, hk7⟩ : (boxF W.heap.size 36 zeroE).p (f 6) w5 := hf 6 7 rfl
    obtain ⟨A4, c4, e23, ho4⟩ : (entO y (mkL l) w.heap.size).p (f 5) w5 := hf 5 23 rfl
    have HB5 := Lib.hid (HB4.out.trans (hb5.mono HB4.out.size))
    simp only [putF, Act.put, List.setIfInBounds_toArray, List.set_cons_zero, List.set_cons_succ]
    rw [e7, e23]
    have k0 := Blk.cell hk7 0
    have k1 := Blk.cell hk7 1
    have k2 := Blk.cell hk7 2
    have k3 := Blk.cell hk7 3
    have k4 := Blk.cell hk7 4
    have z0 := Blk.frozen hk7 0
    have z1 := Blk.frozen hk7 1
    have z2 := Blk.frozen hk7 2
    have z3 := Blk.frozen hk7 3
    have z4 := Blk.frozen hk7 4
    unfold zeroE at k0 k1 k2 k3 k4
    simp at k0 k1 k2 k3 k4
    unfold entV entC
    constructor
    go_simp
    have g1 := grown_set w5 G7 0 (.int .u32 (y.a : Int))
    have g2 := grown_trans g1 (grown_set _ G7 1 (.int .i32 y.d))
    have g3 := grown_trans g2 (grown_set _ G7 2 (.int .u8 (y.k : Int)))
    have g4 := grown_trans g3 (grown_set _ G7 3 (.int .u32 (y.s : Int)))
    have g5 := grown_trans g4 (grown_set _ G7 4 (.slice A4 (mkL l).length c4))
    have b5 := ((((hb5.setCell hg7 (.int .u32 (y.a : Int)) (p := ⟨G7, 0, none⟩)).setCell hg7 (.int .i32 y.d) (p := ⟨G7, 1, none⟩)).setCell hg7 (.int .u8 (y.k : Int)) (p := ⟨G7, 2, none⟩)).setCell hg7 (.int .u32 (y.s : Int)) (p := ⟨G7, 3, none⟩)).setCell hg7 (.slice A4 (mkL l).length c4) (p := ⟨G7, 4, none⟩)
    have n7 := ((((Blk.set_ hk7 0 (.int .u32 (y.a : Int))).set_ 1 (.int .i32 y.d)).set_ 2 (.int .u8 (y.k : Int))).set_ 3 (.int .u32 (y.s : Int))).set_ 4 (.slice A4 (mkL l).length c4)
    have o5 := ho4.grown g5 (.inl (fun e => ho4.ne_blk hk7 rentNe e.symm))
    obtain ⟨V, hV⟩ : ∃ V, (((((w5.setCell ⟨G7, 0, none⟩ (.int .u32 (y.a : Int))).setCell ⟨G7, 1, none⟩ (.int .i32 y.d)).setCell ⟨G7, 2, none⟩ (.int .u8 (y.k : Int))).setCell ⟨G7, 3, none⟩ (.int .u32 (y.s : Int))).setCell ⟨G7, 4, none⟩ (.slice A4 (mkL l).length c4)) = V := ⟨_, rfl⟩
    rw [hV] at g5 b5 n7 o5
    rw [hV]
    have HN7 : Hid (Blk V G7 36 (entC y (.slice A4 (mkL l).length c4))) := Lib.hid (by simpa [zeroE, entC] using n7)
    have HB7 := Lib.hid (HB4.out.trans (b5.mono HB4.out.size))
    have HE7 := Lib.hid (HE4.out.below b5 HE4.out.lt)
    have HM7 := Lib.hid (HM4.out.below b5 HM4.out.lt)
    have HR7 := Lib.hid (rs_later HR4.out b5)
    have HO7 := Lib.hid (rs_later HO4.out b5)
    have HP7 := Lib.hid (own_rs o5)
    clear hV g1 g2 g3 g4 g5 b5 n7 o5 ho4 hk7 hg7 e7 e23 hf hb5 HB5 k0 k1 k2 k3 k4 z0 z1 z2 z3 z4 HQ4 HE4 HM4 HR4 HO4 HB4
    simp only [comesC]
    go_wp2_with fail
    refine wp_region_flow [some 24, some 25, some 26, some 27, some 28, some 29, some 30, some 31, some 32, some 33, some 34, some 35, some 36, some 37, some 38, some 39, some 40, some 41, some 42, some 4] (fun i => ([entF y (mkL l), entF y (mkL l), entF y (mkL l), .is (.bool true), .is (.bool true), entF y (mkL l), .is (.bool (entB y (mkL l))), entF y (mkL l), .is (.bool (entB y (mkL l))), .is (.bool true), .is (.bool true), .is (.bool true), entF y l, .is (.bool (entB y l)), entF y l, entF y l, .is (.bool (entB y l)), .is (.bool true), .is (.bool true), .is (.bool true)] : List Flw).getD i .any) (by kernel_rfl) (by kernel_rfl) rfl ?_ ?_
    · have hl12 : l.length ≤ 100000 := by have := HL.out; omega
      have hlm : (mkL l).length ≤ 100000 := by have := mkL_len l; omega
      have hI := HI.out
      have hIm := mkL_in l
      have HR2 : ∀ W', Below V.heap.size V W' → Rs legT W' W'.heap.size A2 l := fun W' hb => rs_later HR7.out hb
      have HR3 : ∀ W', Below V.heap.size V W' → Rs legT W' W'.heap.size A3 (mkL l) := fun W' hb => rs_later HO7.out hb
      have HR4 : ∀ W', Below V.heap.size V W' → Rs legT W' W'.heap.size A4 (mkL l) := fun W' hb => rs_later HP7.out hb
      have L5 : ∀ W', Below V.heap.size V W' → (Instr.loadAt 30 (.pointer (some ⟨G5, 0, none⟩))).run Try.prog W' = .ok (entV y (.slice A2 l.length c2)) W' := fun W' hb => ent_load (.inl rfl) (HE7.out.below hb HE7.out.lt)
      have L6 : ∀ W', Below V.heap.size V W' → (Instr.loadAt 30 (.pointer (some ⟨G6, 0, none⟩))).run Try.prog W' = .ok (entV y (.slice A3 (mkL l).length c3')) W' := fun W' hb => ent_load (.inl rfl) (HM7.out.below hb HM7.out.lt)
      have L7 : ∀ W', Below V.heap.size V W' → (Instr.loadAt 36 (.pointer (some ⟨G7, 0, none⟩))).run Try.prog W' = .ok (entV y (.slice A4 (mkL l).length c4)) W' := fun W' hb => ent_load (.inr rfl) (HN7.out.below hb HN7.out.lt)
      clear HL HI HN7 HB7 HE7 HM7 HR7 HO7 HP7
      refine ⟨step_free rfl (fun aF wF hs hb => ?_), ?_⟩
      · obtain ⟨x0, -⟩ := hs
        have e0 : aF.eval (.tmp 6) = .pointer (some ⟨G6, 0, none⟩) := x0
        exact opC_load e0 (L6 wF hb) ⟨⟨A3, c3', rfl, HR3 _ hb⟩, below_same wF⟩
      refine ⟨step_free rfl (fun aF wF hs hb => ?_), ?_⟩
      · obtain ⟨x0, -⟩ := hs
        have y0 : (entF y (mkL l)).p (aF.eval (.tmp 24)) wF := x0
        exact opC_callF (args := #[aF.eval (.tmp 24)]) (enters_of Try.func12 (by kernel_rfl) rfl) (by simp) (cOwn hlm hIm y0) (fun _ _ h1 h2 => ⟨h1, h2⟩)
      refine ⟨step_free rfl (fun aF wF hs hb => ?_), ?_⟩
      · obtain ⟨x0, -⟩ := hs
        have e0 : aF.eval (.tmp 7) = .pointer (some ⟨G7, 0, none⟩) := x0
        exact opC_load e0 (L7 wF hb) ⟨⟨A4, c4, rfl, HR4 _ hb⟩, below_same wF⟩
      refine ⟨step_free rfl (fun aF wF hs hb => ?_), ?_⟩
      · obtain ⟨x0, x1, -⟩ := hs
        have y0 : (entF y (mkL l)).p (aF.eval (.tmp 25)) wF := x0
        have y1 : (entF y (mkL l)).p (aF.eval (.tmp 26)) wF := x1
        exact opC_call (args := #[aF.eval (.tmp 25), aF.eval (.tmp 26)]) (enters_of Try.func13 (by kernel_rfl) rfl) (by simp) (same_true (cSame hlm hlm y0 y1)) (fun _ h => ⟨rfl, h⟩)
      refine ⟨step_free rfl (fun aF wF hs hb => ?_), ?_⟩
      · obtain ⟨x0, -⟩ := hs
        have e0 : aF.eval (.tmp 27) = .bool true := x0
        exact opC_move e0 ⟨rfl, below_same wF⟩
      refine ⟨step_yes 4 28 rfl rfl (fun _ _ h => h) (fun aF wF hs hb => ?_), ?_⟩
      · obtain ⟨x0, -⟩ := hs
        have e0 : aF.eval (.tmp 6) = .pointer (some ⟨G6, 0, none⟩) := x0
        exact opC_load e0 (L6 wF hb) ⟨⟨A3, c3', rfl, HR3 _ hb⟩, below_same wF⟩
      refine ⟨step_yes 4 28 rfl rfl (fun _ _ h => h) (fun aF wF hs hb => ?_), ?_⟩
      · obtain ⟨x0, -⟩ := hs
        have y0 : (entF y (mkL l)).p (aF.eval (.tmp 29)) wF := x0
        exact opC_call (args := #[aF.eval (.tmp 29)]) (enters_of Try.func14 (by kernel_rfl) rfl) (by simp) (cRight hlm hIm y0) (fun _ h => ⟨rfl, h⟩)
      refine ⟨step_yes 4 28 rfl rfl (fun _ _ h => h) (fun aF wF hs hb => ?_), ?_⟩
      · obtain ⟨x0, -⟩ := hs
        have e0 : aF.eval (.tmp 7) = .pointer (some ⟨G7, 0, none⟩) := x0
        exact opC_load e0 (L7 wF hb) ⟨⟨A4, c4, rfl, HR4 _ hb⟩, below_same wF⟩
      refine ⟨step_yes 4 28 rfl rfl (fun _ _ h => h) (fun aF wF hs hb => ?_), ?_⟩
      · obtain ⟨x0, -⟩ := hs
        have y0 : (entF y (mkL l)).p (aF.eval (.tmp 31)) wF := x0
        exact opC_call (args := #[aF.eval (.tmp 31)]) (enters_of Try.func15 (by kernel_rfl) rfl) (by simp) (cRRight hlm hIm y0) (fun _ h => ⟨rfl, h⟩)
      refine ⟨step_yes 4 28 rfl rfl (fun _ _ h => h) (fun aF wF hs hb => ?_), ?_⟩
      · obtain ⟨x0, x1, -⟩ := hs
        have e0 : aF.eval (.tmp 30) = .bool (entB y (mkL l)) := x0
        have e1 : aF.eval (.tmp 32) = .bool (entB y (mkL l)) := x1
        refine opC_value (v := .bool true) ?_ ⟨rfl, below_same wF⟩
        have t0 := ev_of e0
        have t1 := ev_of e1
        simp [execOp, go_sem, t0, t1]
      refine ⟨step_free rfl (fun aF wF hs hb => ?_), ?_⟩
      · obtain ⟨x0, x1, -⟩ := hs
        have e0 : aF.eval (.tmp 28) = .bool true := x0
        have e1 : aF.eval (.tmp 33) = .bool true := x1
        refine opC_value (v := .bool true) ?_ ⟨rfl, below_same wF⟩
        have t0 := ev_of e0
        have t1 := ev_of e1
        simp [execOp, go_sem, t0, t1]
      refine ⟨step_free rfl (fun aF wF hs hb => ?_), ?_⟩
      · obtain ⟨x0, -⟩ := hs
        have e0 : aF.eval (.tmp 34) = .bool true := x0
        exact opC_move e0 ⟨rfl, below_same wF⟩
      refine ⟨step_yes 11 35 rfl rfl (fun _ _ h => h) (fun aF wF hs hb => ?_), ?_⟩
      · obtain ⟨x0, -⟩ := hs
        have e0 : aF.eval (.tmp 5) = .pointer (some ⟨G5, 0, none⟩) := x0
        exact opC_load e0 (L5 wF hb) ⟨⟨A2, c2, rfl, HR2 _ hb⟩, below_same wF⟩
      refine ⟨step_yes 11 35 rfl rfl (fun _ _ h => h) (fun aF wF hs hb => ?_), ?_⟩
      · obtain ⟨x0, -⟩ := hs
        have y0 : (entF y l).p (aF.eval (.tmp 36)) wF := x0
        exact opC_call (args := #[aF.eval (.tmp 36)]) (enters_of Try.func14 (by kernel_rfl) rfl) (by simp) (cRight hl12 hI y0) (fun _ h => ⟨rfl, h⟩)
      refine ⟨step_yes 11 35 rfl rfl (fun _ _ h => h) (fun aF wF hs hb => ?_), ?_⟩
      · obtain ⟨x0, -⟩ := hs
        have e0 : aF.eval (.tmp 5) = .pointer (some ⟨G5, 0, none⟩) := x0
        exact opC_load e0 (L5 wF hb) ⟨⟨A2, c2, rfl, HR2 _ hb⟩, below_same wF⟩
      refine ⟨step_yes 11 35 rfl rfl (fun _ _ h => h) (fun aF wF hs hb => ?_), ?_⟩
      · obtain ⟨x0, -⟩ := hs
        have y0 : (entF y l).p (aF.eval (.tmp 38)) wF := x0
        exact opC_callF (args := #[aF.eval (.tmp 38)]) (enters_of Try.func12 (by kernel_rfl) rfl) (by simp) (cOwn hl12 hI y0) (fun _ _ h1 h2 => ⟨h1, h2⟩)
      refine ⟨step_yes 11 35 rfl rfl (fun _ _ h => h) (fun aF wF hs hb => ?_), ?_⟩
      · obtain ⟨x0, -⟩ := hs
        have y0 : (entF y l).p (aF.eval (.tmp 39)) wF := x0
        exact opC_call (args := #[aF.eval (.tmp 39)]) (enters_of Try.func15 (by kernel_rfl) rfl) (by simp) (cRRight hl12 hI y0) (fun _ h => ⟨rfl, h⟩)
      refine ⟨step_yes 11 35 rfl rfl (fun _ _ h => h) (fun aF wF hs hb => ?_), ?_⟩
      · obtain ⟨x0, x1, -⟩ := hs
        have e0 : aF.eval (.tmp 37) = .bool (entB y l) := x0
        have e1 : aF.eval (.tmp 40) = .bool (entB y l) := x1
        refine opC_value (v := .bool true) ?_ ⟨rfl, below_same wF⟩
        have t0 := ev_of e0
        have t1 := ev_of e1
        simp [execOp, go_sem, t0, t1]
      refine ⟨step_free rfl (fun aF wF hs hb => ?_), ?_⟩
      · obtain ⟨x0, x1, -⟩ := hs
        have e0 : aF.eval (.tmp 35) = .bool true := x0
        have e1 : aF.eval (.tmp 41) = .bool true := x1
        refine opC_value (v := .bool true) ?_ ⟨rfl, below_same wF⟩
        have t0 := ev_of e0
        have t1 := ev_of e1
        simp [execOp, go_sem, t0, t1]
      refine ⟨step_free rfl (fun aF wF hs hb => ?_), ?_⟩
      · obtain ⟨x0, -⟩ := hs
        have e0 : aF.eval (.tmp 42) = .bool true := x0
        exact opC_assign e0 ⟨rfl, below_same wF⟩
      exact trivial
    · intro f w6 hf hb6
      have h6 : f 19 = .bool true := hf 19 4 rfl
      have HB8 := Lib.hid (HB7.out.trans (hb6.mono HB7.out.size))
      simp only [putF, Act.put, List.setIfInBounds_toArray, List.set_cons_zero, List.set_cons_succ]
      rw [h6]
      clear h6 hf hb6
      go_wp2_with fail
      go_ret
      exact ⟨by first | rfl | simp, HB8.out⟩
end Go.Proofs.Ytpphcifabmmimaa
