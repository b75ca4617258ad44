/-
  ChartTurns: the walk. Conditions: the legs are there; errors.errorType is laid.
-/
import Derived.Test.YtpphcifabmmimaaDoorTurC
import Derived.Test.YtpphcifabmmimaaDoorChK
import Derived.Test.YtpphcifabmmimaaDoorCodeC
import Derived.IntWalk
namespace Go.Proofs.YtpphcifabmmimaaDoor
open Go.ChangeShapes Go.WideShapes Go.ChangeAt Go.RowKit

theorem ris_lt {l : List (Nat × Int)} : ∀ k, risTo l k = true → (∀ i j, i < j → j < k → (l.getD i (0, 0)).1 < (l.getD j (0, 0)).1) ∧ (∀ i, i < k → 1 ≤ (l.getD i (0, 0)).1) := by
  intro k
  induction k with
  | zero => exact fun _ => ⟨fun i j _ hj => by omega, fun i hi => by omega⟩
  | succ k ih =>
    intro h
    simp only [risTo, Bool.and_eq_true, decide_eq_true_eq, Bool.or_eq_true, beq_iff_eq] at h
    obtain ⟨h1, ⟨h2, h3⟩, h4⟩ := h
    obtain ⟨i1, i2⟩ := ih h1
    refine ⟨fun i j hij hj => ?_, fun i hi => ?_⟩
    · rcases Nat.lt_or_ge j k with hjk | hjk
      · exact i1 i j hij hjk
      · obtain rfl : j = k := by omega
        rcases h4 with h4 | h4
        · omega
        · rcases Nat.lt_or_ge i (j - 1) with hi | hi
          · exact Nat.lt_trans (i1 i (j - 1) hi (by omega)) h4
          · obtain rfl : i = j - 1 := by omega
            exact h4
    · rcases Nat.lt_or_ge i k with hik | hik
      · exact i2 i hik
      · obtain rfl : i = k := by omega
        exact h2
theorem ent_ris {y : Ky} {l : List (Nat × Int)} (h : entB y l = true) : risTo l l.length = true ∧ 1 ≤ l.length ∧ l.length ≤ 8 := by
  unfold entB at h
  simp only [Bool.and_eq_true, decide_eq_true_eq] at h
  exact ⟨h.2.2.2.1, h.2.2.1.1, h.2.2.1.2⟩
theorem getD_at {l : List (Nat × Int)} {k : Nat} (h : k < l.length) : l.getD k (0, 0) = l[k] := by simp [List.getD, h]
theorem of_at {l : List (Nat × Int)} {k : Nat} (hk : k < l.length) (h : risTo l l.length = true) : ofL l l[k].1 = l[k].2 :=
  (idx_yes hk rfl fun i hi => by
    have := (ris_lt _ h).1 i k hi hk
    rw [getD_at hk] at this
    omega).2
theorem of_zero {l : List (Nat × Int)} (h : risTo l l.length = true) : ofL l 0 = 0 :=
  (idx_none fun i hi => by
    have := (ris_lt _ h).2 i hi
    omega).2
theorem negL_len (l : List (Nat × Int)) : (negL l).length = l.length := by simp [negL]
theorem negL_at {l : List (Nat × Int)} {k : Nat} (hk : k < l.length) (h2 : k < (negL l).length) : (negL l)[k] = (l[k].1, 0 - l[k].2) := by simp [negL]
theorem of_neg {l : List (Nat × Int)} {k : Nat} (hk : k < l.length) (h : risTo l l.length = true) : ofL (negL l) l[k].1 = 0 - l[k].2 := by
  have hk2 : k < (negL l).length := by rw [negL_len]; exact hk
  have e := negL_at hk hk2
  have := (idx_yes (l := negL l) (a := l[k].1) hk2 (by rw [e]) fun i hi => by
    have h1 := (ris_lt _ h).1 i k hi hk
    rw [getD_at hk, getD_at (show i < l.length by omega)] at h1
    rw [getD_at (show i < (negL l).length by rw [negL_len]; omega), negL_at (show i < l.length by omega) (by rw [negL_len]; omega)]
    show l[i].1 ≠ l[k].1
    omega).2
  rw [this, e]
theorem rs_laterT {w w' : World} {A : Option Addr} {l : List (Nat × Int)} (h : Rs legT w w.heap.size A l) (hb : Below w.heap.size w w') : Rs legT w' w'.heap.size A l := (h.below hb).more hb.size
def legsT (l : List (Nat × Int)) : Flw := ⟨fun v w => ∃ A c, v = .slice A l.length c ∧ Rs legT w w.heap.size A l, fun ⟨A, c, h1, h2⟩ hb => ⟨A, c, h1, rs_laterT h2 hb⟩⟩
def entR (y : Ky) (l : List (Nat × Int)) : Flw := ⟨fun v w => ∃ A c, v = entV y (.slice A l.length c) ∧ Rs legT w w.heap.size A l, fun ⟨A, c, h1, h2⟩ hb => ⟨A, c, h1, rs_laterT h2 hb⟩⟩
theorem own_rsT {e : TypeId} {w : World} {base n c : Nat} {A : Option Addr} {l : List (Nat × Int)} (h : OwnS legT e w base (.slice A n c) n l) : Rs legT w w.heap.size A l := by
  obtain ⟨_, A9, c9, he, _, _, hr9⟩ := h.form (by decide)
  injection he with e1
  rw [e1]
  exact hr9
/-- What holds at a round's head of the first loop. -/
def ORel (M : List (Nat × Int)) (w7 : World) (i : Value) (w' : World) : Prop := ∃ k : Nat, k ≤ M.length ∧ i = .int .i64 k ∧ lowB (M.take k) = false ∧ Below w7.heap.size w7 w'
/-- .. of the second. -/
def KRel (M : List (Nat × Int)) (w9 : World) (i : Value) (w' : World) : Prop := ∃ k : Nat, k ≤ M.length ∧ i = .int .i64 k ∧ Below w9.heap.size w9 w'
theorem leg_loadT {w : World} {b o : Nat} {x z : Value} (h0 : w.cell? ⟨b, o, none⟩ = some x) (h1 : w.cell? ⟨b, o + 1, none⟩ = some z) : (Instr.loadAt 40 (.pointer (some ⟨b, o, none⟩))).run Tryd.prog w = .ok (.agg #[x, z]) w := by
  go_simp
theorem one_loadT {t : TypeId} {w : World} {b o : Nat} {x : Value} (ht : t = 5 ∨ t = 38) (h : w.cell? ⟨b, o, none⟩ = some x) : (Instr.loadAt t (.pointer (some ⟨b, o, none⟩))).run Tryd.prog w = .ok x w := by
  rcases ht with rfl | rfl <;> go_simp
theorem cFewT {A : Option Addr} {n c : Nat} {l l2 : List (Nat × Int)} {w : World} (hl2 : l.take 12 = l2) (hn : l.length = n) (hnc : n ≤ c) (hm : n ≤ maxLen) (hR : Rs legT w w.heap.size A l) : Calls Tryd.prog 7 #[.slice A n c] w (ToF (legsT l2) w) := by
  subst hl2
  refine (Few13_any A n c w.heap.size l w hR hn hnc hm (Nat.le_refl _)).mono ?_
  rintro e w' ⟨A', c', rfl, -, -, ho, hb⟩
  exact ⟨_, rfl, ⟨A', c', rfl, own_rsT ho⟩, hb⟩
theorem cMakeT {y : Ky} {l : List (Nat × Int)} {base : Nat} {w : World} (hw : base ≤ w.heap.size) (hm : l.length ≤ 1000) (hI : ∀ u ∈ l, LegIn u) {v : Value} (h : (legsT l).p v w) : Calls Tryd.prog 6 #[y.v, v] w (ToF (entT y (mkL l) base) w) := by
  obtain ⟨A, c, rfl, hr⟩ := h
  refine (Make_any y A l.length c w.heap.size l w hr rfl hm (Nat.le_refl _) hI).mono ?_
  rintro e w' ⟨A', c', rfl, ho, hb⟩
  exact ⟨_, rfl, ⟨A', c', rfl, own_lowT ho hw⟩, hb⟩
theorem cOfT {y : Ky} {l : List (Nat × Int)} {a : Nat} {r : Int} {w : World} (ha : a < 256) (hm : l.length ≤ 100000) (hr9 : ofL l a = r) {v : Value} (h : (entR y l).p v w) : Calls Tryd.prog 11 #[v, .int .u8 (a : Int)] w (Ret (.int .i64 r) w) := by
  obtain ⟨A, c, rfl, hr⟩ := h
  rw [← hr9]
  exact Of_any y A l.length c w.heap.size a l w hr rfl hm (Nat.le_refl _) ha
theorem ent_loadT {w : World} {g : Nat} {y : Ky} {v : Value} (h : Blk w g 29 (entC y v)) : (Instr.loadAt 29 (.pointer (some ⟨g, 0, none⟩))).run Tryd.prog w = .ok (entV y v) w := by
  have x0 := h.cell 0
  have x1 := h.cell 1
  have x2 := h.cell 2
  have x3 := h.cell 3
  have x4 := h.cell 4
  unfold entV
  unfold entC at x0 x1 x2 x3 x4 ⊢
  simp at x0 x1 x2 x3 x4
  go_simp
theorem key_loadK {w : World} {g : Nat} {y : Ky} (h : Blk w g 25 #[.int .u32 (y.a : Int), .int .i32 y.d, .int .u8 (y.k : Int), .int .u32 (y.s : Int)]) : (Instr.loadAt 25 (.pointer (some ⟨g, 0, none⟩))).run Tryd.prog w = .ok y.v w := by
  have x0 := h.cell 0
  have x1 := h.cell 1
  have x2 := h.cell 2
  have x3 := h.cell 3
  simp at x0 x1 x2 x3
  unfold Ky.v
  go_simp
set_option maxRecDepth 100000 in
set_option maxHeartbeats 4000000 in
theorem CTurns_any (y : Ky) (A : Option Addr) (n c : Nat) (l0 : List (Nat × Int)) (w : World) (hle : Laid w) (hR : Rs legT w w.heap.size A l0) (hn : l0.length = n) (hnc : n ≤ c) (hm : n ≤ maxLen) (hI0 : ∀ u ∈ l0, LegIn u) :
    Calls Tryd.prog 3 #[y.v, .slice A n c] w (Ret (.bool true) w) := by
  have HQ0 := Lib.hid (Blk.new w 25 #[.int .u32 (y.a : Int), .int .i32 y.d, .int .u8 (y.k : Int), .int .u32 (y.s : Int)])
  have HB0 := Lib.hid (b_alloc w (.cells #[.int .u32 (y.a : Int), .int .i32 y.d, .int .u8 (y.k : Int), .int .u32 (y.s : Int)] 25))
  have HR0 := Lib.hid (hR.below HB0.out)
  have HN := Lib.hid hn
  have HNC := Lib.hid hnc
  have HM := Lib.hid hm
  have HLE := Lib.hid hle
  have hI1 : ∀ u ∈ l0.take 12, LegIn u := fun u hu => hI0 u (List.mem_of_mem_take hu)
  have hl1 : (l0.take 12).length ≤ 12 := by rw [List.length_take]; omega
  have HI1 := Lib.hid hI1
  have HL1 := Lib.hid hl1
  clear hR hn hnc hm hI0 hle hI1 hl1
  show Calls Tryd.prog 3 #[.agg #[.int .u32 (y.a : Int), .int .i32 y.d, .int .u8 (y.k : Int), .int .u32 (y.s : Int)], .slice A n c] w (Ret (.bool true) w)
  go_enter Tryd.func3, Tryd.ntmps3
  go_wp2_with fail
  refine (awake13 _).mono ?_
  rintro e W ⟨rfl, hb1⟩
  have HB1 := Lib.hid (HB0.out.trans (hb1.mono HB0.out.size))
  have HQ1 := Lib.hid (HQ0.out.below hb1 HQ0.out.lt)
  have HR1 := Lib.hid ((HR0.out.below (hb1.mono HB0.out.size)).more HB1.out.size)
  clear hb1 HB0 HQ0 HR0
  obtain ⟨l, hl⟩ : ∃ l, l0.take 12 = l := ⟨_, rfl⟩
  rw [hl] at HI1 HL1
  have HLT := Lib.hid hl
  clear hl
  go_wp2_with fail
  refine wp_region_flow_last (l := [{ dst := some 14, op := Go.Op.load 25 (Go.Operand.tmp 2), type := 25, pos := "law.go:52", after := #[], guard := none }, { dst := some 15, op := Go.Op.move (Go.Operand.tmp 1), type := 26, pos := "law.go:52", after := #[], guard := none }, { dst := some 16, op := Go.Op.call { callee := Go.Callee.value (Go.Operand.func 7), args := #[Go.Operand.tmp 15], argTypes := #[26] }, type := 26, pos := "law.go:52", after := #[{ on := 1, ground := Go.Ground.data }], guard := none }, { dst := some 17, op := Go.Op.call { callee := Go.Callee.value (Go.Operand.func 6), args := #[Go.Operand.tmp 14, Go.Operand.tmp 16], argTypes := #[25, 26] }, type := 29, pos := "law.go:52", after := #[{ on := 0, ground := Go.Ground.data }, { on := 2, ground := Go.Ground.data }, { on := 2, ground := Go.Ground.chain }], guard := none }, { dst := some 5, op := Go.Op.alloc 29, type := 0, pos := "law.go:52", after := #[], guard := none }]) (ol := { dst := none, op := Go.Op.store 29 (Go.Operand.tmp 5) (Go.Operand.tmp 17), type := 0, pos := "law.go:52", after := #[{ on := 4, ground := Go.Ground.data }, { on := 3, ground := Go.Ground.data }, { on := 3, ground := Go.Ground.chain }, { on := 0, ground := Go.Ground.phase }, { on := 1, ground := Go.Ground.phase }, { on := 2, ground := Go.Ground.phase }, { on := 3, ground := Go.Ground.phase }, { on := 4, ground := Go.Ground.phase }], guard := none }) rfl [some 14, some 15, some 16, some 17, some 5] (fun i => ([.is (y.v), .is (.slice A n c), legsT l, entT y (mkL l) W.heap.size, boxF W.heap.size 29 #[.int .u32 0, .int .i32 0, .int .u8 0, .int .u32 0, .slice Option.none 0 0]] : List Flw).getD i .any) (by kernel_rfl) (by kernel_rfl) (by kernel_rfl) rfl rfl ?_ ?_
  · have hl13 : l.length ≤ 1000 := by have := HL1.out; omega
    have hI := HI1.out
    have HNn := HN.out
    have hnc := HNC.out
    have hm := HM.out
    have HRW : ∀ W', Below W.heap.size W W' → Rs legT W' W'.heap.size A l0 := fun W' hb => rs_laterT HR1.out hb
    have LK : ∀ W', Below W.heap.size W W' → (Instr.loadAt 25 (.pointer (some ⟨w.heap.size, 0, none⟩))).run Tryd.prog W' = .ok y.v W' := fun W' hb => key_loadK (HQ1.out.below hb HQ1.out.lt)
    have hlt9 := HLT.out
    clear HI1 HL1 HN HNC HM HR1 HQ1 HB1 HLE HLT
    refine ⟨step_free rfl (fun aF wF hs hb => ?_), ?_⟩
    · obtain ⟨x0, -⟩ := hs
      have e0 : aF.eval (.tmp 2) = .pointer (some ⟨w.heap.size, 0, none⟩) := x0
      exact opC_load e0 (LK wF hb) ⟨rfl, below_same wF⟩
    refine ⟨step_free rfl (fun aF wF hs hb => ?_), ?_⟩
    · obtain ⟨x0, -⟩ := hs
      have e0 : aF.eval (.tmp 1) = .slice A n c := x0
      exact opC_move e0 ⟨rfl, below_same wF⟩
    refine ⟨step_free rfl (fun aF wF hs hb => ?_), ?_⟩
    · obtain ⟨x0, -⟩ := hs
      have e0 : aF.eval (.tmp 15) = .slice A n c := x0
      exact opC_callF (args := #[.slice A n c]) (enters_of Tryd.func7 (by kernel_rfl) rfl) (by simp [e0]) (cFewT hlt9 HNn hnc hm (HRW wF hb)) (fun _ _ h1 h2 => ⟨h1, h2⟩)
    refine ⟨step_free rfl (fun aF wF hs hb => ?_), ?_⟩
    · obtain ⟨x0, x1, -⟩ := hs
      have e0 : aF.eval (.tmp 14) = y.v := x0
      have y1 : (legsT l).p (aF.eval (.tmp 16)) wF := x1
      exact opC_callF (args := #[y.v, aF.eval (.tmp 16)]) (enters_of Tryd.func6 (by kernel_rfl) rfl) (by simp [e0]) (cMakeT hb.size hl13 hI y1) (fun _ _ h1 h2 => ⟨h1, h2⟩)
    refine ⟨step_free rfl (fun aF wF hs hb => ?_), ?_⟩
    · refine opC_alloc (cs := #[.int .u32 0, .int .i32 0, .int .u8 0, .int .u32 0, .slice Option.none 0 0]) (by go_simp) ⟨⟨wF.heap.size, rfl, ?_, ?_⟩, ?_⟩
      · exact hb.size
      · exact heap_alloc_new wF _
      · exact b_alloc wF _
    exact trivial
  · intro f w5 hf hb5
    obtain ⟨g5, e5, hg5, hk5⟩ : (boxF W.heap.size 29 #[.int .u32 0, .int .i32 0, .int .u8 0, .int .u32 0, .slice Option.none 0 0]).p (f 4) w5 := hf 4 5 rfl
    obtain ⟨A5, c5, e17, ho5⟩ : (entT y (mkL l) W.heap.size).p (f 3) w5 := hf 3 17 rfl
    have hIM := mkL_in l
    have hlM := mkL_len l
    obtain ⟨M, hM⟩ : ∃ M, mkL l = M := ⟨_, rfl⟩
    rw [hM] at e17 ho5 hIM hlM
    clear hM
    simp only [putF, Act.put, List.setIfInBounds_toArray, List.set_cons_zero, List.set_cons_succ]
    rw [e5, e17]
    have k0 := Blk.cell hk5 0
    have k1 := Blk.cell hk5 1
    have k2 := Blk.cell hk5 2
    have k3 := Blk.cell hk5 3
    have k4 := Blk.cell hk5 4
    have z0 := Blk.frozen hk5 0
    have z1 := Blk.frozen hk5 1
    have z2 := Blk.frozen hk5 2
    have z3 := Blk.frozen hk5 3
    have z4 := Blk.frozen hk5 4
    simp at k0 k1 k2 k3 k4
    unfold entV entC
    constructor
    go_simp
    have gr := grown_trans (grown_trans (grown_trans (grown_trans (grown_set w5 g5 0 (.int .u32 (y.a : Int))) (grown_set _ g5 1 (.int .i32 y.d))) (grown_set _ g5 2 (.int .u8 (y.k : Int)))) (grown_set _ g5 3 (.int .u32 (y.s : Int)))) (grown_set _ g5 4 (.slice A5 M.length c5))
    have b5 := ((((hb5.setCell hg5 (.int .u32 (y.a : Int)) (p := ⟨g5, 0, none⟩)).setCell hg5 (.int .i32 y.d) (p := ⟨g5, 1, none⟩)).setCell hg5 (.int .u8 (y.k : Int)) (p := ⟨g5, 2, none⟩)).setCell hg5 (.int .u32 (y.s : Int)) (p := ⟨g5, 3, none⟩)).setCell hg5 (.slice A5 M.length c5) (p := ⟨g5, 4, none⟩)
    have n7 := ((((Blk.set_ hk5 0 (.int .u32 (y.a : Int))).set_ 1 (.int .i32 y.d)).set_ 2 (.int .u8 (y.k : Int))).set_ 3 (.int .u32 (y.s : Int))).set_ 4 (.slice A5 M.length c5)
    have o5 := ho5.grown gr (.inl (fun e => ho5.ne_blk hk5 entNe e.symm))
    obtain ⟨V, hV⟩ : ∃ V, (((((w5.setCell ⟨g5, 0, none⟩ (.int .u32 (y.a : Int))).setCell ⟨g5, 1, none⟩ (.int .i32 y.d)).setCell ⟨g5, 2, none⟩ (.int .u8 (y.k : Int))).setCell ⟨g5, 3, none⟩ (.int .u32 (y.s : Int))).setCell ⟨g5, 4, none⟩ (.slice A5 M.length c5)) = V := ⟨_, rfl⟩
    rw [hV] at gr b5 n7 o5
    rw [hV]
    have HE := Lib.hid (show Blk V g5 29 #[.int .u32 (y.a : Int), .int .i32 y.d, .int .u8 (y.k : Int), .int .u32 (y.s : Int), .slice A5 M.length c5] by simpa using n7)
    have HB := Lib.hid (HB1.out.trans (b5.mono HB1.out.size))
    have HQ := Lib.hid (HQ1.out.below b5 HQ1.out.lt)
    have HRM := Lib.hid (own_rsT o5)
    have HIM := Lib.hid hIM
    have HLM := Lib.hid hlM
    clear hV gr b5 n7 o5 ho5 hk5 hg5 e5 e17 hf hb5 k0 k1 k2 k3 k4 z0 z1 z2 z3 z4 HQ1 HR1 HB1 hIM hlM HI1 HL1 HN HNC HM HLT
    simp only [comesC]
    have n0 := HE.out.cell 0
    have n1 := HE.out.cell 1
    have n2 := HE.out.cell 2
    have n3 := HE.out.cell 3
    have n4 := HE.out.cell 4
    simp at n0 n1 n2 n3 n4
    have hT := Turned_any y A5 M.length c5 V.heap.size M V HRM.out rfl (by have := HLM.out; omega) (Nat.le_refl _) HIM.out
    unfold entV entC at hT
    have HT := Lib.hid hT
    clear hT
    go_wp2_with fail
    refine HT.out.mono ?_
    rintro e w6 hTP
    obtain ⟨hP1, hP2, hP3⟩ := hTP
    clear n0 n1 n2 n3 n4 HT
    cases hq : entB y M
    · obtain ⟨rfl, hb6⟩ := hP1 hq
      clear hP1 hP2 hP3
      have hRr := fun W' (hR : Rs legT W' W'.heap.size A5 M) => Right_any13 y A5 M.length c5 W'.heap.size M W' hR rfl (by have := HLM.out; omega) (Nat.le_refl _) HIM.out
      rw [hq] at hRr
      unfold entV entC at hRr
      have HRr := Lib.hid hRr
      have HE6 := Lib.hid ((HE.out.below hb6 HE.out.lt).alloc (.cells #[.int .u32 0, .int .i32 0, .int .u8 0, .int .u32 0, .slice Option.none 0 0] 29))
      have HB6 := Lib.hid ((HB.out.trans (hb6.mono HB.out.size)).alloc (HB.out.trans (hb6.mono HB.out.size)).size (.cells #[.int .u32 0, .int .i32 0, .int .u8 0, .int .u32 0, .slice Option.none 0 0] 29))
      have HRM6 := Lib.hid (rs_laterT (rs_laterT HRM.out hb6) (b_alloc w6 (.cells #[.int .u32 0, .int .i32 0, .int .u8 0, .int .u32 0, .slice Option.none 0 0] 29)))
      have HT6 := Lib.hid (Blk.new w6 29 #[.int .u32 0, .int .i32 0, .int .u8 0, .int .u32 0, .slice Option.none 0 0])
      clear hRr hq
      have hlt6 := (HE.out.below hb6 HE.out.lt).lt
      have m0 := (HE.out.below hb6 HE.out.lt).cell 0
      have m1 := (HE.out.below hb6 HE.out.lt).cell 1
      have m2 := (HE.out.below hb6 HE.out.lt).cell 2
      have m3 := (HE.out.below hb6 HE.out.lt).cell 3
      have m4 := (HE.out.below hb6 HE.out.lt).cell 4
      simp at m0 m1 m2 m3 m4
      clear hb6 HE HB HRM HQ
      unfold zeroT
      go_wp2_with fail
      refine (HRr.out _ HRM6.out).mono ?_
      rintro e w7 ⟨rfl, hb7⟩
      have HB7 := Lib.hid (HB6.out.trans (hb7.mono HB6.out.size))
      have HT7 := Lib.hid (HT6.out.below hb7 HT6.out.lt)
      clear hb7 m0 m1 m2 m3 m4 hlt6 HE6 HB6 HRM6 HT6 HRr
      have hC := Code_errno 1 w7 (HLE.out.below HB7.out)
      have HC := Lib.hid hC
      clear hC
      go_wp2_with fail
      refine HC.out.mono ?_
      rintro e w8 ⟨rfl, hb8⟩
      have HB8 := Lib.hid (HB7.out.trans (hb8.mono HB7.out.size))
      have x4 := (HT7.out.below hb8 HT7.out.lt).cell 4
      simp at x4
      clear hb8
      go_wp2_with fail
      go_ret
      exact ⟨by first | rfl | simp, HB8.out⟩
    · cases hlw : lowB M
      · obtain ⟨A6, c6, rfl, ho6, hb6⟩ := hP3 hq hlw
        clear hP1 hP2 hP3
        have HLW := Lib.hid hlw
        have HRISP := Lib.hid (ent_ris hq).1
        clear hlw
        have hRr := fun W' (hR : Rs legT W' W'.heap.size A5 M) => Right_any13 y A5 M.length c5 W'.heap.size M W' hR rfl (by have := HLM.out; omega) (Nat.le_refl _) HIM.out
        rw [hq] at hRr
        unfold entV entC at hRr
        have HRr := Lib.hid hRr
        have HE6 := Lib.hid ((HE.out.below hb6 HE.out.lt).alloc (.cells #[.int .u32 (y.a : Int), .int .i32 y.d, .int .u8 (y.k : Int), .int .u32 (y.s : Int), .slice A6 M.length c6] 29))
        have HQ6 := Lib.hid ((HQ.out.below hb6 HQ.out.lt).alloc (.cells #[.int .u32 (y.a : Int), .int .i32 y.d, .int .u8 (y.k : Int), .int .u32 (y.s : Int), .slice A6 M.length c6] 29))
        have HB6 := Lib.hid ((HB.out.trans (hb6.mono HB.out.size)).alloc (HB.out.trans (hb6.mono HB.out.size)).size (.cells #[.int .u32 (y.a : Int), .int .i32 y.d, .int .u8 (y.k : Int), .int .u32 (y.s : Int), .slice A6 M.length c6] 29))
        have HRM6 := Lib.hid (rs_laterT (rs_laterT HRM.out hb6) (b_alloc w6 (.cells #[.int .u32 (y.a : Int), .int .i32 y.d, .int .u8 (y.k : Int), .int .u32 (y.s : Int), .slice A6 M.length c6] 29)))
        have HT6 := Lib.hid (Blk.new w6 29 #[.int .u32 (y.a : Int), .int .i32 y.d, .int .u8 (y.k : Int), .int .u32 (y.s : Int), .slice A6 M.length c6])
        have HRN6 := Lib.hid (rs_laterT (own_rsT ho6) (b_alloc w6 (.cells #[.int .u32 (y.a : Int), .int .i32 y.d, .int .u8 (y.k : Int), .int .u32 (y.s : Int), .slice A6 M.length c6] 29)))
        clear ho6
        clear hRr hq
        have hlt6 := (HE.out.below hb6 HE.out.lt).lt
        have m0 := (HE.out.below hb6 HE.out.lt).cell 0
        have m1 := (HE.out.below hb6 HE.out.lt).cell 1
        have m2 := (HE.out.below hb6 HE.out.lt).cell 2
        have m3 := (HE.out.below hb6 HE.out.lt).cell 3
        have m4 := (HE.out.below hb6 HE.out.lt).cell 4
        simp at m0 m1 m2 m3 m4
        clear hb6 HE HB HRM HQ
        unfold entV entC
        go_wp2_with fail
        refine (HRr.out _ HRM6.out).mono ?_
        rintro e w7 ⟨rfl, hb7⟩
        have HB7 := Lib.hid (HB6.out.trans (hb7.mono HB6.out.size))
        have HT7 := Lib.hid (HT6.out.below hb7 HT6.out.lt)
        have HE7 := Lib.hid (HE6.out.below hb7 HE6.out.lt)
        have HQ7 := Lib.hid (HQ6.out.below hb7 HQ6.out.lt)
        have HRM7 := Lib.hid (rs_laterT HRM6.out hb7)
        have HRN7 := Lib.hid (rs_laterT HRN6.out hb7)
        clear HRN6
        clear hb7 m0 m1 m2 m3 m4 hlt6 HE6 HB6 HRM6 HT6 HRr HQ6
        have n4 := HE7.out.cell 4
        simp at n4
        obtain ⟨g6, hg6⟩ : ∃ g, w6.heap.size = g := ⟨_, rfl⟩
        rw [hg6] at HT7 ⊢
        clear hg6
        go_wp2_with fail
        clear n4
        go_loopw [38] (ORel M w7) (fun i _ => M.length - (intOf i).toNat)
        case atStart => exact ⟨0, Nat.zero_le _, rfl, rfl, Below.refl _ _⟩
        case round =>
          obtain ⟨k, hk, rfl, hlow, hbw⟩ := hrel
          have HLOW := Lib.hid hlow
          have HBW := Lib.hid hbw
          clear hlow
          have hM9 : M.length ≤ 1000 := by have := HLM.out; omega
          by_cases hlt : k < M.length
          · obtain ⟨b1, o1, rfl, hb1, y0, y1⟩ := (HRM7.out.below hbw).leg hlt
            obtain ⟨x, hx⟩ : ∃ x, M[k].1 = x := ⟨_, rfl⟩
            obtain ⟨z, hz⟩ : ∃ z, M[k].2 = z := ⟨_, rfl⟩
            rw [hx] at y0
            rw [hz] at y1
            have HZ := Lib.hid hz
            have HLT9 := Lib.hid hlt
            clear hx hz
            have HBA := Lib.hid (HBW.out.alloc HBW.out.size (.cells #[.int .u8 (x : Int), .int .i64 z] 40))
            have hb1w : b1 < wr.heap.size := Nat.lt_of_lt_of_le hb1 hbw.size
            clear hbw
            by_cases hlo : z = -9223372036854775808
            · exfalso
              have := low_yes HLT9.out (HZ.out.trans hlo)
              rw [HLW.out] at this
              cases this
            · have hz0 : (z == -9223372036854775808) = false := by rw [beq_eq_false_iff_ne]; exact hlo
              have HLO := Lib.hid hlo
              clear hlo
              go_wp2_with fail
              go_roundw
              case rel => exact ⟨k + 1, HLT9.out, by go_num, low_step HLT9.out HLOW.out (by rw [HZ.out]; exact HLO.out), HBA.out⟩
              case measure =>
                have := HLT9.out
                simp [intOf]
                omega
          · have hkn : k = M.length := by omega
            subst hkn
            have hll := HLOW.out
            rw [List.take_length] at hll
            clear hll
            obtain ⟨w9, rfl⟩ : ∃ W, W = wr := ⟨_, rfl⟩
            have HT8 := Lib.hid (HT7.out.below hbw HT7.out.lt)
            have HE8 := Lib.hid (HE7.out.below hbw HE7.out.lt)
            have HQ8 := Lib.hid (HQ7.out.below hbw HQ7.out.lt)
            have HRM8 := Lib.hid (rs_laterT HRM7.out hbw)
            have HRN8 := Lib.hid (rs_laterT HRN7.out hbw)
            have HB8 := Lib.hid (HB7.out.trans (hbw.mono HB7.out.size))
            have HRIS := Lib.hid HRISP.out
            clear hbw HT7 HE7 HQ7 HRM7 HRN7 HB7 HLOW HBW
            have x0 := HT8.out.cell 0
            have x1 := HT8.out.cell 1
            have x2 := HT8.out.cell 2
            have x3 := HT8.out.cell 3
            have x4 := HT8.out.cell 4
            have q0 := HQ8.out.cell 0
            have q1 := HQ8.out.cell 1
            have q2 := HQ8.out.cell 2
            have q3 := HQ8.out.cell 3
            have n4 := HE8.out.cell 4
            simp at x0 x1 x2 x3 x4 q0 q1 q2 q3 n4
            go_wp2_with fail
            clear x0 x1 x2 x3 x4 q0 q1 q2 q3 n4
            go_loopw [75] (KRel M w9) (fun i _ => M.length - (intOf i).toNat)
            case atStart => exact ⟨0, Nat.zero_le _, rfl, Below.refl _ _⟩
            case round =>
              obtain ⟨k, hk, rfl, hbw⟩ := hrel
              have HBW := Lib.hid hbw
              by_cases hlt : k < M.length
              · obtain ⟨b1, o1, rfl, hb1, y0, y1⟩ := (HRM8.out.below hbw).leg hlt
                have hlt2 : k < (negL M).length := by rw [negL_len]; exact hlt
                obtain ⟨b6, o6, rfl, hb6, u0, u1⟩ := (HRN8.out.below hbw).leg hlt2
                rw [negL_at hlt hlt2] at u0 u1
                have hof1 := of_at hlt HRIS.out
                have hof2 := of_neg hlt HRIS.out
                have hLI := HIM.out M[k] (List.getElem_mem hlt)
                have hzl : M[k].2 ≠ -9223372036854775808 := fun e => by
                  have := low_yes hlt e
                  rw [HLW.out] at this
                  cases this
                unfold LegIn at hLI
                simp only at u0 u1
                obtain ⟨x, hx⟩ : ∃ x, M[k].1 = x := ⟨_, rfl⟩
                obtain ⟨z, hz⟩ : ∃ z, M[k].2 = z := ⟨_, rfl⟩
                rw [hx] at y0 u0 hof1 hof2 hLI
                rw [hz] at y1 u1 hof1 hof2 hLI hzl
                obtain ⟨q, hq9⟩ : ∃ q, 0 - z = q := ⟨_, rfl⟩
                rw [hq9] at u1 hof2
                obtain ⟨hx9, hz1, hz2⟩ := hLI
                have hneg : IntKind.i64.wrap (-z) = q := by rw [IntWalk.i64_in (-z) (by omega)]; omega
                have hadd : IntKind.i64.wrap (q + z) = 0 := by rw [IntWalk.i64_in (q + z) (by omega)]; omega
                have HLT9 := Lib.hid hlt
                have HF1 := Lib.hid hof1
                have HF2 := Lib.hid hof2
                have HNG := Lib.hid hneg
                have HAD := Lib.hid hadd
                have HX9 := Lib.hid hx9
                have hb1w : b1 < wr.heap.size := Nat.lt_of_lt_of_le hb1 hbw.size
                have hb6w : b6 < wr.heap.size := Nat.lt_of_lt_of_le hb6 hbw.size
                have U0 := Lib.hid ((b_alloc wr (.cells #[.int .u8 (x : Int), .int .i64 z] 40)).cell (p := ⟨b6, o6 + k * 2, none⟩) hb6w |>.trans u0)
                have U1 := Lib.hid ((b_alloc wr (.cells #[.int .u8 (x : Int), .int .i64 z] 40)).cell (p := ⟨b6, o6 + k * 2 + 1, none⟩) hb6w |>.trans u1)
                have HK9 := Lib.hid (show k ≤ 1000 by omega)
                clear hx hz hq9 hof1 hof2 hneg hadd hz1 hz2 hzl u0 u1 hx9 hlt2 hb6
                have hM9 : M.length ≤ 1000 := by have := HLM.out; omega
                go_upto_region 18 with (fail)
                have HBA := Lib.hid (HBW.out.alloc HBW.out.size (.cells #[.int .u8 (x : Int), .int .i64 z] 40))
                have HG := Lib.hid (Blk.new wr 40 #[.int .u8 (x : Int), .int .i64 z])
                have hsz := b_alloc wr (.cells #[.int .u8 (x : Int), .int .i64 z] 40)
                have hb6x := Nat.lt_of_lt_of_le hb6w hsz.size
                obtain ⟨W11, hW11⟩ : ∃ W, wr.alloc (.cells #[.int .u8 (x : Int), .int .i64 z] 40) = W := ⟨_, rfl⟩
                rw [hW11] at HBA HG U0 U1 hb6x ⊢
                obtain ⟨g11, hg11⟩ : ∃ g, wr.heap.size = g := ⟨_, rfl⟩
                rw [hg11] at HG ⊢
                have HB6X := Lib.hid hb6x
                clear hW11 hg11 hsz hbw y0 y1 hb6x hb1w hb6w
                refine wp_region_flow [some 80, some 81, some 82, some 83, some 84, some 85, some 86, some 87, some 88, some 89, some 90, some 91, some 92, some 93, some 94, some 95, some 96, some 97, some 98, some 99, some 100, some 101, some 102, some 103, some 104, some 105, some 106, some 107, some 108, some 109, some 110] (fun i => ([.is (.pointer (some ⟨g6, 4, none⟩)), .is (.slice (some ⟨b6, o6, none⟩) M.length c6), .is (.int .i64 (k : Int)), .is (.pointer (some ⟨b6, o6 + k * 2, none⟩)), .is (.agg #[.int .u8 (x : Int), .int .i64 q]), .is (.pointer (some ⟨g11, 0, none⟩)), .is (.int .u8 (x : Int)), .is (.pointer (some ⟨g11, 1, none⟩)), .is (.int .i64 z), .is (.int .i64 q), .is (.agg #[.int .u8 (x : Int), .int .i64 q]), .is (.bool false), .is (.bool false), entR y M, .is (.pointer (some ⟨g11, 0, none⟩)), .is (.int .u8 (x : Int)), .is (.int .i64 z), .is (.pointer (some ⟨g11, 1, none⟩)), .is (.int .i64 z), .is (.bool false), .is (.bool false), .is (.bool false), entR y (negL M), .is (.pointer (some ⟨g11, 0, none⟩)), .is (.int .u8 (x : Int)), .is (.int .i64 q), .is (.pointer (some ⟨g11, 1, none⟩)), .is (.int .i64 z), .is (.int .i64 0), .is (.bool false), .is (.bool false)] : List Flw).getD i .any) (by kernel_rfl) (by kernel_rfl) rfl ?_ ?_
                · have hof1 := HF1.out
                  have hof2 := HF2.out
                  have hneg := HNG.out
                  have hadd := HAD.out
                  have hx9 := HX9.out
                  have hMm : M.length ≤ 100000 := by omega
                  have hMn : (negL M).length ≤ 100000 := by rw [negL_len]; omega
                  have hkM := HLT9.out
                  have HRa : ∀ W', Below W11.heap.size W11 W' → Rs legT W' W'.heap.size (some ⟨b1, o1, none⟩) M := fun W' hb => rs_laterT (rs_laterT HRM8.out HBA.out) hb
                  have HRb : ∀ W', Below W11.heap.size W11 W' → Rs legT W' W'.heap.size (some ⟨b6, o6, none⟩) (negL M) := fun W' hb => rs_laterT (rs_laterT HRN8.out HBA.out) hb
                  have HEa := HE8.out.below HBA.out HE8.out.lt
                  have HTa := HT8.out.below HBA.out HT8.out.lt
                  have LE5 : ∀ W', Below W11.heap.size W11 W' → (Instr.loadAt 29 (.pointer (some ⟨g5, 0, none⟩))).run Tryd.prog W' = .ok (entV y (.slice (some ⟨b1, o1, none⟩) M.length c5)) W' := fun W' hb => ent_loadT (HEa.below hb HEa.lt)
                  have LE6 : ∀ W', Below W11.heap.size W11 W' → (Instr.loadAt 29 (.pointer (some ⟨g6, 0, none⟩))).run Tryd.prog W' = .ok (entV y (.slice (some ⟨b6, o6, none⟩) M.length c6)) W' := fun W' hb => ent_loadT (HTa.below hb HTa.lt)
                  have LS6 : ∀ W', Below W11.heap.size W11 W' → (Instr.loadAt 26 (.pointer (some ⟨g6, 4, none⟩))).run Tryd.prog W' = .ok (.slice (some ⟨b6, o6, none⟩) M.length c6) W' := fun W' hb => sl_loadT (HTa.below hb HTa.lt)
                  have LL6 : ∀ W', Below W11.heap.size W11 W' → (Instr.loadAt 40 (.pointer (some ⟨b6, o6 + k * 2, none⟩))).run Tryd.prog W' = .ok (.agg #[.int .u8 (x : Int), .int .i64 q]) W' := fun W' hb => leg_loadT ((hb.cell (p := ⟨b6, o6 + k * 2, none⟩) HB6X.out).trans U0.out) ((hb.cell (p := ⟨b6, o6 + k * 2 + 1, none⟩) HB6X.out).trans U1.out)
                  have LX : ∀ W', Below W11.heap.size W11 W' → (Instr.loadAt 5 (.pointer (some ⟨g11, 0, none⟩))).run Tryd.prog W' = .ok (.int .u8 (x : Int)) W' := fun W' hb => one_loadT (.inl rfl) ((HG.out.below hb HG.out.lt).cell 0)
                  have LZ : ∀ W', Below W11.heap.size W11 W' → (Instr.loadAt 38 (.pointer (some ⟨g11, 1, none⟩))).run Tryd.prog W' = .ok (.int .i64 z) W' := fun W' hb => one_loadT (.inr rfl) ((HG.out.below hb HG.out.lt).cell 1)
                  clear HEa HTa HBA HG U0 U1 HB6X HT8 HE8 HQ8 HRM8 HRN8 HB8 HIM HLM HLE HLW
                  refine ⟨step_free rfl (fun aF wF hs hb => ?_), ?_⟩
                  · obtain ⟨x0, -⟩ := hs
                    have e0 : aF.eval (.tmp 6) = .pointer (some ⟨g6, 0, none⟩) := x0
                    refine opC_value (v := .pointer (some ⟨g6, 4, none⟩)) ?_ ⟨rfl, below_same wF⟩
                    have t0 := ev_of e0
                    go_simp
                  refine ⟨step_free rfl (fun aF wF hs hb => ?_), ?_⟩
                  · obtain ⟨x0, -⟩ := hs
                    have e0 : aF.eval (.tmp 80) = .pointer (some ⟨g6, 4, none⟩) := x0
                    exact opC_load e0 (LS6 wF hb) ⟨rfl, below_same wF⟩
                  refine ⟨step_free rfl (fun aF wF hs hb => ?_), ?_⟩
                  · obtain ⟨x0, -⟩ := hs
                    have e0 : aF.eval (.tmp 10) = .int .i64 (k : Int) := x0
                    exact opC_move e0 ⟨rfl, below_same wF⟩
                  refine ⟨step_free rfl (fun aF wF hs hb => ?_), ?_⟩
                  · obtain ⟨x0, x1, -⟩ := hs
                    have e0 : aF.eval (.tmp 81) = .slice (some ⟨b6, o6, none⟩) M.length c6 := x0
                    have e1 : aF.eval (.tmp 82) = .int .i64 (k : Int) := x1
                    refine opC_value (v := .pointer (some ⟨b6, o6 + k * 2, none⟩)) ?_ ⟨rfl, below_same wF⟩
                    have t0 := ev_of e0
                    have t1 := ev_of e1
                    go_simp
                  refine ⟨step_free rfl (fun aF wF hs hb => ?_), ?_⟩
                  · obtain ⟨x0, -⟩ := hs
                    have e0 : aF.eval (.tmp 83) = .pointer (some ⟨b6, o6 + k * 2, none⟩) := x0
                    exact opC_load e0 (LL6 wF hb) ⟨rfl, below_same wF⟩
                  refine ⟨step_free rfl (fun aF wF hs hb => ?_), ?_⟩
                  · obtain ⟨x0, -⟩ := hs
                    have e0 : aF.eval (.tmp 11) = .pointer (some ⟨g11, 0, none⟩) := x0
                    refine opC_value (v := .pointer (some ⟨g11, 0, none⟩)) ?_ ⟨rfl, below_same wF⟩
                    have t0 := ev_of e0
                    go_simp
                  refine ⟨step_free rfl (fun aF wF hs hb => ?_), ?_⟩
                  · obtain ⟨x0, -⟩ := hs
                    have e0 : aF.eval (.tmp 85) = .pointer (some ⟨g11, 0, none⟩) := x0
                    exact opC_load e0 (LX wF hb) ⟨rfl, below_same wF⟩
                  refine ⟨step_free rfl (fun aF wF hs hb => ?_), ?_⟩
                  · obtain ⟨x0, -⟩ := hs
                    have e0 : aF.eval (.tmp 11) = .pointer (some ⟨g11, 0, none⟩) := x0
                    refine opC_value (v := .pointer (some ⟨g11, 1, none⟩)) ?_ ⟨rfl, below_same wF⟩
                    have t0 := ev_of e0
                    go_simp
                  refine ⟨step_free rfl (fun aF wF hs hb => ?_), ?_⟩
                  · obtain ⟨x0, -⟩ := hs
                    have e0 : aF.eval (.tmp 87) = .pointer (some ⟨g11, 1, none⟩) := x0
                    exact opC_load e0 (LZ wF hb) ⟨rfl, below_same wF⟩
                  refine ⟨step_free rfl (fun aF wF hs hb => ?_), ?_⟩
                  · obtain ⟨x0, -⟩ := hs
                    have e0 : aF.eval (.tmp 88) = .int .i64 z := x0
                    refine opC_value (v := .int .i64 q) ?_ ⟨rfl, below_same wF⟩
                    have t0 := ev_of e0
                    simp [execOp, go_sem, t0, hneg]
                  refine ⟨step_free rfl (fun aF wF hs hb => ?_), ?_⟩
                  · obtain ⟨x0, x1, -⟩ := hs
                    have e0 : aF.eval (.tmp 86) = .int .u8 (x : Int) := x0
                    have e1 : aF.eval (.tmp 89) = .int .i64 q := x1
                    refine opC_value (v := .agg #[.int .u8 (x : Int), .int .i64 q]) ?_ ⟨rfl, below_same wF⟩
                    have t0 := ev_of e0
                    have t1 := ev_of e1
                    simp [execOp, go_sem, t0, t1]
                  refine ⟨step_free rfl (fun aF wF hs hb => ?_), ?_⟩
                  · obtain ⟨x0, x1, -⟩ := hs
                    have e0 : aF.eval (.tmp 84) = .agg #[.int .u8 (x : Int), .int .i64 q] := x0
                    have e1 : aF.eval (.tmp 90) = .agg #[.int .u8 (x : Int), .int .i64 q] := x1
                    refine opC_value (v := .bool false) ?_ ⟨rfl, below_same wF⟩
                    have t0 := ev_of e0
                    have t1 := ev_of e1
                    simp [execOp, go_sem, t0, t1]
                  refine ⟨step_free rfl (fun aF wF hs hb => ?_), ?_⟩
                  · obtain ⟨x0, -⟩ := hs
                    have e0 : aF.eval (.tmp 91) = .bool false := x0
                    exact opC_move e0 ⟨rfl, below_same wF⟩
                  refine ⟨step_yes 12 92 rfl rfl (fun _ _ h => h) (fun aF wF hs hb => ?_), ?_⟩
                  · obtain ⟨x0, -⟩ := hs
                    have e0 : aF.eval (.tmp 5) = .pointer (some ⟨g5, 0, none⟩) := x0
                    exact opC_load e0 (LE5 wF hb) ⟨⟨_, c5, rfl, HRa _ hb⟩, below_same wF⟩
                  refine ⟨step_yes 12 92 rfl rfl (fun _ _ h => h) (fun aF wF hs hb => ?_), ?_⟩
                  · obtain ⟨x0, -⟩ := hs
                    have e0 : aF.eval (.tmp 11) = .pointer (some ⟨g11, 0, none⟩) := x0
                    refine opC_value (v := .pointer (some ⟨g11, 0, none⟩)) ?_ ⟨rfl, below_same wF⟩
                    have t0 := ev_of e0
                    go_simp
                  refine ⟨step_yes 12 92 rfl rfl (fun _ _ h => h) (fun aF wF hs hb => ?_), ?_⟩
                  · obtain ⟨x0, -⟩ := hs
                    have e0 : aF.eval (.tmp 94) = .pointer (some ⟨g11, 0, none⟩) := x0
                    exact opC_load e0 (LX wF hb) ⟨rfl, below_same wF⟩
                  refine ⟨step_yes 12 92 rfl rfl (fun _ _ h => h) (fun aF wF hs hb => ?_), ?_⟩
                  · obtain ⟨x0, x1, -⟩ := hs
                    have y0 : (entR y M).p (aF.eval (.tmp 93)) wF := x0
                    have e1 : aF.eval (.tmp 95) = .int .u8 (x : Int) := x1
                    exact opC_call (args := #[aF.eval (.tmp 93), .int .u8 (x : Int)]) (enters_of Tryd.func11 (by kernel_rfl) rfl) (by simp [e1]) (cOfT hx9 hMm hof1 y0) (fun _ h => ⟨rfl, h⟩)
                  refine ⟨step_yes 12 92 rfl rfl (fun _ _ h => h) (fun aF wF hs hb => ?_), ?_⟩
                  · obtain ⟨x0, -⟩ := hs
                    have e0 : aF.eval (.tmp 11) = .pointer (some ⟨g11, 0, none⟩) := x0
                    refine opC_value (v := .pointer (some ⟨g11, 1, none⟩)) ?_ ⟨rfl, below_same wF⟩
                    have t0 := ev_of e0
                    go_simp
                  refine ⟨step_yes 12 92 rfl rfl (fun _ _ h => h) (fun aF wF hs hb => ?_), ?_⟩
                  · obtain ⟨x0, -⟩ := hs
                    have e0 : aF.eval (.tmp 97) = .pointer (some ⟨g11, 1, none⟩) := x0
                    exact opC_load e0 (LZ wF hb) ⟨rfl, below_same wF⟩
                  refine ⟨step_yes 12 92 rfl rfl (fun _ _ h => h) (fun aF wF hs hb => ?_), ?_⟩
                  · obtain ⟨x0, x1, -⟩ := hs
                    have e0 : aF.eval (.tmp 96) = .int .i64 z := x0
                    have e1 : aF.eval (.tmp 98) = .int .i64 z := x1
                    refine opC_value (v := .bool false) ?_ ⟨rfl, below_same wF⟩
                    have t0 := ev_of e0
                    have t1 := ev_of e1
                    simp [execOp, go_sem, t0, t1]
                  refine ⟨step_free rfl (fun aF wF hs hb => ?_), ?_⟩
                  · obtain ⟨x0, x1, -⟩ := hs
                    have e0 : aF.eval (.tmp 92) = .bool false := x0
                    have e1 : aF.eval (.tmp 99) = .bool false := x1
                    refine opC_value (v := .bool false) ?_ ⟨rfl, below_same wF⟩
                    have t0 := ev_of e0
                    have t1 := ev_of e1
                    simp [execOp, go_sem, t0, t1]
                  refine ⟨step_free rfl (fun aF wF hs hb => ?_), ?_⟩
                  · obtain ⟨x0, -⟩ := hs
                    have e0 : aF.eval (.tmp 100) = .bool false := x0
                    exact opC_move e0 ⟨rfl, below_same wF⟩
                  refine ⟨step_yes 21 101 rfl rfl (fun _ _ h => h) (fun aF wF hs hb => ?_), ?_⟩
                  · obtain ⟨x0, -⟩ := hs
                    have e0 : aF.eval (.tmp 6) = .pointer (some ⟨g6, 0, none⟩) := x0
                    exact opC_load e0 (LE6 wF hb) ⟨⟨_, c6, by rw [negL_len], HRb _ hb⟩, below_same wF⟩
                  refine ⟨step_yes 21 101 rfl rfl (fun _ _ h => h) (fun aF wF hs hb => ?_), ?_⟩
                  · obtain ⟨x0, -⟩ := hs
                    have e0 : aF.eval (.tmp 11) = .pointer (some ⟨g11, 0, none⟩) := x0
                    refine opC_value (v := .pointer (some ⟨g11, 0, none⟩)) ?_ ⟨rfl, below_same wF⟩
                    have t0 := ev_of e0
                    go_simp
                  refine ⟨step_yes 21 101 rfl rfl (fun _ _ h => h) (fun aF wF hs hb => ?_), ?_⟩
                  · obtain ⟨x0, -⟩ := hs
                    have e0 : aF.eval (.tmp 103) = .pointer (some ⟨g11, 0, none⟩) := x0
                    exact opC_load e0 (LX wF hb) ⟨rfl, below_same wF⟩
                  refine ⟨step_yes 21 101 rfl rfl (fun _ _ h => h) (fun aF wF hs hb => ?_), ?_⟩
                  · obtain ⟨x0, x1, -⟩ := hs
                    have y0 : (entR y (negL M)).p (aF.eval (.tmp 102)) wF := x0
                    have e1 : aF.eval (.tmp 104) = .int .u8 (x : Int) := x1
                    exact opC_call (args := #[aF.eval (.tmp 102), .int .u8 (x : Int)]) (enters_of Tryd.func11 (by kernel_rfl) rfl) (by simp [e1]) (cOfT hx9 hMn hof2 y0) (fun _ h => ⟨rfl, h⟩)
                  refine ⟨step_yes 21 101 rfl rfl (fun _ _ h => h) (fun aF wF hs hb => ?_), ?_⟩
                  · obtain ⟨x0, -⟩ := hs
                    have e0 : aF.eval (.tmp 11) = .pointer (some ⟨g11, 0, none⟩) := x0
                    refine opC_value (v := .pointer (some ⟨g11, 1, none⟩)) ?_ ⟨rfl, below_same wF⟩
                    have t0 := ev_of e0
                    go_simp
                  refine ⟨step_yes 21 101 rfl rfl (fun _ _ h => h) (fun aF wF hs hb => ?_), ?_⟩
                  · obtain ⟨x0, -⟩ := hs
                    have e0 : aF.eval (.tmp 106) = .pointer (some ⟨g11, 1, none⟩) := x0
                    exact opC_load e0 (LZ wF hb) ⟨rfl, below_same wF⟩
                  refine ⟨step_yes 21 101 rfl rfl (fun _ _ h => h) (fun aF wF hs hb => ?_), ?_⟩
                  · obtain ⟨x0, x1, -⟩ := hs
                    have e0 : aF.eval (.tmp 105) = .int .i64 q := x0
                    have e1 : aF.eval (.tmp 107) = .int .i64 z := x1
                    refine opC_value (v := .int .i64 0) ?_ ⟨rfl, below_same wF⟩
                    have t0 := ev_of e0
                    have t1 := ev_of e1
                    simp [execOp, go_sem, t0, t1, hadd]
                  refine ⟨step_yes 21 101 rfl rfl (fun _ _ h => h) (fun aF wF hs hb => ?_), ?_⟩
                  · obtain ⟨x0, -⟩ := hs
                    have e0 : aF.eval (.tmp 108) = .int .i64 0 := x0
                    refine opC_value (v := .bool false) ?_ ⟨rfl, below_same wF⟩
                    have t0 := ev_of e0
                    simp [execOp, go_sem, t0]
                  refine ⟨step_free rfl (fun aF wF hs hb => ?_), ?_⟩
                  · obtain ⟨x0, x1, -⟩ := hs
                    have e0 : aF.eval (.tmp 101) = .bool false := x0
                    have e1 : aF.eval (.tmp 109) = .bool false := x1
                    refine opC_value (v := .bool false) ?_ ⟨rfl, below_same wF⟩
                    have t0 := ev_of e0
                    have t1 := ev_of e1
                    simp [execOp, go_sem, t0, t1]
                  exact trivial
                · intro f w12 hf hb12
                  have h110 : f 30 = .bool false := hf 30 110 rfl
                  have HBC := Lib.hid (HBA.out.trans (hb12.mono HBA.out.size))
                  simp only [putF, Act.put, List.setIfInBounds_toArray, List.set_cons_zero, List.set_cons_succ]
                  rw [h110]
                  have hkM := HLT9.out
                  clear h110 hf hb12
                  go_wp2_with fail
                  go_roundw
                  case rel => exact ⟨k + 1, HLT9.out, by go_num, HBC.out⟩
                  case measure =>
                    have := HLT9.out
                    simp [intOf]
                    omega
              · have m0 := (HE8.out.below hbw HE8.out.lt).cell 0
                have m1 := (HE8.out.below hbw HE8.out.lt).cell 1
                have m2 := (HE8.out.below hbw HE8.out.lt).cell 2
                have m3 := (HE8.out.below hbw HE8.out.lt).cell 3
                have m4 := (HE8.out.below hbw HE8.out.lt).cell 4
                simp at m0 m1 m2 m3 m4
                have hOz := Of_any y A5 M.length c5 wr.heap.size 0 M wr (rs_laterT HRM8.out hbw) rfl (by have := HLM.out; omega) (Nat.le_refl _) (by omega)
                rw [of_zero HRIS.out] at hOz
                unfold entV entC at hOz
                have HOZ := Lib.hid hOz
                have HBX := Lib.hid (HB8.out.trans (hbw.mono HB8.out.size))
                clear hOz hbw
                go_wp2_with fail
                refine HOZ.out.mono ?_
                rintro e w12 ⟨rfl, hb12⟩
                have HBY := Lib.hid (HBX.out.trans (hb12.mono HBX.out.size))
                clear hb12 m0 m1 m2 m3 m4
                go_wp2_with fail
                go_ret
                exact ⟨by first | rfl | simp, HBY.out⟩
      · obtain ⟨rfl, hb6⟩ := hP2 hq hlw
        clear hP1 hP2 hP3
        have HLW := Lib.hid hlw
        clear hlw
        have hRr := fun W' (hR : Rs legT W' W'.heap.size A5 M) => Right_any13 y A5 M.length c5 W'.heap.size M W' hR rfl (by have := HLM.out; omega) (Nat.le_refl _) HIM.out
        rw [hq] at hRr
        unfold entV entC at hRr
        have HRr := Lib.hid hRr
        have HE6 := Lib.hid ((HE.out.below hb6 HE.out.lt).alloc (.cells #[.int .u32 0, .int .i32 0, .int .u8 0, .int .u32 0, .slice Option.none 0 0] 29))
        have HQ6 := Lib.hid ((HQ.out.below hb6 HQ.out.lt).alloc (.cells #[.int .u32 0, .int .i32 0, .int .u8 0, .int .u32 0, .slice Option.none 0 0] 29))
        have HB6 := Lib.hid ((HB.out.trans (hb6.mono HB.out.size)).alloc (HB.out.trans (hb6.mono HB.out.size)).size (.cells #[.int .u32 0, .int .i32 0, .int .u8 0, .int .u32 0, .slice Option.none 0 0] 29))
        have HRM6 := Lib.hid (rs_laterT (rs_laterT HRM.out hb6) (b_alloc w6 (.cells #[.int .u32 0, .int .i32 0, .int .u8 0, .int .u32 0, .slice Option.none 0 0] 29)))
        have HT6 := Lib.hid (Blk.new w6 29 #[.int .u32 0, .int .i32 0, .int .u8 0, .int .u32 0, .slice Option.none 0 0])
        clear hRr hq
        have hlt6 := (HE.out.below hb6 HE.out.lt).lt
        have m0 := (HE.out.below hb6 HE.out.lt).cell 0
        have m1 := (HE.out.below hb6 HE.out.lt).cell 1
        have m2 := (HE.out.below hb6 HE.out.lt).cell 2
        have m3 := (HE.out.below hb6 HE.out.lt).cell 3
        have m4 := (HE.out.below hb6 HE.out.lt).cell 4
        simp at m0 m1 m2 m3 m4
        clear hb6 HE HB HRM HQ
        unfold zeroT
        go_wp2_with fail
        refine (HRr.out _ HRM6.out).mono ?_
        rintro e w7 ⟨rfl, hb7⟩
        have HB7 := Lib.hid (HB6.out.trans (hb7.mono HB6.out.size))
        have HT7 := Lib.hid (HT6.out.below hb7 HT6.out.lt)
        have HE7 := Lib.hid (HE6.out.below hb7 HE6.out.lt)
        have HQ7 := Lib.hid (HQ6.out.below hb7 HQ6.out.lt)
        have HRM7 := Lib.hid (rs_laterT HRM6.out hb7)
        clear hb7 m0 m1 m2 m3 m4 hlt6 HE6 HB6 HRM6 HT6 HRr HQ6
        have n4 := HE7.out.cell 4
        simp at n4
        obtain ⟨g6, hg6⟩ : ∃ g, w6.heap.size = g := ⟨_, rfl⟩
        rw [hg6] at HT7 ⊢
        clear hg6
        go_wp2_with fail
        clear n4
        go_loopw [38] (ORel M w7) (fun i _ => M.length - (intOf i).toNat)
        case atStart => exact ⟨0, Nat.zero_le _, rfl, rfl, Below.refl _ _⟩
        case round =>
          obtain ⟨k, hk, rfl, hlow, hbw⟩ := hrel
          have HLOW := Lib.hid hlow
          have HBW := Lib.hid hbw
          clear hlow
          have hM9 : M.length ≤ 1000 := by have := HLM.out; omega
          by_cases hlt : k < M.length
          · obtain ⟨b1, o1, rfl, hb1, y0, y1⟩ := (HRM7.out.below hbw).leg hlt
            obtain ⟨x, hx⟩ : ∃ x, M[k].1 = x := ⟨_, rfl⟩
            obtain ⟨z, hz⟩ : ∃ z, M[k].2 = z := ⟨_, rfl⟩
            rw [hx] at y0
            rw [hz] at y1
            have HZ := Lib.hid hz
            have HLT9 := Lib.hid hlt
            clear hx hz
            have HBA := Lib.hid (HBW.out.alloc HBW.out.size (.cells #[.int .u8 (x : Int), .int .i64 z] 40))
            have hb1w : b1 < wr.heap.size := Nat.lt_of_lt_of_le hb1 hbw.size
            clear hbw
            by_cases hlo : z = -9223372036854775808
            · have hz0 : (z == -9223372036854775808) = true := by rw [hlo]; rfl
              have HHLO := Lib.hid hlo
              have HTA := Lib.hid (HT7.out.below HBA.out HT7.out.lt)
              have HBB := Lib.hid (HB7.out.trans (HBA.out.mono HB7.out.size))
              have hC := Code_errno 12 _ (HLE.out.below HBB.out)
              have HC := Lib.hid hC
              clear hC hlo
              go_wp2_with fail
              refine HC.out.mono ?_
              rintro e w8 ⟨rfl, hb8⟩
              have HB8 := Lib.hid (HBB.out.trans (hb8.mono HBB.out.size))
              have x4 := (HTA.out.below hb8 HTA.out.lt).cell 4
              simp at x4
              clear hb8 y0 y1
              go_wp2_with fail
              go_ret
              exact ⟨by first | rfl | simp, HB8.out⟩
            · have hz0 : (z == -9223372036854775808) = false := by rw [beq_eq_false_iff_ne]; exact hlo
              have HLO := Lib.hid hlo
              clear hlo
              go_wp2_with fail
              go_roundw
              case rel => exact ⟨k + 1, HLT9.out, by go_num, low_step HLT9.out HLOW.out (by rw [HZ.out]; exact HLO.out), HBA.out⟩
              case measure =>
                have := HLT9.out
                simp [intOf]
                omega
          · have hkn : k = M.length := by omega
            subst hkn
            have hll := HLOW.out
            rw [List.take_length] at hll
            rw [HLW.out] at hll
            cases hll
end Go.Proofs.YtpphcifabmmimaaDoor
