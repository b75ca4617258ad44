/-
  ChartSames: region 3 of its law. Conditions: the legs are there.
-/
import Derived.Test.YtpphcifabmmimaaLegH
import Derived.Test.YtpphcifabmmimaaFlowB
import Derived.Test.YtpphcifabmmimaaChL
namespace Go.Proofs.Ytpphcifabmmimaa
open Go.ChangeShapes Go.WideShapes Go.ChangeAt Go.RowKit

theorem comesC_mono {P : Program} {K K' : Value → World → Prop} (h : ∀ v w, K v w → K' v w) {r : Result Next} (hr : comesC P K r) : comesC P K' r := by
  cases r with
  | ok n w' =>
    cases n with
    | value v => exact h _ _ hr
    | skip => exact h _ _ hr
    | enter f args => exact Calls.mono hr fun e w2 ⟨v, h1, h2⟩ => ⟨v, h1, h _ _ h2⟩
    | _ => exact hr.elim
  | _ => exact hr.elim
theorem opC_mono {P : Program} {o : Oper} {a : Act} {w : World} {K K' : Value → World → Prop} (h : opC P o a w K) (hk : ∀ v w', K v w' → K' v w') : opC P o a w K' := ⟨comesC_mono hk h.out⟩
theorem stepJ_free {P : Program} {ops : Array Oper} {ds : List (Option Tmp)} {F : Nat → Flw} {J : Act → World → Prop} {a0 : Act} {w0 : World} {i : Nat} {o : Oper}
    (hJ : ∀ a w v w', J a w → Below w.heap.size w w' → J (a.put o.dst v) w')
    (h : ∀ a w, seesS ds F a0 a w (opndsF o) → Below w0.heap.size w0 w → opC P o a w (fun v w' => (F i).p v w' ∧ Below w.heap.size w w')) : stepJ P ops ds F J a0 w0 i o := fun a w hs hb hj =>
  opC_mono (h a w (seesS_app hs).1 hb) fun v w' hv => ⟨hv.1, hv.2, hJ a w v w' hj hv.2⟩
/-- The two boxes are two. -/
def Two (a : Act) (w : World) : Prop := (∀ g, a.eval (.tmp 9) = .pointer (some ⟨g, 0, none⟩) → g < w.heap.size) ∧ (∀ g, a.eval (.tmp 10) = .pointer (some ⟨g, 0, none⟩) → g < w.heap.size) ∧ ∀ g, a.eval (.tmp 9) = .pointer (some ⟨g, 0, none⟩) → a.eval (.tmp 10) ≠ .pointer (some ⟨g, 0, none⟩)
theorem put_eval {a : Act} {d e : Tmp} {v : Value} (h : d ≠ e) : (a.put (some d) v).eval (.tmp e) = a.eval (.tmp e) := by
  simp only [Act.eval, Act.put, Array.getD_eq_getD_getElem?]
  rw [Array.getElem?_setIfInBounds_ne h]
theorem put_same {a : Act} {d : Tmp} {v : Value} : (a.put (some d) v).eval (.tmp d) = v ∨ (a.put (some d) v).eval (.tmp d) = undef := by
  simp only [Act.eval, Act.put, Array.getD_eq_getD_getElem?]
  by_cases h : d < a.tmps.size
  · left
    rw [Array.getElem?_setIfInBounds_self_of_lt h]
    rfl
  · right
    rw [Array.getElem?_eq_none (by rw [Array.size_setIfInBounds]; exact Nat.le_of_not_lt h)]
    rfl
theorem Two.keep {a : Act} {w w' : World} {d : Tmp} {v : Value} (h9 : d ≠ 9) (h10 : d ≠ 10) (h : Two a w) (hs : w.heap.size ≤ w'.heap.size) : Two (a.put (some d) v) w' := by
  obtain ⟨h1, h2, h3⟩ := h
  unfold Two
  rw [put_eval h9, put_eval h10]
  exact ⟨fun g hg => Nat.lt_of_lt_of_le (h1 g hg) hs, fun g hg => Nat.lt_of_lt_of_le (h2 g hg) hs, h3⟩
theorem Two.put9 {a : Act} {w : World} (o : Obj) (h : Two a w) : Two (a.put (some 9) (.pointer (some ⟨w.heap.size, 0, none⟩))) (w.alloc o) := by
  obtain ⟨h1, h2, h3⟩ := h
  unfold Two
  rw [put_eval (show (9 : Tmp) ≠ 10 by decide)]
  have hz : (w.alloc o).heap.size = w.heap.size + 1 := by simp
  rw [hz]
  refine ⟨fun g hg => ?_, fun g hg => Nat.lt_succ_of_lt (h2 g hg), fun g hg e => ?_⟩
  · rcases put_same (a := a) (d := 9) (v := .pointer (some ⟨w.heap.size, 0, none⟩)) with e | e
    · rw [e] at hg; injection hg with hg; injection hg with hg; injection hg with hg; omega
    · rw [e] at hg; cases hg
  · have := h2 g e
    rcases put_same (a := a) (d := 9) (v := .pointer (some ⟨w.heap.size, 0, none⟩)) with e | e
    · rw [e] at hg; injection hg with hg; injection hg with hg; injection hg with hg; omega
    · rw [e] at hg; cases hg
theorem Two.put10 {a : Act} {w : World} (o : Obj) (h : Two a w) : Two (a.put (some 10) (.pointer (some ⟨w.heap.size, 0, none⟩))) (w.alloc o) := by
  obtain ⟨h1, h2, h3⟩ := h
  unfold Two
  rw [put_eval (show (10 : Tmp) ≠ 9 by decide)]
  have hz : (w.alloc o).heap.size = w.heap.size + 1 := by simp
  rw [hz]
  refine ⟨fun g hg => Nat.lt_succ_of_lt (h1 g hg), fun g hg => ?_, fun g hg hg2 => ?_⟩
  · rcases put_same (a := a) (d := 10) (v := .pointer (some ⟨w.heap.size, 0, none⟩)) with e | e
    · rw [e] at hg; injection hg with hg; injection hg with hg; injection hg with hg; omega
    · rw [e] at hg; cases hg
  · have := h1 g hg
    rcases put_same (a := a) (d := 10) (v := .pointer (some ⟨w.heap.size, 0, none⟩)) with e | e
    · rw [e] at hg2; injection hg2 with hg2; injection hg2 with hg2; injection hg2 with hg2; omega
    · rw [e] at hg2; cases hg2
/-- Legs of one's own; an entry with legs of its own; a block that holds one. -/
def lgO (l : List (Nat × Int)) : Flw := ⟨fun v w => ∃ A c, v = .slice A l.length c ∧ OwnS legT 51 w 0 (.slice A l.length c) l.length l, fun ⟨A, c, h1, h2⟩ hb => ⟨A, c, h1, h2.below hb⟩⟩
def enK (y : Ky) (l : List (Nat × Int)) : Flw := ⟨fun v w => ∃ A c, v = entV y (.slice A l.length c) ∧ OwnS legT 51 w 0 (.slice A l.length c) l.length l, fun ⟨A, c, h1, h2⟩ hb => ⟨A, c, h1, h2.below hb⟩⟩
def bxE (base : Nat) (y : Ky) (l : List (Nat × Int)) : Flw := ⟨fun v w => ∃ g A c, v = .pointer (some ⟨g, 0, none⟩) ∧ base ≤ g ∧ Blk w g 30 (entC y (.slice A l.length c)) ∧ OwnS legT 51 w 0 (.slice A l.length c) l.length l, fun ⟨g, A, c, h1, h2, h3, h4⟩ hb => ⟨g, A, c, h1, h2, h3.below hb h3.lt, h4.below hb⟩⟩
theorem own_zero {e : TypeId} {w : World} {b n : Nat} {v : Value} {l : List (Nat × Int)} (h : OwnS legT e w b v n l) : OwnS legT e w 0 v n l := own_low h (Nat.zero_le _)
theorem cFewO {A : Option Addr} {n c B : Nat} {l : List (Nat × Int)} {w : World} (hR : Rs legT w B A l) (hn : l.length = n) (hnc : n ≤ c) (hm : n ≤ maxLen) (hB : B ≤ w.heap.size) : Calls Try.prog 8 #[.slice A n c] w (ToF (lgO (l.take 12)) w) := by
  refine (Few13_any A n c B l w hR hn hnc hm hB).mono ?_
  rintro e w' ⟨A', c', rfl, -, -, ho, hb⟩
  exact ⟨_, rfl, ⟨A', c', rfl, own_zero ho⟩, hb⟩
theorem cMakeK {y : Ky} {l : List (Nat × Int)} (hm : l.length ≤ 1000) (hI : ∀ u ∈ l, LegIn u) {w : World} {v : Value} (h : (lgO l).p v w) : Calls Try.prog 9 #[y.v, v] w (ToF (enK y (mkL l)) w) := by
  obtain ⟨A, c, rfl, ho⟩ := h
  refine (Make_any y A l.length c w.heap.size l w (own_rs ho) rfl hm (Nat.le_refl _) hI).mono ?_
  rintro e w' ⟨A', c', rfl, ho', hb⟩
  exact ⟨_, rfl, ⟨A', c', rfl, own_zero ho'⟩, hb⟩
/-- An entry stored. -/
def setE (w : World) (g : Nat) (y : Ky) (v : Value) : World := ((((w.setCell ⟨g, 0, none⟩ (.int .u32 (y.a : Int))).setCell ⟨g, 1, none⟩ (.int .i32 y.d)).setCell ⟨g, 2, none⟩ (.int .u8 (y.k : Int))).setCell ⟨g, 3, none⟩ (.int .u32 (y.s : Int))).setCell ⟨g, 4, none⟩ v
theorem setE_grown (w : World) (g : Nat) (y : Ky) (v : Value) : w.grownBy (setE w g y v) (some g) :=
  grown_trans (grown_trans (grown_trans (grown_trans (grown_set w g 0 (.int .u32 (y.a : Int))) (grown_set _ g 1 (.int .i32 y.d))) (grown_set _ g 2 (.int .u8 (y.k : Int)))) (grown_set _ g 3 (.int .u32 (y.s : Int)))) (grown_set _ g 4 v)
theorem setE_below {B g : Nat} {a w : World} (h : Below B a w) (hg : B ≤ g) (y : Ky) (v : Value) : Below B a (setE w g y v) :=
  ((((h.setCell hg (.int .u32 (y.a : Int)) (p := ⟨g, 0, none⟩)).setCell hg (.int .i32 y.d) (p := ⟨g, 1, none⟩)).setCell hg (.int .u8 (y.k : Int)) (p := ⟨g, 2, none⟩)).setCell hg (.int .u32 (y.s : Int)) (p := ⟨g, 3, none⟩)).setCell hg v (p := ⟨g, 4, none⟩)
theorem setE_blk {w : World} {g : Nat} (h : Blk w g 30 zeroE) (y : Ky) (v : Value) : Blk (setE w g y v) g 30 (entC y v) := by
  have n7 := ((((Blk.set_ h 0 (.int .u32 (y.a : Int))).set_ 1 (.int .i32 y.d)).set_ 2 (.int .u8 (y.k : Int))).set_ 3 (.int .u32 (y.s : Int))).set_ 4 v
  unfold setE entC
  simpa [zeroE] using n7
theorem opC_storeE {w : World} {g : Nat} {y : Ky} {A : Option Addr} {n c : Nat} {a : Act} {x z : Tmp} {ty : TypeId} {pos : String} {af : Array Edge} {gd : Option (Nat × Bool)} {K : Value → World → Prop} (hx : a.eval (.tmp x) = .pointer (some ⟨g, 0, none⟩)) (hz : a.eval (.tmp z) = entV y (.slice A n c)) (h : Blk w g 30 zeroE) (hK : ∀ u, K u (setE w g y (.slice A n c))) :
    opC Try.prog ⟨none, .store 30 (.tmp x) (.tmp z), ty, pos, af, gd⟩ a w K := by
  have k0 := Blk.cell h 0
  have k1 := Blk.cell h 1
  have k2 := Blk.cell h 2
  have k3 := Blk.cell h 3
  have k4 := Blk.cell h 4
  have z0 := Blk.frozen h 0
  have z1 := Blk.frozen h 1
  have z2 := Blk.frozen h 2
  have z3 := Blk.frozen h 3
  have z4 := Blk.frozen h 4
  unfold zeroE at k0 k1 k2 k3 k4
  simp at k0 k1 k2 k3 k4
  unfold setE at hK
  unfold entV entC at hz
  have t0 := ev_of hx
  have t1 := ev_of hz
  constructor
  go_simp
  first | exact hK _ | (simp only [comesC]; exact hK _) | (unfold comesC; exact hK _)
set_option maxRecDepth 100000 in
set_option maxHeartbeats 4000000 in
theorem reg3_any (y1 y2 : Ky) (A1 A2 : Option Addr) (n1 n2 c1 c2 : Nat) (l1 l2 : List (Nat × Int)) (w w1 : World) (hR1 : Rs legT w w.heap.size A1 l1) (hn1 : l1.length = n1) (hc1 : n1 ≤ c1) (hm1 : n1 ≤ maxLen) (hI1 : ∀ u ∈ l1, LegIn u)
    (hR2 : Rs legT w w.heap.size A2 l2) (hn2 : l2.length = n2) (hc2 : n2 ≤ c2) (hm2 : n2 ≤ maxLen) (hI2 : ∀ u ∈ l2, LegIn u) (hbw : Below w.heap.size w w1) (hQ1 : Blk w1 w.heap.size 25 #[.int .u32 (y1.a : Int), .int .i32 y1.d, .int .u8 (y1.k : Int), .int .u32 (y1.s : Int)]) (hQ2 : Blk w1 (w.heap.size + 1) 25 #[.int .u32 (y2.a : Int), .int .i32 y2.d, .int .u8 (y2.k : Int), .int .u32 (y2.s : Int)]) :
    Reg3 y1 y2 A1 A2 n1 n2 c1 c2 (mkL (l1.take 12)) (mkL (l2.take 12)) w w1 := by
  intro Q hQ
  have LK1 : ∀ W', Below w1.heap.size w1 W' → (Instr.loadAt 25 (.pointer (some ⟨w.heap.size, 0, none⟩))).run Try.prog W' = .ok y1.v W' := fun W' hb => key_load (hQ1.below hb hQ1.lt)
  have LK2 : ∀ W', Below w1.heap.size w1 W' → (Instr.loadAt 25 (.pointer (some ⟨w.heap.size + 1, 0, none⟩))).run Try.prog W' = .ok y2.v W' := fun W' hb => key_load (hQ2.below hb hQ2.lt)
  have BW : ∀ W', Below w1.heap.size w1 W' → Below w.heap.size w W' := fun W' hb => hbw.trans (hb.mono hbw.size)
  have t1 : (l1.take 12).length ≤ 1000 := by rw [List.length_take]; omega
  have t2 : (l2.take 12).length ≤ 1000 := by rw [List.length_take]; omega
  have i1 : ∀ u ∈ l1.take 12, LegIn u := fun u hu => hI1 u (List.mem_of_mem_take hu)
  have i2 : ∀ u ∈ l2.take 12, LegIn u := fun u hu => hI2 u (List.mem_of_mem_take hu)
  refine wp_region_flow_mid (l := [{ dst := some 17, op := Go.Op.load 25 (Go.Operand.tmp 4), type := 25, pos := "law.go:117", after := #[], guard := none }, { dst := some 18, op := Go.Op.move (Go.Operand.tmp 2), type := 26, pos := "law.go:117", after := #[], guard := none }, { dst := some 19, op := Go.Op.call { callee := Go.Callee.value (Go.Operand.func 8), args := #[Go.Operand.tmp 18], argTypes := #[26] }, type := 26, pos := "law.go:117", after := #[{ on := 1, ground := Go.Ground.data }], guard := none }, { dst := some 20, op := Go.Op.call { callee := Go.Callee.value (Go.Operand.func 9), args := #[Go.Operand.tmp 17, Go.Operand.tmp 19], argTypes := #[25, 26] }, type := 30, pos := "law.go:117", after := #[{ on := 0, ground := Go.Ground.data }, { on := 2, ground := Go.Ground.data }, { on := 2, ground := Go.Ground.chain }], guard := none }, { dst := some 21, op := Go.Op.load 25 (Go.Operand.tmp 5), type := 25, pos := "law.go:117", after := #[], guard := none }, { dst := some 22, op := Go.Op.move (Go.Operand.tmp 3), type := 26, pos := "law.go:117", after := #[], guard := none }, { dst := some 23, op := Go.Op.call { callee := Go.Callee.value (Go.Operand.func 8), args := #[Go.Operand.tmp 22], argTypes := #[26] }, type := 26, pos := "law.go:117", after := #[{ on := 5, ground := Go.Ground.data }, { on := 3, ground := Go.Ground.chain }], guard := none }, { dst := some 24, op := Go.Op.call { callee := Go.Callee.value (Go.Operand.func 9), args := #[Go.Operand.tmp 21, Go.Operand.tmp 23], argTypes := #[25, 26] }, type := 30, pos := "law.go:117", after := #[{ on := 4, ground := Go.Ground.data }, { on := 6, ground := Go.Ground.data }, { on := 6, ground := Go.Ground.chain }], guard := none }, { dst := some 9, op := Go.Op.alloc 30, type := 0, pos := "law.go:117", after := #[], guard := none }, { dst := some 10, op := Go.Op.alloc 30, type := 0, pos := "law.go:117", after := #[], guard := none }, { dst := none, op := Go.Op.store 30 (Go.Operand.tmp 9) (Go.Operand.tmp 20), type := 0, pos := "law.go:117", after := #[{ on := 8, ground := Go.Ground.data }, { on := 3, ground := Go.Ground.data }, { on := 7, ground := Go.Ground.chain }, { on := 0, ground := Go.Ground.phase }, { on := 1, ground := Go.Ground.phase }, { on := 2, ground := Go.Ground.phase }, { on := 3, ground := Go.Ground.phase }, { on := 4, ground := Go.Ground.textOnly Go.Departure.lateStores }, { on := 5, ground := Go.Ground.textOnly Go.Departure.lateStores }, { on := 6, ground := Go.Ground.textOnly Go.Departure.lateStoresUnsure }, { on := 7, ground := Go.Ground.textOnly Go.Departure.lateStoresUnsure }, { on := 8, ground := Go.Ground.phase }, { on := 9, ground := Go.Ground.phase }], guard := none }]) (ol := { dst := none, op := Go.Op.store 30 (Go.Operand.tmp 10) (Go.Operand.tmp 24), type := 0, pos := "law.go:117", after := #[{ on := 9, ground := Go.Ground.data }, { on := 7, ground := Go.Ground.data }, { on := 10, ground := Go.Ground.chain }, { on := 0, ground := Go.Ground.phase }, { on := 1, ground := Go.Ground.phase }, { on := 2, ground := Go.Ground.phase }, { on := 3, ground := Go.Ground.phase }, { on := 4, ground := Go.Ground.phase }, { on := 5, ground := Go.Ground.phase }, { on := 6, ground := Go.Ground.phase }, { on := 7, ground := Go.Ground.phase }, { on := 8, ground := Go.Ground.phase }, { on := 9, ground := Go.Ground.phase }, { on := 10, ground := Go.Ground.phase }], guard := none }) (os := { dst := none, op := Go.Op.store 30 (Go.Operand.tmp 9) (Go.Operand.tmp 20), type := 0, pos := "law.go:117", after := #[{ on := 8, ground := Go.Ground.data }, { on := 3, ground := Go.Ground.data }, { on := 7, ground := Go.Ground.chain }, { on := 0, ground := Go.Ground.phase }, { on := 1, ground := Go.Ground.phase }, { on := 2, ground := Go.Ground.phase }, { on := 3, ground := Go.Ground.phase }, { on := 4, ground := Go.Ground.textOnly Go.Departure.lateStores }, { on := 5, ground := Go.Ground.textOnly Go.Departure.lateStores }, { on := 6, ground := Go.Ground.textOnly Go.Departure.lateStoresUnsure }, { on := 7, ground := Go.Ground.textOnly Go.Departure.lateStoresUnsure }, { on := 8, ground := Go.Ground.phase }, { on := 9, ground := Go.Ground.phase }], guard := none }) rfl 10 8 rfl rfl (by kernel_rfl) (fun i => ([.is (y1.v), .is (.slice A1 n1 c1), lgO (l1.take 12), enK y1 (mkL (l1.take 12)), .is (y2.v), .is (.slice A2 n2 c2), lgO (l2.take 12), enK y2 (mkL (l2.take 12)), boxF w1.heap.size 30 zeroE, boxF w1.heap.size 30 zeroE, .any] : List Flw).getD i .any) (fun i => ([.is (y1.v), .is (.slice A1 n1 c1), lgO (l1.take 12), enK y1 (mkL (l1.take 12)), .is (y2.v), .is (.slice A2 n2 c2), lgO (l2.take 12), enK y2 (mkL (l2.take 12)), bxE w1.heap.size y1 (mkL (l1.take 12)), boxF w1.heap.size 30 zeroE, .any] : List Flw).getD i .any) Two (by kernel_rfl) (by kernel_rfl) (by kernel_rfl) (by kernel_rfl) ?_ ?_ ?_ ?_ ?_
  · intro i o ho hne
    match i, ho with
    | 0, ho =>
      obtain rfl := Option.some.inj ho
      refine stepJ_free (fun _ _ _ _ hj hb => hj.keep (by decide) (by decide) hb.size) (fun aF wF hs hb => ?_)
      obtain ⟨x0, -⟩ := hs
      have e0 : aF.eval (.tmp 4) = .pointer (some ⟨w.heap.size, 0, none⟩) := x0
      exact opC_load e0 (LK1 wF hb) ⟨rfl, below_same wF⟩
    | 1, ho =>
      obtain rfl := Option.some.inj ho
      refine stepJ_free (fun _ _ _ _ hj hb => hj.keep (by decide) (by decide) hb.size) (fun aF wF hs hb => ?_)
      obtain ⟨x0, -⟩ := hs
      have e0 : aF.eval (.tmp 2) = .slice A1 n1 c1 := x0
      exact opC_move e0 ⟨rfl, below_same wF⟩
    | 2, ho =>
      obtain rfl := Option.some.inj ho
      refine stepJ_free (fun _ _ _ _ hj hb => hj.keep (by decide) (by decide) hb.size) (fun aF wF hs hb => ?_)
      obtain ⟨x0, -⟩ := hs
      have e0 : aF.eval (.tmp 18) = .slice A1 n1 c1 := x0
      exact opC_callF (args := #[.slice A1 n1 c1]) (enters_of Try.func8 (by kernel_rfl) rfl) (by simp [e0]) (cFewO (hR1.below (BW wF hb)) hn1 hc1 hm1 (BW wF hb).size) (fun _ _ h1 h2 => ⟨h1, h2⟩)
    | 3, ho =>
      obtain rfl := Option.some.inj ho
      refine stepJ_free (fun _ _ _ _ hj hb => hj.keep (by decide) (by decide) hb.size) (fun aF wF hs hb => ?_)
      obtain ⟨x0, x1, -⟩ := hs
      have e0 : aF.eval (.tmp 17) = y1.v := x0
      have y0 : (lgO (l1.take 12)).p (aF.eval (.tmp 19)) wF := x1
      exact opC_callF (args := #[y1.v, aF.eval (.tmp 19)]) (enters_of Try.func9 (by kernel_rfl) rfl) (by simp [e0]) (cMakeK t1 i1 y0) (fun _ _ h1 h2 => ⟨h1, h2⟩)
    | 4, ho =>
      obtain rfl := Option.some.inj ho
      refine stepJ_free (fun _ _ _ _ hj hb => hj.keep (by decide) (by decide) hb.size) (fun aF wF hs hb => ?_)
      obtain ⟨x0, -⟩ := hs
      have e0 : aF.eval (.tmp 5) = .pointer (some ⟨w.heap.size + 1, 0, none⟩) := x0
      exact opC_load e0 (LK2 wF hb) ⟨rfl, below_same wF⟩
    | 5, ho =>
      obtain rfl := Option.some.inj ho
      refine stepJ_free (fun _ _ _ _ hj hb => hj.keep (by decide) (by decide) hb.size) (fun aF wF hs hb => ?_)
      obtain ⟨x0, -⟩ := hs
      have e0 : aF.eval (.tmp 3) = .slice A2 n2 c2 := x0
      exact opC_move e0 ⟨rfl, below_same wF⟩
    | 6, ho =>
      obtain rfl := Option.some.inj ho
      refine stepJ_free (fun _ _ _ _ hj hb => hj.keep (by decide) (by decide) hb.size) (fun aF wF hs hb => ?_)
      obtain ⟨x0, -⟩ := hs
      have e0 : aF.eval (.tmp 22) = .slice A2 n2 c2 := x0
      exact opC_callF (args := #[.slice A2 n2 c2]) (enters_of Try.func8 (by kernel_rfl) rfl) (by simp [e0]) (cFewO (hR2.below (BW wF hb)) hn2 hc2 hm2 (BW wF hb).size) (fun _ _ h1 h2 => ⟨h1, h2⟩)
    | 7, ho =>
      obtain rfl := Option.some.inj ho
      refine stepJ_free (fun _ _ _ _ hj hb => hj.keep (by decide) (by decide) hb.size) (fun aF wF hs hb => ?_)
      obtain ⟨x0, x1, -⟩ := hs
      have e0 : aF.eval (.tmp 21) = y2.v := x0
      have y0 : (lgO (l2.take 12)).p (aF.eval (.tmp 23)) wF := x1
      exact opC_callF (args := #[y2.v, aF.eval (.tmp 23)]) (enters_of Try.func9 (by kernel_rfl) rfl) (by simp [e0]) (cMakeK t2 i2 y0) (fun _ _ h1 h2 => ⟨h1, h2⟩)
    | 8, ho =>
      obtain rfl := Option.some.inj ho
      intro aF wF hs hb hj
      exact opC_alloc (cs := zeroE) (by unfold zeroE; go_simp) ⟨⟨wF.heap.size, rfl, hb.size, heap_alloc_new wF _⟩, b_alloc wF _, hj.put9 _⟩
    | 9, ho =>
      obtain rfl := Option.some.inj ho
      intro aF wF hs hb hj
      exact opC_alloc (cs := zeroE) (by unfold zeroE; go_simp) ⟨⟨wF.heap.size, rfl, hb.size, heap_alloc_new wF _⟩, b_alloc wF _, hj.put10 _⟩
    | 10, _ => exact absurd rfl hne
    | _ + 11, ho => cases ho
  · intro i o ho hne hne8
    match i, ho with
    | 0, ho =>
      obtain rfl := Option.some.inj ho
      refine stepJ_free (fun _ _ _ _ hj hb => hj.keep (by decide) (by decide) hb.size) (fun aF wF hs hb => ?_)
      obtain ⟨x0, -⟩ := hs
      have e0 : aF.eval (.tmp 4) = .pointer (some ⟨w.heap.size, 0, none⟩) := x0
      exact opC_load e0 (LK1 wF hb) ⟨rfl, below_same wF⟩
    | 1, ho =>
      obtain rfl := Option.some.inj ho
      refine stepJ_free (fun _ _ _ _ hj hb => hj.keep (by decide) (by decide) hb.size) (fun aF wF hs hb => ?_)
      obtain ⟨x0, -⟩ := hs
      have e0 : aF.eval (.tmp 2) = .slice A1 n1 c1 := x0
      exact opC_move e0 ⟨rfl, below_same wF⟩
    | 2, ho =>
      obtain rfl := Option.some.inj ho
      refine stepJ_free (fun _ _ _ _ hj hb => hj.keep (by decide) (by decide) hb.size) (fun aF wF hs hb => ?_)
      obtain ⟨x0, -⟩ := hs
      have e0 : aF.eval (.tmp 18) = .slice A1 n1 c1 := x0
      exact opC_callF (args := #[.slice A1 n1 c1]) (enters_of Try.func8 (by kernel_rfl) rfl) (by simp [e0]) (cFewO (hR1.below (BW wF hb)) hn1 hc1 hm1 (BW wF hb).size) (fun _ _ h1 h2 => ⟨h1, h2⟩)
    | 3, ho =>
      obtain rfl := Option.some.inj ho
      refine stepJ_free (fun _ _ _ _ hj hb => hj.keep (by decide) (by decide) hb.size) (fun aF wF hs hb => ?_)
      obtain ⟨x0, x1, -⟩ := hs
      have e0 : aF.eval (.tmp 17) = y1.v := x0
      have y0 : (lgO (l1.take 12)).p (aF.eval (.tmp 19)) wF := x1
      exact opC_callF (args := #[y1.v, aF.eval (.tmp 19)]) (enters_of Try.func9 (by kernel_rfl) rfl) (by simp [e0]) (cMakeK t1 i1 y0) (fun _ _ h1 h2 => ⟨h1, h2⟩)
    | 4, ho =>
      obtain rfl := Option.some.inj ho
      refine stepJ_free (fun _ _ _ _ hj hb => hj.keep (by decide) (by decide) hb.size) (fun aF wF hs hb => ?_)
      obtain ⟨x0, -⟩ := hs
      have e0 : aF.eval (.tmp 5) = .pointer (some ⟨w.heap.size + 1, 0, none⟩) := x0
      exact opC_load e0 (LK2 wF hb) ⟨rfl, below_same wF⟩
    | 5, ho =>
      obtain rfl := Option.some.inj ho
      refine stepJ_free (fun _ _ _ _ hj hb => hj.keep (by decide) (by decide) hb.size) (fun aF wF hs hb => ?_)
      obtain ⟨x0, -⟩ := hs
      have e0 : aF.eval (.tmp 3) = .slice A2 n2 c2 := x0
      exact opC_move e0 ⟨rfl, below_same wF⟩
    | 6, ho =>
      obtain rfl := Option.some.inj ho
      refine stepJ_free (fun _ _ _ _ hj hb => hj.keep (by decide) (by decide) hb.size) (fun aF wF hs hb => ?_)
      obtain ⟨x0, -⟩ := hs
      have e0 : aF.eval (.tmp 22) = .slice A2 n2 c2 := x0
      exact opC_callF (args := #[.slice A2 n2 c2]) (enters_of Try.func8 (by kernel_rfl) rfl) (by simp [e0]) (cFewO (hR2.below (BW wF hb)) hn2 hc2 hm2 (BW wF hb).size) (fun _ _ h1 h2 => ⟨h1, h2⟩)
    | 7, ho =>
      obtain rfl := Option.some.inj ho
      refine stepJ_free (fun _ _ _ _ hj hb => hj.keep (by decide) (by decide) hb.size) (fun aF wF hs hb => ?_)
      obtain ⟨x0, x1, -⟩ := hs
      have e0 : aF.eval (.tmp 21) = y2.v := x0
      have y0 : (lgO (l2.take 12)).p (aF.eval (.tmp 23)) wF := x1
      exact opC_callF (args := #[y2.v, aF.eval (.tmp 23)]) (enters_of Try.func9 (by kernel_rfl) rfl) (by simp [e0]) (cMakeK t2 i2 y0) (fun _ _ h1 h2 => ⟨h1, h2⟩)
    | 8, ho =>
      obtain rfl := Option.some.inj ho
      intro aF wF hs hb hj
      exact absurd rfl hne8
    | 9, ho =>
      obtain rfl := Option.some.inj ho
      intro aF wF hs hb hj
      exact opC_alloc (cs := zeroE) (by unfold zeroE; go_simp) ⟨⟨wF.heap.size, rfl, hb.size, heap_alloc_new wF _⟩, b_alloc wF _, hj.put10 _⟩
    | 10, _ => exact absurd rfl hne
    | _ + 11, ho => cases ho
  · intro a w' hs hb hj
    obtain ⟨x0, x1, -⟩ := (seesS_app hs).1
    obtain ⟨g9, e9, hg9, hk9⟩ : (boxF w1.heap.size 30 zeroE).p (a.eval (.tmp 9)) w' := x0
    obtain ⟨A9, c9, e20, ho9⟩ : (enK y1 (mkL (l1.take 12))).p (a.eval (.tmp 20)) w' := x1
    have hk9 : Blk w' g9 30 zeroE := hk9
    refine opC_storeE e9 e20 hk9 fun _ => ⟨setE_below hb hg9 y1 _, ?_, ?_⟩
    · obtain ⟨j1, j2, j3⟩ := hj
      have hz : w'.heap.size ≤ (setE w' g9 y1 (.slice A9 (mkL (l1.take 12)).length c9)).heap.size := (setE_below (Below.refl 0 w') (Nat.zero_le _) y1 _).size
      exact ⟨fun g hg => Nat.lt_of_lt_of_le (j1 g hg) hz, fun g hg => Nat.lt_of_lt_of_le (j2 g hg) hz, j3⟩
    · have own_k : ∀ {A : Option Addr} {c : Nat} {l : List (Nat × Int)}, OwnS legT 51 w' 0 (.slice A l.length c) l.length l → OwnS legT 51 (setE w' g9 y1 (.slice A9 (mkL (l1.take 12)).length c9)) 0 (.slice A l.length c) l.length l := fun ho => ho.grown (setE_grown _ _ _ _) (.inl (fun e => ho.ne_blk hk9 entNe e.symm))
      intro i o d ho hd hp
      match i, ho with
      | 0, _ => exact hp
      | 1, _ => exact hp
      | 2, _ => obtain ⟨A, c, e, h⟩ := hp; exact ⟨A, c, e, own_k h⟩
      | 3, _ => obtain ⟨A, c, e, h⟩ := hp; exact ⟨A, c, e, own_k h⟩
      | 4, _ => exact hp
      | 5, _ => exact hp
      | 6, _ => obtain ⟨A, c, e, h⟩ := hp; exact ⟨A, c, e, own_k h⟩
      | 7, _ => obtain ⟨A, c, e, h⟩ := hp; exact ⟨A, c, e, own_k h⟩
      | 8, ho =>
        obtain rfl := Option.some.inj ho
        obtain rfl := Option.some.inj hd
        exact ⟨g9, A9, c9, e9, hg9, setE_blk hk9 _ _, own_k ho9⟩
      | 9, ho =>
        obtain rfl := Option.some.inj ho
        obtain rfl := Option.some.inj hd
        obtain ⟨g, e, hg, hk⟩ := hp
        have hne : g9 ≠ g := fun h => hj.2.2 g9 e9 (by rw [e, h])
        exact ⟨g, e, hg, Blk.grown (show Blk w' g 30 zeroE from hk) (setE_grown _ _ _ _) (fun h => hne (Option.some.inj h).symm)⟩
      | 10, ho =>
        obtain rfl := Option.some.inj ho
        cases hd
      | _ + 11, ho => cases ho
  · unfold Two
    exact ⟨fun g hg => (by cases hg), fun g hg => (by cases hg), fun g hg => (by cases hg)⟩
  · intro f w' hf hb hj
    simp only [List.map_cons, List.map_nil, putF, Act.put, List.setIfInBounds_toArray, List.set_cons_zero, List.set_cons_succ] at hj ⊢
    obtain ⟨g9, A9, c9, e9, hg9, hk9, ho9⟩ : (bxE w1.heap.size y1 (mkL (l1.take 12))).p (f 8) w' := hf 8 9 rfl
    obtain ⟨g10, e10, hg10, hk10⟩ : (boxF w1.heap.size 30 zeroE).p (f 9) w' := hf 9 10 rfl
    obtain ⟨A10, c10, e24, ho10⟩ : (enK y2 (mkL (l2.take 12))).p (f 7) w' := hf 7 24 rfl
    have hk10 : Blk w' g10 30 zeroE := hk10
    have hne : g10 ≠ g9 := fun h => hj.2.2 g9 e9 (by subst h; exact e10)
    have own_k : ∀ {A : Option Addr} {c : Nat} {l : List (Nat × Int)}, OwnS legT 51 w' 0 (.slice A l.length c) l.length l → OwnS legT 51 (setE w' g10 y2 (.slice A10 (mkL (l2.take 12)).length c10)) 0 (.slice A l.length c) l.length l := fun ho => ho.grown (setE_grown _ _ _ _) (.inl (fun e => ho.ne_blk hk10 entNe e.symm))
    refine opC_storeE (g := g10) (y := y2) e10 e24 hk10 fun _ => ?_
    rw [e9, e10]
    exact hQ _ _ _ _ _ _ _ _ A9 A10 c9 c10 g9 g10 _ (hk9.grown (setE_grown _ _ _ _) (fun h => hne (by first | exact Option.some.inj h | exact (Option.some.inj h).symm))) (setE_blk hk10 _ _) (own_rs (own_k ho9)) (own_rs (own_k ho10)) (hbw.trans ((setE_below hb hg10 y2 _).mono hbw.size))
end Go.Proofs.Ytpphcifabmmimaa
