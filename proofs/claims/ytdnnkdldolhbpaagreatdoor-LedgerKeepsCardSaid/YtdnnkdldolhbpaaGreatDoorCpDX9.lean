/-
A ledger's Copy: how it begins. Conditions: the ledger is there.
A ledger's Copy: one line. Conditions: the rows are there.
A ledger's Copy: rows of lines written over, and what stands there on the way. No condition.
-/
import Derived.Test.YtdnnkdldolhbpaaGreatDoorCpAX9
import Derived.Test.YtdnnkdldolhbpaaGreatDoorFlowJX9
import Derived.Test.YtdnnkdldolhbpaaGreatDoorLrPX9
import Derived.Test.YtdnnkdldolhbpaaGreatDoorShelfB
namespace Go.Proofs.YtdnnkdldolhbpaaGreatDoor
open Go.ChangeShapes Go.WideShapes Go.ChangeAt Go.RowKit Go.Maps Go.MapKept

def CloneMPost (f : Ky → Option Value) (w : World) (e : Ending) (w' : World) : Prop := e = .returned (.map (some w.heap.size)) ∧ MapF w' Ky.In Ky.v w.heap.size f ∧ Below w.heap.size w w'
theorem CloneM_any (b : Nat) (f : Ky → Option Value) (w : World) (h : MapF w Ky.In Ky.v b f) : Calls Tryz.prog 31 #[.map (some b)] w (CloneMPost f w) := by
  obtain ⟨es, clock, hb, F⟩ := h
  refine (Go.Proofs.AnyW.maps_Clone Go.Proofs.Tryz.cloneM b es clock w hb).mono fun e w' ⟨h1, h2⟩ => ?_
  subst h2
  exact ⟨h1, ⟨es, clock, (MapKept.heap_alloc w _).1, F⟩, b_alloc w _⟩
def relE : Rel := ⟨Chg (fun _ => False), fun w => Chg.refl _ w, fun _ => ⟨rfl, rfl, rfl, Nat.le_refl _, fun _ _ _ => rfl⟩, fun h1 h2 => h1.trans h2 (fun _ hi => .inl hi)⟩
theorem relE_block {w w' : World} (h : relE.r w w') {i : Nat} {o : Obj} (hi : w.heap[i]? = some o) : w'.heap[i]? = some o := (Chg.block h i (Array.getElem?_eq_some_iff.1 hi).1 (fun h => h)).trans hi
theorem lt_heap {w : World} {i : Nat} {o : Obj} (hi : w.heap[i]? = some o) : i < w.heap.size := (Array.getElem?_eq_some_iff.1 hi).1
def zeroLin : Array Value := #[.int .u32 0, .int .i32 0, .int .u8 0, .int .u32 0, .slice none 0 0, .int .i64 0]
def numJ : FlwG relE := ⟨fun v _ => ∃ n : Int, v = .int .i64 n, fun h _ => h⟩
def mapN (base : Nat) : FlwG relE := ⟨fun v w => ∃ g, v = .map (some g) ∧ base ≤ g ∧ w.heap[g]? = some (.map #[] 0), fun ⟨g, h1, h2, h3⟩ hr => ⟨g, h1, h2, relE_block hr h3⟩⟩
def rowN (base n : Nat) : FlwG relE := ⟨fun v w => ∃ g, v = .slice (some ⟨g, 0, none⟩) n n ∧ base ≤ g ∧ w.heap[g]? = some (.cells (madeCells zeroLin (n * 6)) 42), fun ⟨g, h1, h2, h3⟩ hr => ⟨g, h1, h2, relE_block hr h3⟩⟩
def ledN (base n : Nat) (f : Nat → Int) : FlwG relE := ⟨fun v w => ∃ g1 g2 g3, v = .agg #[.slice (some ⟨g1, 0, none⟩) n n, .map (some g2), .map (some g3), .int .i64 (f 0), .int .i64 (f 1), .int .i64 (f 2), .int .i64 (f 3), .int .i64 (f 4), .int .i64 (f 5), .int .i64 (f 6), .int .i64 (f 7), .int .i64 (f 8), .int .i64 (f 9)] ∧
    (base ≤ g1 ∧ base ≤ g2 ∧ base ≤ g3) ∧ g2 ≠ g3 ∧ w.heap[g1]? = some (.cells (madeCells zeroLin (n * 6)) 42) ∧ w.heap[g2]? = some (.map #[] 0) ∧ w.heap[g3]? = some (.map #[] 0),
  fun ⟨g1, g2, g3, h1, h2, h3, h4, h5, h6⟩ hr => ⟨g1, g2, g3, h1, h2, h3, relE_block hr h4, relE_block hr h5, relE_block hr h6⟩⟩
def ledB (base n : Nat) (f : Nat → Int) : FlwG relE := ⟨fun v w => ∃ c g1 g2 g3, v = .pointer (some ⟨c, 0, none⟩) ∧ base ≤ c ∧ w.heap[c]? = some (.cells #[.slice (some ⟨g1, 0, none⟩) n n, .map (some g2), .map (some g3), .int .i64 (f 0), .int .i64 (f 1), .int .i64 (f 2), .int .i64 (f 3), .int .i64 (f 4), .int .i64 (f 5), .int .i64 (f 6), .int .i64 (f 7), .int .i64 (f 8), .int .i64 (f 9)] 87) ∧
    (base ≤ g1 ∧ base ≤ g2 ∧ base ≤ g3) ∧ g2 ≠ g3 ∧ w.heap[g1]? = some (.cells (madeCells zeroLin (n * 6)) 42) ∧ w.heap[g2]? = some (.map #[] 0) ∧ w.heap[g3]? = some (.map #[] 0),
  fun ⟨c, g1, g2, g3, h1, h0, h7, h2, h3, h4, h5, h6⟩ hr => ⟨c, g1, g2, g3, h1, h0, relE_block hr h7, h2, h3, relE_block hr h4, relE_block hr h5, relE_block hr h6⟩⟩
/-- Two maps that are made aren't one. -/
structure TwoM (n : Nat) (d1 d2 : Tmp) (a : Act) (w : World) : Prop where
  sz : a.tmps.size = n
  one : ∀ g, a.eval (.tmp d1) = .map (some g) → g < w.heap.size
  two : ∀ g, a.eval (.tmp d2) = .map (some g) → g < w.heap.size
  ne : ∀ g2 g3, a.eval (.tmp d1) = .map (some g2) → a.eval (.tmp d2) = .map (some g3) → g2 ≠ g3
theorem eval_put_ne {a : Act} {o : Option Tmp} {d : Tmp} {v : Value} (h : o ≠ some d) : (a.put o v).eval (.tmp d) = a.eval (.tmp d) := by
  cases o with
  | none => rfl
  | some x =>
    have hx : x ≠ d := fun e => h (by rw [e])
    simp [Act.put, Act.eval, Array.getD_eq_getD_getElem?, Array.getElem?_setIfInBounds_ne hx]
theorem eval_put_self {a : Act} {d : Tmp} {v : Value} (h : d < a.tmps.size) : (a.put (some d) v).eval (.tmp d) = v := by
  simp [Act.put, Act.eval, Array.getD_eq_getD_getElem?, Array.getElem?_setIfInBounds_self_of_lt h]
theorem put_size (a : Act) (o : Option Tmp) (v : Value) : (a.put o v).tmps.size = a.tmps.size := by cases o <;> simp [Act.put]
theorem TwoM.other {n : Nat} {d1 d2 : Tmp} {a : Act} {w w' : World} (h : TwoM n d1 d2 a w) {o : Option Tmp} (h1 : o ≠ some d1) (h2 : o ≠ some d2) (hs : w.heap.size ≤ w'.heap.size) (v : Value) : TwoM n d1 d2 (a.put o v) w' := by
  refine ⟨(put_size _ _ _).trans h.sz, fun g hg => ?_, fun g hg => ?_, fun g2 g3 k1 k2 => ?_⟩
  · rw [eval_put_ne h1] at hg
    exact Nat.lt_of_lt_of_le (h.one g hg) hs
  · rw [eval_put_ne h2] at hg
    exact Nat.lt_of_lt_of_le (h.two g hg) hs
  · rw [eval_put_ne h1] at k1
    rw [eval_put_ne h2] at k2
    exact h.ne g2 g3 k1 k2
theorem TwoM.first {n : Nat} {d1 d2 : Tmp} {a : Act} {w : World} (h : TwoM n d1 d2 a w) (hd : d1 < n) (hne : d1 ≠ d2) (o : Obj) : TwoM n d1 d2 (a.put (some d1) (.map (some w.heap.size))) (w.alloc o) := by
  have h1 : (a.put (some d1) (.map (some w.heap.size))).eval (.tmp d1) = .map (some w.heap.size) := eval_put_self (by rw [h.sz]; exact hd)
  have h2 : (a.put (some d1) (.map (some w.heap.size))).eval (.tmp d2) = a.eval (.tmp d2) := eval_put_ne (fun e => hne (Option.some.inj e))
  refine ⟨(put_size _ _ _).trans h.sz, fun g hg => ?_, fun g hg => ?_, fun g2 g3 k1 k2 => ?_⟩
  · rw [h1] at hg
    injection hg with hg
    injection hg with hg
    subst hg
    simp
  · rw [h2] at hg
    have := h.two g hg
    simp
    omega
  · rw [h1] at k1
    rw [h2] at k2
    injection k1 with k1
    injection k1 with k1
    have := h.two g3 k2
    omega
theorem TwoM.second {n : Nat} {d1 d2 : Tmp} {a : Act} {w : World} (h : TwoM n d1 d2 a w) (hd : d2 < n) (hne : d1 ≠ d2) (o : Obj) : TwoM n d1 d2 (a.put (some d2) (.map (some w.heap.size))) (w.alloc o) := by
  have h1 : (a.put (some d2) (.map (some w.heap.size))).eval (.tmp d2) = .map (some w.heap.size) := eval_put_self (by rw [h.sz]; exact hd)
  have h2 : (a.put (some d2) (.map (some w.heap.size))).eval (.tmp d1) = a.eval (.tmp d1) := eval_put_ne (fun e => hne (Option.some.inj e).symm)
  refine ⟨(put_size _ _ _).trans h.sz, fun g hg => ?_, fun g hg => ?_, fun g2 g3 k1 k2 => ?_⟩
  · rw [h2] at hg
    have := h.one g hg
    simp
    omega
  · rw [h1] at hg
    injection hg with hg
    injection hg with hg
    subst hg
    simp
  · rw [h2] at k1
    rw [h1] at k2
    injection k2 with k2
    injection k2 with k2
    have := h.one g2 k1
    omega
theorem opC_mkmap {dst : Option Tmp} {x : Tmp} {t k e ty : TypeId} {pos : String} {af : Array Edge} {a : Act} {w : World} {K : Value → World → Prop} {n : Int} (hx : a.eval (.tmp x) = .int .i64 n) (ht : Tryz.prog.underlying t = some (.map k e))
    (hk : K (.map (some w.heap.size)) (w.alloc (.map #[] 0))) : opC Tryz.prog ⟨dst, .makeMap t (some (.tmp x)), ty, pos, af, none⟩ a w K := by
  constructor
  have t0 := ev_of hx
  rw [show (execOp a.eval ⟨dst, .makeMap t (some (.tmp x)), ty, pos, af, none⟩).run Tryz.prog w = .ok (.value (.map (some w.heap.size))) (w.alloc (.map #[] 0)) by
    simp [execOp, t0, Instr.makeMap, run_underlying ht, asInt, asIntOf, Result.andThen, go_sem]]
  exact hk
theorem infoLin : (Tryz.prog.info? 42).map (fun i => (i.zero, i.size, i.bytes)) = some (some (.agg zeroLin), 6, 48) := by kernel_rfl
theorem opC_mkrow {dst : Option Tmp} {x : Tmp} {ty : TypeId} {pos : String} {af : Array Edge} {a : Act} {w : World} {K : Value → World → Prop} {n : Nat} (hx : a.eval (.tmp x) = .int .i64 (n : Int)) (hn : n ≤ 1000000)
    (hk : K (.slice (some ⟨w.heap.size, 0, none⟩) n n) (w.alloc (.cells (madeCells zeroLin (n * 6)) 42))) : opC Tryz.prog ⟨dst, .makeSlice 81 (.tmp x) (.tmp x), ty, pos, af, none⟩ a w K := by
  obtain ⟨i0, hi, hz0, hz1, hz2⟩ := info_parts infoLin
  have h := run_make (P := Tryz.prog) w 81 42 i0 (.agg zeroLin) Tryz.underlying81 hi hz0 .i64 .i64 (n : Int) (n : Int) (by omega) (Int.le_refl _) (by rw [hz2]; omega) (by omega)
  rw [Int.toNat_natCast, hz1, show Value.cells (.agg zeroLin) = zeroLin from rfl] at h
  constructor
  rw [show (execOp a.eval ⟨dst, .makeSlice 81 (.tmp x) (.tmp x), ty, pos, af, none⟩).run Tryz.prog w = .ok (.value (.slice (some ⟨w.heap.size, 0, none⟩) n n)) (w.alloc (.cells (madeCells zeroLin (n * 6)) 42)) by
    simp [execOp, hx, h, Result.andThen]]
  exact hk
theorem opC_boxL {dst : Option Tmp} {x : Operand} {ty : TypeId} {pos : String} {af : Array Edge} {a : Act} {w : World} {K : Value → World → Prop} {c0 c1 c2 c3 c4 c5 c6 c7 c8 c9 c10 c11 c12 : Value} (hx : a.eval x = .agg #[c0, c1, c2, c3, c4, c5, c6, c7, c8, c9, c10, c11, c12])
    (hk : K (.pointer (some ⟨w.heap.size, 0, none⟩)) (w.alloc (.cells #[c0, c1, c2, c3, c4, c5, c6, c7, c8, c9, c10, c11, c12] 87))) : opC Tryz.prog ⟨dst, .box 87 x, ty, pos, af, none⟩ a w K := by
  constructor
  rw [show (execOp a.eval ⟨dst, .box 87 x, ty, pos, af, none⟩).run Tryz.prog w = .ok (.value (.pointer (some ⟨w.heap.size, 0, none⟩))) (w.alloc (.cells #[c0, c1, c2, c3, c4, c5, c6, c7, c8, c9, c10, c11, c12] 87)) by
    simp [execOp, hx]
    rfl]
  exact hk
theorem len_map {w : World} {In : Nat → Prop} {enc : Nat → Value} {m : Option Nat} {f : Nat → Option Value} {t k e ty : TypeId} (h : MapO w In enc m f) (ht : Tryz.prog.underlying t = some (.map k e)) : ∃ n : Int, (Builtin.len_ #[t] ty #[.map m]).run Tryz.prog w = .ok (.int .i64 n) w := by
  cases m with
  | none => exact ⟨0, by simp [Builtin.len_, run_underlying ht, go_sem, goInt]⟩
  | some b =>
    obtain ⟨es, clock, hb, _⟩ := h
    exact ⟨(es.size : Int), by simp [Builtin.len_, run_underlying ht, go_sem, goInt, MapKept.run_getObj_map hb]⟩
set_option maxRecDepth 100000 in
set_option maxHeartbeats 4000000 in
theorem copy_begin {Q : Exit → Act → World → Prop} {a0 : Act} (hsz : a0.tmps.size = 80) {w : World} (q : Nat) (A : Option Addr) (cM : Nat) (lm bm : Option Nat) (M : List Li) (fl fb : Nat → Option Value) (hM : M.length ≤ 1000000) (h0 : a0.eval (.tmp 0) = .pointer (some ⟨q, 0, none⟩)) (h21 : a0.eval (.tmp 21) = undef) (h27 : a0.eval (.tmp 27) = undef)
    (hq : Blk w q 87 (ledC (.slice A M.length cM) (.map lm) (.map bm) M)) (hl : MapO w u32In u32E lm fl) (hb : MapO w u32In u32E bm fb)
    (hQ : ∀ (f : Nat → Value) w' c g1 g2 g3, f 24 = .pointer (some ⟨c, 0, none⟩) → Below w.heap.size w w' → w.heap.size ≤ c → Blk w' c 87 (ledC (.slice (some ⟨g1, 0, none⟩) M.length M.length) (.map (some g2)) (.map (some g3)) M) →
      (w.heap.size ≤ g1 ∧ w.heap.size ≤ g2 ∧ w.heap.size ≤ g3) → g2 ≠ g3 → w'.heap[g1]? = some (.cells (madeCells zeroLin (M.length * 6)) 42) → w'.heap[g2]? = some (.map #[] 0) → w'.heap[g3]? = some (.map #[] 0) → Q .normal (putF f [some 10, some 11, some 12, some 13, some 14, some 15, some 16, some 17, some 18, some 19, some 20, some 21, some 22, some 23, some 24, some 25, some 26, some 27, some 28, some 29, some 30, some 31, some 32, some 33, some 3] 0 a0) w') :
    (Code.region 3 [{ dst := some 10, op := Go.Op.move (Go.Operand.tmp 0), type := 24, pos := "ledger.go:150", after := #[], guard := none }, { dst := some 11, op := Go.Op.nilCheck (Go.Operand.tmp 10), type := 0, pos := "ledger.go:150", after := #[{ on := 0, ground := Go.Ground.data }], guard := none }, { dst := some 12, op := Go.Op.fieldAddr 87 (Go.Operand.tmp 11) 0, type := 0, pos := "ledger.go:150", after := #[{ on := 1, ground := Go.Ground.data }], guard := none }, { dst := some 13, op := Go.Op.load 81 (Go.Operand.tmp 12), type := 81, pos := "ledger.go:150", after := #[{ on := 2, ground := Go.Ground.data }], guard := none }, { dst := some 14, op := Go.Op.call { callee := Go.Callee.builtin Go.Builtin.len, args := #[Go.Operand.tmp 13], argTypes := #[81] }, type := 3, pos := "ledger.go:150", after := #[{ on := 3, ground := Go.Ground.data }], guard := none }, { dst := some 15, op := Go.Op.makeSlice 81 (Go.Operand.tmp 14) (Go.Operand.tmp 14), type := 81, pos := "ledger.go:150", after := #[{ on := 4, ground := Go.Ground.data }, { on := 4, ground := Go.Ground.data }], guard := none }, { dst := some 16, op := Go.Op.move (Go.Operand.tmp 0), type := 24, pos := "ledger.go:150", after := #[], guard := none }, { dst := some 17, op := Go.Op.nilCheck (Go.Operand.tmp 16), type := 0, pos := "ledger.go:150", after := #[{ on := 6, ground := Go.Ground.data }], guard := none }, { dst := some 18, op := Go.Op.fieldAddr 87 (Go.Operand.tmp 17) 1, type := 0, pos := "ledger.go:150", after := #[{ on := 7, ground := Go.Ground.data }], guard := none }, { dst := some 19, op := Go.Op.load 82 (Go.Operand.tmp 18), type := 82, pos := "ledger.go:150", after := #[{ on := 8, ground := Go.Ground.data }], guard := none }, { dst := some 20, op := Go.Op.call { callee := Go.Callee.builtin Go.Builtin.len, args := #[Go.Operand.tmp 19], argTypes := #[82] }, type := 3, pos := "ledger.go:150", after := #[{ on := 9, ground := Go.Ground.data }], guard := none }, { dst := some 21, op := Go.Op.makeMap 82 (some (Go.Operand.tmp 20)), type := 82, pos := "ledger.go:150", after := #[{ on := 10, ground := Go.Ground.data }], guard := none }, { dst := some 22, op := Go.Op.move (Go.Operand.tmp 0), type := 24, pos := "ledger.go:150", after := #[], guard := none }, { dst := some 23, op := Go.Op.nilCheck (Go.Operand.tmp 22), type := 0, pos := "ledger.go:150", after := #[{ on := 12, ground := Go.Ground.data }], guard := none }, { dst := some 24, op := Go.Op.fieldAddr 87 (Go.Operand.tmp 23) 2, type := 0, pos := "ledger.go:150", after := #[{ on := 13, ground := Go.Ground.data }], guard := none }, { dst := some 25, op := Go.Op.load 83 (Go.Operand.tmp 24), type := 83, pos := "ledger.go:150", after := #[{ on := 14, ground := Go.Ground.data }], guard := none }, { dst := some 26, op := Go.Op.call { callee := Go.Callee.builtin Go.Builtin.len, args := #[Go.Operand.tmp 25], argTypes := #[83] }, type := 3, pos := "ledger.go:150", after := #[{ on := 15, ground := Go.Ground.data }, { on := 10, ground := Go.Ground.chain }], guard := none }, { dst := some 27, op := Go.Op.makeMap 83 (some (Go.Operand.tmp 26)), type := 83, pos := "ledger.go:150", after := #[{ on := 16, ground := Go.Ground.data }], guard := none }, { dst := some 28, op := Go.Op.move (Go.Operand.tmp 0), type := 24, pos := "ledger.go:150", after := #[], guard := none }, { dst := some 29, op := Go.Op.nilCheck (Go.Operand.tmp 28), type := 0, pos := "ledger.go:150", after := #[{ on := 18, ground := Go.Ground.data }], guard := none }, { dst := some 30, op := Go.Op.fieldAddr 87 (Go.Operand.tmp 29) 3, type := 0, pos := "ledger.go:150", after := #[{ on := 19, ground := Go.Ground.data }], guard := none }, { dst := some 31, op := Go.Op.load 85 (Go.Operand.tmp 30), type := 85, pos := "ledger.go:150", after := #[{ on := 20, ground := Go.Ground.data }], guard := none }, { dst := some 32, op := Go.Op.build 87 #[(0, Go.Operand.tmp 15), (1, Go.Operand.tmp 21), (2, Go.Operand.tmp 27), (3, Go.Operand.tmp 31)], type := 87, pos := "ledger.go:150", after := #[{ on := 5, ground := Go.Ground.data }, { on := 11, ground := Go.Ground.data }, { on := 17, ground := Go.Ground.data }, { on := 21, ground := Go.Ground.data }], guard := none }, { dst := some 33, op := Go.Op.box 87 (Go.Operand.tmp 32), type := 24, pos := "ledger.go:150", after := #[{ on := 22, ground := Go.Ground.data }], guard := none }, { dst := some 3, op := Go.Op.assign (Go.Operand.tmp 33), type := 24, pos := "ledger.go:150", after := #[{ on := 23, ground := Go.Ground.data }, { on := 16, ground := Go.Ground.chain }, { on := 0, ground := Go.Ground.phase }, { on := 1, ground := Go.Ground.phase }, { on := 2, ground := Go.Ground.phase }, { on := 3, ground := Go.Ground.phase }, { on := 4, ground := Go.Ground.phase }, { on := 5, ground := Go.Ground.phase }, { on := 6, ground := Go.Ground.phase }, { on := 7, ground := Go.Ground.phase }, { on := 8, ground := Go.Ground.phase }, { on := 9, ground := Go.Ground.phase }, { on := 10, ground := Go.Ground.phase }, { on := 11, ground := Go.Ground.phase }, { on := 12, ground := Go.Ground.phase }, { on := 13, ground := Go.Ground.phase }, { on := 14, ground := Go.Ground.phase }, { on := 15, ground := Go.Ground.phase }, { on := 16, ground := Go.Ground.phase }, { on := 17, ground := Go.Ground.phase }, { on := 18, ground := Go.Ground.phase }, { on := 19, ground := Go.Ground.phase }, { on := 20, ground := Go.Ground.phase }, { on := 21, ground := Go.Ground.phase }, { on := 22, ground := Go.Ground.phase }, { on := 23, ground := Go.Ground.phase }], guard := none }].toArray true).wp Tryz.prog Q a0 w := by
  have hqW : ∀ {W}, relE.r w W → Blk W q 87 (ledC (.slice A M.length cM) (.map lm) (.map bm) M) := fun hr => Chg.blk hr hq (fun h => h)
  have hbs : ∀ {W}, relE.r w W → w.heap.size ≤ W.heap.size := fun hr => Chg.size hr
  have hL0 : ∀ W, relE.r w W → (Instr.loadAt 81 (.pointer (some ⟨q, 0, none⟩))).run Tryz.prog W = .ok (.slice A M.length cM) W := fun W hr => by
    have x0 := (hqW hr).cell 0
    simp [ledC] at x0
    go_simp
  have hL1 : ∀ W, relE.r w W → (Instr.loadAt 82 (.pointer (some ⟨q, 1, none⟩))).run Tryz.prog W = .ok (.map lm) W := fun W hr => by
    have x0 := (hqW hr).cell 1
    simp [ledC] at x0
    go_simp
  have hL2 : ∀ W, relE.r w W → (Instr.loadAt 83 (.pointer (some ⟨q, 2, none⟩))).run Tryz.prog W = .ok (.map bm) W := fun W hr => by
    have x0 := (hqW hr).cell 2
    simp [ledC] at x0
    go_simp
  have hL3 : ∀ W, relE.r w W → (Instr.loadAt 85 (.pointer (some ⟨q, 3, none⟩))).run Tryz.prog W = .ok (.agg (vec (ctl M))) W := fun W hr => by
    have x0 := (hqW hr).cell 3
    have x1 := (hqW hr).cell 4
    have x2 := (hqW hr).cell 5
    have x3 := (hqW hr).cell 6
    have x4 := (hqW hr).cell 7
    have x5 := (hqW hr).cell 8
    have x6 := (hqW hr).cell 9
    have x7 := (hqW hr).cell 10
    have x8 := (hqW hr).cell 11
    have x9 := (hqW hr).cell 12
    simp [ledC] at x0 x1 x2 x3 x4 x5 x6 x7 x8 x9
    unfold vec
    go_simp
  have hN1 : ∀ W, relE.r w W → ∃ n : Int, (Builtin.len_ #[82] 3 #[.map lm]).run Tryz.prog W = .ok (.int .i64 n) W := fun W hr => len_map (hl.keep (fun b hb' => Chg.block hr b (hl.lt hb') (fun h => h))) Tryz.underlying82
  have hN2 : ∀ W, relE.r w W → ∃ n : Int, (Builtin.len_ #[83] 3 #[.map bm]).run Tryz.prog W = .ok (.int .i64 n) W := fun W hr => len_map (hb.keep (fun b hb' => Chg.block hr b (hb.lt hb') (fun h => h))) Tryz.underlying83
  refine wp_region_flowJ (R := relE) [some 10, some 11, some 12, some 13, some 14, some 15, some 16, some 17, some 18, some 19, some 20, some 21, some 22, some 23, some 24, some 25, some 26, some 27, some 28, some 29, some 30, some 31, some 32, some 33, some 3] (fun i => ([.is (.pointer (some ⟨q, 0, none⟩)), .is (.pointer (some ⟨q, 0, none⟩)), .is (.pointer (some ⟨q, 0, none⟩)), .is (.slice A M.length cM), .is (.int .i64 (M.length : Int)), rowN w.heap.size M.length, .is (.pointer (some ⟨q, 0, none⟩)), .is (.pointer (some ⟨q, 0, none⟩)), .is (.pointer (some ⟨q, 1, none⟩)), .is (.map lm), numJ, mapN w.heap.size, .is (.pointer (some ⟨q, 0, none⟩)), .is (.pointer (some ⟨q, 0, none⟩)), .is (.pointer (some ⟨q, 2, none⟩)), .is (.map bm), numJ, mapN w.heap.size, .is (.pointer (some ⟨q, 0, none⟩)), .is (.pointer (some ⟨q, 0, none⟩)), .is (.pointer (some ⟨q, 3, none⟩)), .is (.agg (vec (ctl M))), ledN w.heap.size M.length (ctl M), ledB w.heap.size M.length (ctl M), ledB w.heap.size M.length (ctl M)] : List (FlwG _)).getD i .any) (fun _ a W => TwoM 80 21 27 a W) (by kernel_rfl) (by rw [hsz]; kernel_rfl) rfl ⟨hsz, fun g hg => (by rw [h21] at hg; cases hg), fun g hg => (by rw [h27] at hg; cases hg), fun g2 g3 hg _ => (by rw [h21] at hg; cases hg)⟩ ?_ ?_
  · have hkeep : ∀ {a : Act} {W W' : World} {d : Option Tmp} {v : Value} (i : Nat), TwoM 80 21 27 a W → (d ≠ some 21 ∧ d ≠ some 27) → Below W.heap.size W W' → relE.r W W' ∧ TwoM 80 21 27 (a.put d v) W' := fun _ h hd hb => ⟨Chg.of_below hb, h.other hd.1 hd.2 hb.size _⟩
    have hkeep1 : ∀ {a : Act} {W : World} {o : Obj}, TwoM 80 21 27 a W → relE.r W (W.alloc o) ∧ TwoM 80 21 27 (a.put (some 21) (.map (some W.heap.size))) (W.alloc o) := fun h => ⟨Chg.of_below (b_alloc _ _), h.first (by decide) (by decide) _⟩
    have hkeep2 : ∀ {a : Act} {W : World} {o : Obj}, TwoM 80 21 27 a W → relE.r W (W.alloc o) ∧ TwoM 80 21 27 (a.put (some 27) (.map (some W.heap.size))) (W.alloc o) := fun h => ⟨Chg.of_below (b_alloc _ _), h.second (by decide) (by decide) _⟩
    refine ⟨step_freeJ rfl (fun aF wF S hs hr hS hI => ?_), ?_⟩
    · obtain ⟨x0, -⟩ := hs
      have e0 : aF.eval (.tmp 0) = .pointer (some ⟨q, 0, none⟩) := Eq.trans x0 h0
      exact opC_move e0 ⟨rfl, (hkeep 0 hI (by decide) (below_same wF))⟩
    refine ⟨step_freeJ rfl (fun aF wF S hs hr hS hI => ?_), ?_⟩
    · obtain ⟨x0, -⟩ := hs
      have e0 : aF.eval (.tmp 10) = .pointer (some ⟨q, 0, none⟩) := x0
      refine opC_value (v := .pointer (some ⟨q, 0, none⟩)) ?_ ⟨rfl, (hkeep 1 hI (by decide) (below_same wF))⟩
      have t0 := ev_of e0
      go_simp
    refine ⟨step_freeJ rfl (fun aF wF S hs hr hS hI => ?_), ?_⟩
    · obtain ⟨x0, -⟩ := hs
      have e0 : aF.eval (.tmp 11) = .pointer (some ⟨q, 0, none⟩) := x0
      refine opC_value (v := .pointer (some ⟨q, 0, none⟩)) ?_ ⟨rfl, (hkeep 2 hI (by decide) (below_same wF))⟩
      have t0 := ev_of e0
      go_simp
    refine ⟨step_freeJ rfl (fun aF wF S hs hr hS hI => ?_), ?_⟩
    · obtain ⟨x0, -⟩ := hs
      have e0 : aF.eval (.tmp 12) = .pointer (some ⟨q, 0, none⟩) := x0
      exact opC_load e0 (hL0 wF hr) ⟨rfl, (hkeep 3 hI (by decide) (below_same wF))⟩
    refine ⟨step_freeJ rfl (fun aF wF S hs hr hS hI => ?_), ?_⟩
    · obtain ⟨x0, -⟩ := hs
      have e0 : aF.eval (.tmp 13) = .slice A M.length cM := x0
      refine opC_value (v := .int .i64 (M.length : Int)) ?_ ⟨rfl, (hkeep 4 hI (by decide) (below_same wF))⟩
      have t0 := ev_of e0
      simp [go_sem, t0]
    refine ⟨step_freeJ rfl (fun aF wF S hs hr hS hI => ?_), ?_⟩
    · obtain ⟨x0, x1, -⟩ := hs
      have e0 : aF.eval (.tmp 14) = .int .i64 (M.length : Int) := x0
      refine opC_mkrow e0 hM ⟨⟨wF.heap.size, rfl, hbs hr, heap_alloc_new wF _⟩, (hkeep 5 hI (by decide) (b_alloc wF _))⟩
    refine ⟨step_freeJ rfl (fun aF wF S hs hr hS hI => ?_), ?_⟩
    · obtain ⟨x0, -⟩ := hs
      have e0 : aF.eval (.tmp 0) = .pointer (some ⟨q, 0, none⟩) := Eq.trans x0 h0
      exact opC_move e0 ⟨rfl, (hkeep 6 hI (by decide) (below_same wF))⟩
    refine ⟨step_freeJ rfl (fun aF wF S hs hr hS hI => ?_), ?_⟩
    · obtain ⟨x0, -⟩ := hs
      have e0 : aF.eval (.tmp 16) = .pointer (some ⟨q, 0, none⟩) := x0
      refine opC_value (v := .pointer (some ⟨q, 0, none⟩)) ?_ ⟨rfl, (hkeep 7 hI (by decide) (below_same wF))⟩
      have t0 := ev_of e0
      go_simp
    refine ⟨step_freeJ rfl (fun aF wF S hs hr hS hI => ?_), ?_⟩
    · obtain ⟨x0, -⟩ := hs
      have e0 : aF.eval (.tmp 17) = .pointer (some ⟨q, 0, none⟩) := x0
      refine opC_value (v := .pointer (some ⟨q, 1, none⟩)) ?_ ⟨rfl, (hkeep 8 hI (by decide) (below_same wF))⟩
      have t0 := ev_of e0
      go_simp
    refine ⟨step_freeJ rfl (fun aF wF S hs hr hS hI => ?_), ?_⟩
    · obtain ⟨x0, -⟩ := hs
      have e0 : aF.eval (.tmp 18) = .pointer (some ⟨q, 1, none⟩) := x0
      exact opC_load e0 (hL1 wF hr) ⟨rfl, (hkeep 9 hI (by decide) (below_same wF))⟩
    refine ⟨step_freeJ rfl (fun aF wF S hs hr hS hI => ?_), ?_⟩
    · obtain ⟨x0, -⟩ := hs
      have e0 : aF.eval (.tmp 19) = .map lm := x0
      obtain ⟨n, hn⟩ := hN1 wF hr
      refine opC_value (v := .int .i64 n) ?_ ⟨⟨n, rfl⟩, (hkeep 10 hI (by decide) (below_same wF))⟩
      have t0 := ev_of e0
      simp [go_sem, t0, hn]
    refine ⟨step_freeJ rfl (fun aF wF S hs hr hS hI => ?_), ?_⟩
    · obtain ⟨x0, -⟩ := hs
      obtain ⟨n, e0⟩ : numJ.p (aF.eval (.tmp 20)) wF := x0
      refine opC_mkmap e0 Tryz.underlying82 ⟨⟨wF.heap.size, rfl, hbs hr, heap_alloc_new wF _⟩, hkeep1 hI⟩
    refine ⟨step_freeJ rfl (fun aF wF S hs hr hS hI => ?_), ?_⟩
    · obtain ⟨x0, -⟩ := hs
      have e0 : aF.eval (.tmp 0) = .pointer (some ⟨q, 0, none⟩) := Eq.trans x0 h0
      exact opC_move e0 ⟨rfl, (hkeep 12 hI (by decide) (below_same wF))⟩
    refine ⟨step_freeJ rfl (fun aF wF S hs hr hS hI => ?_), ?_⟩
    · obtain ⟨x0, -⟩ := hs
      have e0 : aF.eval (.tmp 22) = .pointer (some ⟨q, 0, none⟩) := x0
      refine opC_value (v := .pointer (some ⟨q, 0, none⟩)) ?_ ⟨rfl, (hkeep 13 hI (by decide) (below_same wF))⟩
      have t0 := ev_of e0
      go_simp
    refine ⟨step_freeJ rfl (fun aF wF S hs hr hS hI => ?_), ?_⟩
    · obtain ⟨x0, -⟩ := hs
      have e0 : aF.eval (.tmp 23) = .pointer (some ⟨q, 0, none⟩) := x0
      refine opC_value (v := .pointer (some ⟨q, 2, none⟩)) ?_ ⟨rfl, (hkeep 14 hI (by decide) (below_same wF))⟩
      have t0 := ev_of e0
      go_simp
    refine ⟨step_freeJ rfl (fun aF wF S hs hr hS hI => ?_), ?_⟩
    · obtain ⟨x0, -⟩ := hs
      have e0 : aF.eval (.tmp 24) = .pointer (some ⟨q, 2, none⟩) := x0
      exact opC_load e0 (hL2 wF hr) ⟨rfl, (hkeep 15 hI (by decide) (below_same wF))⟩
    refine ⟨step_freeJ rfl (fun aF wF S hs hr hS hI => ?_), ?_⟩
    · obtain ⟨x0, -⟩ := hs
      have e0 : aF.eval (.tmp 25) = .map bm := x0
      obtain ⟨n, hn⟩ := hN2 wF hr
      refine opC_value (v := .int .i64 n) ?_ ⟨⟨n, rfl⟩, (hkeep 16 hI (by decide) (below_same wF))⟩
      have t0 := ev_of e0
      simp [go_sem, t0, hn]
    refine ⟨step_freeJ rfl (fun aF wF S hs hr hS hI => ?_), ?_⟩
    · obtain ⟨x0, -⟩ := hs
      obtain ⟨n, e0⟩ : numJ.p (aF.eval (.tmp 26)) wF := x0
      refine opC_mkmap e0 Tryz.underlying83 ⟨⟨wF.heap.size, rfl, hbs hr, heap_alloc_new wF _⟩, hkeep2 hI⟩
    refine ⟨step_freeJ rfl (fun aF wF S hs hr hS hI => ?_), ?_⟩
    · obtain ⟨x0, -⟩ := hs
      have e0 : aF.eval (.tmp 0) = .pointer (some ⟨q, 0, none⟩) := Eq.trans x0 h0
      exact opC_move e0 ⟨rfl, (hkeep 18 hI (by decide) (below_same wF))⟩
    refine ⟨step_freeJ rfl (fun aF wF S hs hr hS hI => ?_), ?_⟩
    · obtain ⟨x0, -⟩ := hs
      have e0 : aF.eval (.tmp 28) = .pointer (some ⟨q, 0, none⟩) := x0
      refine opC_value (v := .pointer (some ⟨q, 0, none⟩)) ?_ ⟨rfl, (hkeep 19 hI (by decide) (below_same wF))⟩
      have t0 := ev_of e0
      go_simp
    refine ⟨step_freeJ rfl (fun aF wF S hs hr hS hI => ?_), ?_⟩
    · obtain ⟨x0, -⟩ := hs
      have e0 : aF.eval (.tmp 29) = .pointer (some ⟨q, 0, none⟩) := x0
      refine opC_value (v := .pointer (some ⟨q, 3, none⟩)) ?_ ⟨rfl, (hkeep 20 hI (by decide) (below_same wF))⟩
      have t0 := ev_of e0
      go_simp
    refine ⟨step_freeJ rfl (fun aF wF S hs hr hS hI => ?_), ?_⟩
    · obtain ⟨x0, -⟩ := hs
      have e0 : aF.eval (.tmp 30) = .pointer (some ⟨q, 3, none⟩) := x0
      exact opC_load e0 (hL3 wF hr) ⟨rfl, (hkeep 21 hI (by decide) (below_same wF))⟩
    refine ⟨step_freeJ rfl (fun aF wF S hs hr hS hI => ?_), ?_⟩
    · obtain ⟨x0, x1, x2, x3, -⟩ := hs
      obtain ⟨g1, e0, k1, k2⟩ : (rowN w.heap.size M.length).p (aF.eval (.tmp 15)) wF := x0
      obtain ⟨g2, e1, k3, k4⟩ : (mapN w.heap.size).p (aF.eval (.tmp 21)) wF := x1
      obtain ⟨g3, e2, k5, k6⟩ : (mapN w.heap.size).p (aF.eval (.tmp 27)) wF := x2
      have e3 : aF.eval (.tmp 31) = .agg (vec (ctl M)) := x3
      refine opC_value (v := .agg (ledC (.slice (some ⟨g1, 0, none⟩) M.length M.length) (.map (some g2)) (.map (some g3)) M)) ?_ ⟨⟨g1, g2, g3, rfl, ⟨k1, k3, k5⟩, hI.ne g2 g3 e1 e2, k2, k4, k6⟩, (hkeep 22 hI (by decide) (below_same wF))⟩
      have t0 := ev_of e0
      have t1 := ev_of e1
      have t2 := ev_of e2
      have t3 := ev_of e3
      simp [execOp, go_sem, t0, t1, t2, t3, ledC, vec]
    refine ⟨step_freeJ rfl (fun aF wF S hs hr hS hI => ?_), ?_⟩
    · obtain ⟨x0, -⟩ := hs
      obtain ⟨g1, g2, g3, e0, k1, k2, k3, k4, k5⟩ : (ledN w.heap.size M.length (ctl M)).p (aF.eval (.tmp 32)) wF := x0
      refine opC_boxL e0 ⟨⟨wF.heap.size, g1, g2, g3, rfl, hbs hr, heap_alloc_new wF _, k1, k2, (Below.heap_alloc wF _ _ (lt_heap k3)).trans k3, (Below.heap_alloc wF _ _ (lt_heap k4)).trans k4, (Below.heap_alloc wF _ _ (lt_heap k5)).trans k5⟩, (hkeep 23 hI (by decide) (b_alloc wF _))⟩
    refine ⟨step_freeJ rfl (fun aF wF S hs hr hS hI => ?_), ?_⟩
    · obtain ⟨x0, -⟩ := hs
      have y0 : (ledB w.heap.size M.length (ctl M)).p (aF.eval (.tmp 33)) wF := x0
      exact opC_assign rfl ⟨y0, (hkeep 24 hI (by decide) (below_same wF))⟩
    exact trivial
  · intro f w' S hf hr hS hI
    have h3 : (ledB w.heap.size M.length (ctl M)).p (f 24) w' := hf 24 3 rfl
    obtain ⟨c, g1, g2, g3, e3, k0, k1, k2, k3, k4, k5, k6⟩ := h3
    exact hQ f w' c g1 g2 g3 e3 (Chg.below hr (Nat.le_refl _) (fun _ h => h.elim)) k0 k1 k2 k3 k4 k5 k6
end Go.Proofs.YtdnnkdldolhbpaaGreatDoor
namespace Go.Proofs.YtdnnkdldolhbpaaGreatDoor
open Go.ChangeShapes Go.WideShapes Go.ChangeAt Go.RowKit Go.Maps Go.MapKept

theorem cellsLin : Tryz.prog.cellsOf 42 = 6 := by kernel_rfl
theorem pack_last {P : Program} {ol : Oper} {Q : Exit → Act → World → Prop} {a0 : Act} {w' : World} (u : Nat → Value) (ds : List (Option Tmp)) (h : ∀ T : Array Value, T.size = a0.tmps.size → (∀ d : Tmp, (∀ i : Nat, ds[i]? ≠ some (some d)) → T[d]? = a0.tmps[d]?) → (∀ (d : Tmp) (i : Nat), d < a0.tmps.size → ds[i]? = some (some d) → (∀ j : Nat, ds[j]? = some (some d) → j = i) → T[d]? = some (u i)) → (⟨T, a0.defers⟩ : Act) = putF u ds 0 a0 →
    opC P ol ⟨T, a0.defers⟩ w' (fun v w'' => Q .normal ((⟨T, a0.defers⟩ : Act).put ol.dst v) w'')) : opC P ol (putF u ds 0 a0) w' (fun v w'' => Q .normal ((putF u ds 0 a0).put ol.dst v) w'') := by
  have h1 := putF_size u ds 0 a0
  have h2 := fun (d : Tmp) hd => putF_old u ds 0 a0 d hd
  have h3 := fun (d : Tmp) (i : Nat) x y z => putF_new u ds 0 a0 d i x y z
  simp only [Nat.zero_add] at h3
  obtain ⟨A, hA⟩ : ∃ A, putF u ds 0 a0 = A := ⟨_, rfl⟩
  rw [hA] at h1 h2 h3 ⊢
  obtain ⟨T, Ed⟩ := A
  have h4 := h1.2
  simp only at h4
  subst h4
  exact h T h1.1 h2 h3 hA.symm
theorem tmp_of_eval' {a : Act} {d : Tmp} {v : Value} (h : a.tmps[d]? = some v) : a.eval (.tmp d) = v := by
  unfold Act.eval
  simp [Array.getD_eq_getD_getElem?, h]
def ownLF (b : Nat) (y : Ky) (l : List (Nat × Int)) (o : Nat) : Flw := ⟨fun v w => ∃ (A : Option Addr) (c : Nat), v = linW y (.slice A l.length c) o ∧ OwnS legT 53 w b (.slice A l.length c) l.length l, fun ⟨A, c, h1, h2⟩ hb => ⟨A, c, h1, h2.below hb⟩⟩
theorem line_load14 {w : World} {g : Nat} {a b c d e f : Value} (h : Blk w g 42 #[a, b, c, d, e, f]) : (Instr.loadAt 42 (.pointer (some ⟨g, 0, none⟩))).run Tryz.prog w = .ok (.agg #[a, b, c, d, e, f]) w := by
  have x0 := h.cell 0
  have x1 := h.cell 1
  have x2 := h.cell 2
  have x3 := h.cell 3
  have x4 := h.cell 4
  have x5 := h.cell 5
  simp at x0 x1 x2 x3 x4 x5
  go_simp
def setLin (w : World) (g i : Nat) (y : Ky) (v : Value) (o : Nat) : World := (((((w.setCell ⟨g, i, none⟩ (.int .u32 (y.a : Int))).setCell ⟨g, i + 1, none⟩ (.int .i32 y.d)).setCell ⟨g, i + 2, none⟩ (.int .u8 (y.k : Int))).setCell ⟨g, i + 3, none⟩ (.int .u32 (y.s : Int))).setCell ⟨g, i + 4, none⟩ v).setCell ⟨g, i + 5, none⟩ (.int .i64 (o : Int))
set_option maxRecDepth 100000 in
set_option maxHeartbeats 4000000 in
theorem copy_line {Q : Exit → Act → World → Prop} {a0 : Act} (hsz : a0.tmps.size = 80) {w : World} (c gb g1 n k : Nat) (y : Ky) (A : Option Addr) (cl o : Nat) (l : List (Nat × Int)) (V : List LinV) (hk : k < n)
    (h3 : a0.eval (.tmp 3) = .pointer (some ⟨c, 0, none⟩)) (h4 : a0.eval (.tmp 4) = .int .i64 (k : Int)) (h5 : a0.eval (.tmp 5) = .pointer (some ⟨gb, 0, none⟩)) {cs : List Value}
    (hc : Blk w c 87 (.slice (some ⟨g1, 0, none⟩) n n :: cs).toArray) (hb : Blk w gb 42 #[.int .u32 (y.a : Int), .int .i32 y.d, .int .u8 (y.k : Int), .int .u32 (y.s : Int), .slice A l.length cl, .int .i64 (o : Int)])
    (hR : Rs legT w w.heap.size A l) (hl1 : 1 ≤ l.length) (hl2 : l.length ≤ 100000) (hO : OwnS linT 42 w 0 (.slice (some ⟨g1, 0, none⟩) n n) n V)
    (hQ : ∀ (f : Nat → Value) w' A' c', Below w.heap.size w w' → OwnS legT 53 w' w.heap.size (.slice A' l.length c') l.length l → Q .normal (putF f [some 44, some 45, some 46, some 47, some 48, some 49, some 50, some 51] 0 a0) (setLin w' g1 (k * 6) y (.slice A' l.length c') o)) :
    (Code.region 7 [{ dst := some 44, op := Go.Op.move (Go.Operand.tmp 3), type := 24, pos := "ledger.go:157", after := #[], guard := none }, { dst := some 45, op := Go.Op.nilCheck (Go.Operand.tmp 44), type := 0, pos := "ledger.go:157", after := #[{ on := 0, ground := Go.Ground.data }], guard := none }, { dst := some 46, op := Go.Op.fieldAddr 87 (Go.Operand.tmp 45) 0, type := 0, pos := "ledger.go:157", after := #[{ on := 1, ground := Go.Ground.data }], guard := none }, { dst := some 47, op := Go.Op.load 81 (Go.Operand.tmp 46), type := 81, pos := "ledger.go:157", after := #[{ on := 2, ground := Go.Ground.data }], guard := none }, { dst := some 48, op := Go.Op.move (Go.Operand.tmp 4), type := 3, pos := "ledger.go:157", after := #[], guard := none }, { dst := some 49, op := Go.Op.load 42 (Go.Operand.tmp 5), type := 42, pos := "ledger.go:157", after := #[], guard := none }, { dst := some 50, op := Go.Op.call { callee := Go.Callee.value (Go.Operand.func 30), args := #[Go.Operand.tmp 49], argTypes := #[42] }, type := 42, pos := "ledger.go:157", after := #[{ on := 5, ground := Go.Ground.data }], guard := none }, { dst := some 51, op := Go.Op.indexAddr 81 (Go.Operand.tmp 47) (Go.Operand.tmp 48), type := 0, pos := "ledger.go:157", after := #[{ on := 3, ground := Go.Ground.data }, { on := 4, ground := Go.Ground.data }, { on := 0, ground := Go.Ground.phase }, { on := 1, ground := Go.Ground.phase }, { on := 2, ground := Go.Ground.phase }, { on := 3, ground := Go.Ground.phase }, { on := 4, ground := Go.Ground.phase }, { on := 5, ground := Go.Ground.phase }, { on := 6, ground := Go.Ground.phase }], guard := none }, { dst := none, op := Go.Op.store 42 (Go.Operand.tmp 51) (Go.Operand.tmp 50), type := 0, pos := "ledger.go:157", after := #[{ on := 7, ground := Go.Ground.data }, { on := 6, ground := Go.Ground.data }, { on := 6, ground := Go.Ground.chain }, { on := 0, ground := Go.Ground.phase }, { on := 1, ground := Go.Ground.phase }, { on := 2, ground := Go.Ground.phase }, { on := 3, ground := Go.Ground.phase }, { on := 4, ground := Go.Ground.phase }, { on := 5, ground := Go.Ground.phase }, { on := 6, ground := Go.Ground.phase }], guard := none }].toArray true).wp Tryz.prog Q a0 w := by
  have LD : ∀ W', Below w.heap.size w W' → (Instr.loadAt 81 (.pointer (some ⟨c, 0, none⟩))).run Tryz.prog W' = .ok (.slice (some ⟨g1, 0, none⟩) n n) W' := fun W' hb' => by
    have x0 := (hc.below hb' hc.lt).cell 0
    simp at x0
    go_simp
  have LB : ∀ W', Below w.heap.size w W' → (Instr.loadAt 42 (.pointer (some ⟨gb, 0, none⟩))).run Tryz.prog W' = .ok (linW y (.slice A l.length cl) o) W' := fun W' hb' => line_load14 (hb.below hb' hb.lt)
  have LO : ∀ W', Below w.heap.size w W' → Calls Tryz.prog 30 #[linW y (.slice A l.length cl) o] W' (ToF (ownLF w.heap.size y l o) W') := fun W' hb' => (own_any14 y A l.length cl o w.heap.size l W' (hR.below hb') rfl hl1 hl2 hb'.size).mono fun e w' ⟨A', c', h1, h2, h3⟩ => ⟨_, h1, ⟨A', c', rfl, own_lower h2 hb'.size⟩, h3⟩
  refine wp_region_flow_last (l := [{ dst := some 44, op := Go.Op.move (Go.Operand.tmp 3), type := 24, pos := "ledger.go:157", after := #[], guard := none }, { dst := some 45, op := Go.Op.nilCheck (Go.Operand.tmp 44), type := 0, pos := "ledger.go:157", after := #[{ on := 0, ground := Go.Ground.data }], guard := none }, { dst := some 46, op := Go.Op.fieldAddr 87 (Go.Operand.tmp 45) 0, type := 0, pos := "ledger.go:157", after := #[{ on := 1, ground := Go.Ground.data }], guard := none }, { dst := some 47, op := Go.Op.load 81 (Go.Operand.tmp 46), type := 81, pos := "ledger.go:157", after := #[{ on := 2, ground := Go.Ground.data }], guard := none }, { dst := some 48, op := Go.Op.move (Go.Operand.tmp 4), type := 3, pos := "ledger.go:157", after := #[], guard := none }, { dst := some 49, op := Go.Op.load 42 (Go.Operand.tmp 5), type := 42, pos := "ledger.go:157", after := #[], guard := none }, { dst := some 50, op := Go.Op.call { callee := Go.Callee.value (Go.Operand.func 30), args := #[Go.Operand.tmp 49], argTypes := #[42] }, type := 42, pos := "ledger.go:157", after := #[{ on := 5, ground := Go.Ground.data }], guard := none }, { dst := some 51, op := Go.Op.indexAddr 81 (Go.Operand.tmp 47) (Go.Operand.tmp 48), type := 0, pos := "ledger.go:157", after := #[{ on := 3, ground := Go.Ground.data }, { on := 4, ground := Go.Ground.data }, { on := 0, ground := Go.Ground.phase }, { on := 1, ground := Go.Ground.phase }, { on := 2, ground := Go.Ground.phase }, { on := 3, ground := Go.Ground.phase }, { on := 4, ground := Go.Ground.phase }, { on := 5, ground := Go.Ground.phase }, { on := 6, ground := Go.Ground.phase }], guard := none }]) (ol := { dst := none, op := Go.Op.store 42 (Go.Operand.tmp 51) (Go.Operand.tmp 50), type := 0, pos := "ledger.go:157", after := #[{ on := 7, ground := Go.Ground.data }, { on := 6, ground := Go.Ground.data }, { on := 6, ground := Go.Ground.chain }, { on := 0, ground := Go.Ground.phase }, { on := 1, ground := Go.Ground.phase }, { on := 2, ground := Go.Ground.phase }, { on := 3, ground := Go.Ground.phase }, { on := 4, ground := Go.Ground.phase }, { on := 5, ground := Go.Ground.phase }, { on := 6, ground := Go.Ground.phase }], guard := none }) rfl [some 44, some 45, some 46, some 47, some 48, some 49, some 50, some 51] (fun i => ([.is (.pointer (some ⟨c, 0, none⟩)), .is (.pointer (some ⟨c, 0, none⟩)), .is (.pointer (some ⟨c, 0, none⟩)), .is (.slice (some ⟨g1, 0, none⟩) n n), .is (.int .i64 (k : Int)), .is (linW y (.slice A l.length cl) o), ownLF w.heap.size y l o, .is (.pointer (some ⟨g1, k * 6, none⟩))] : List Flw).getD i .any) (by kernel_rfl) (by rw [hsz]; kernel_rfl) (by kernel_rfl) rfl rfl ?_ ?_
  · skip
    refine ⟨step_free rfl (fun aF wF hs hb => ?_), ?_⟩
    · obtain ⟨x0, -⟩ := hs
      have e0 : aF.eval (.tmp 3) = .pointer (some ⟨c, 0, none⟩) := Eq.trans x0 h3
      exact opC_move e0 ⟨rfl, below_same wF⟩
    refine ⟨step_free rfl (fun aF wF hs hb => ?_), ?_⟩
    · obtain ⟨x0, -⟩ := hs
      have e0 : aF.eval (.tmp 44) = .pointer (some ⟨c, 0, none⟩) := x0
      refine opC_value (v := .pointer (some ⟨c, 0, none⟩)) ?_ ⟨rfl, below_same wF⟩
      have t0 := ev_of e0
      go_simp
    refine ⟨step_free rfl (fun aF wF hs hb => ?_), ?_⟩
    · obtain ⟨x0, -⟩ := hs
      have e0 : aF.eval (.tmp 45) = .pointer (some ⟨c, 0, none⟩) := x0
      refine opC_value (v := .pointer (some ⟨c, 0, none⟩)) ?_ ⟨rfl, below_same wF⟩
      have t0 := ev_of e0
      go_simp
    refine ⟨step_free rfl (fun aF wF hs hb => ?_), ?_⟩
    · obtain ⟨x0, -⟩ := hs
      have e0 : aF.eval (.tmp 46) = .pointer (some ⟨c, 0, none⟩) := x0
      exact opC_load e0 (LD wF hb) ⟨rfl, below_same wF⟩
    refine ⟨step_free rfl (fun aF wF hs hb => ?_), ?_⟩
    · obtain ⟨x0, -⟩ := hs
      have e0 : aF.eval (.tmp 4) = .int .i64 (k : Int) := Eq.trans x0 h4
      exact opC_move e0 ⟨rfl, below_same wF⟩
    refine ⟨step_free rfl (fun aF wF hs hb => ?_), ?_⟩
    · obtain ⟨x0, -⟩ := hs
      have e0 : aF.eval (.tmp 5) = .pointer (some ⟨gb, 0, none⟩) := Eq.trans x0 h5
      exact opC_load e0 (LB wF hb) ⟨rfl, below_same wF⟩
    refine ⟨step_free rfl (fun aF wF hs hb => ?_), ?_⟩
    · obtain ⟨x0, -⟩ := hs
      have e0 : aF.eval (.tmp 49) = linW y (.slice A l.length cl) o := x0
      exact opC_callF (args := #[linW y (.slice A l.length cl) o]) (enters_of Tryz.func30 (by kernel_rfl) rfl) (by simp [e0]) ((LO wF hb)) (fun _ _ h1 h2 => ⟨h1, h2⟩)
    refine ⟨step_free rfl (fun aF wF hs hb => ?_), ?_⟩
    · obtain ⟨x0, x1, -⟩ := hs
      have e0 : aF.eval (.tmp 47) = .slice (some ⟨g1, 0, none⟩) n n := x0
      have e1 : aF.eval (.tmp 48) = .int .i64 (k : Int) := x1
      refine opC_value (v := .pointer (some ⟨g1, k * 6, none⟩)) ?_ ⟨rfl, below_same wF⟩
      have t0 := ev_of e0
      have t1 := ev_of e1
      have hk2 : ¬ (k : Int) < 0 := by omega
      have hk3 : (k : Int) < (n : Int) := by omega
      simp [execOp, go_sem, t0, t1, hk3]
    exact trivial
  · intro f w9 hf hb9
    obtain ⟨A', c', e50, hO9⟩ : (ownLF w.heap.size y l o).p (f 6) w9 := hf 6 50 rfl
    have e51 : f 7 = .pointer (some ⟨g1, k * 6, none⟩) := hf 7 51 rfl
    have hV := hO.below hb9
    have hz : ∀ j : Nat, ∃ cur : Array Value, Blk w9 g1 42 cur ∧ cur.size = n * 6 := fun _ => by
      rcases hV.2 with ⟨h1, _⟩ | ⟨g', cap', cur, h1, _, hg, h4, _, h6, _⟩
      · cases h1
      · injection h1 with e1 e2 e3
        injection e1 with e1
        injection e1 with e1
        subst e1 e3
        exact ⟨cur, hg, h6⟩
    obtain ⟨cur, hg9, hcz⟩ := hz 0
    clear hz
    refine pack_last f _ ?_
    intro T hTs hold hnew hTe
    have h50 := hnew 50 6 (by rw [hsz]; decide) rfl (uniq_at (by kernel_rfl))
    have h51 := hnew 51 7 (by rw [hsz]; decide) rfl (uniq_at (by kernel_rfl))
    rw [e50] at h50
    rw [e51] at h51
    have hks : k * 6 + 5 < cur.size := by rw [hcz]; omega
    have y0 := hg9.cell (k * 6)
    have y1 := hg9.cell (k * 6 + 1)
    have y2 := hg9.cell (k * 6 + 2)
    have y3 := hg9.cell (k * 6 + 3)
    have y4 := hg9.cell (k * 6 + 4)
    have y5 := hg9.cell (k * 6 + 5)
    rw [Array.getElem?_eq_getElem (by omega)] at y0 y1 y2 y3 y4 y5
    have z0 := hg9.frozen (k * 6)
    have z1 := hg9.frozen (k * 6 + 1)
    have z2 := hg9.frozen (k * 6 + 2)
    have z3 := hg9.frozen (k * 6 + 3)
    have z4 := hg9.frozen (k * 6 + 4)
    have z5 := hg9.frozen (k * 6 + 5)
    generalize cur[k * 6]'(by omega) = v0 at y0
    generalize cur[k * 6 + 1]'(by omega) = v1 at y1
    generalize cur[k * 6 + 2]'(by omega) = v2 at y2
    generalize cur[k * 6 + 3]'(by omega) = v3 at y3
    generalize cur[k * 6 + 4]'(by omega) = v4 at y4
    generalize cur[k * 6 + 5]'(by omega) = v5 at y5
    have hfin := hQ f w9 A' c' hb9 hO9
    rw [← hTe] at hfin
    unfold setLin at hfin
    unfold linW at h50
    have t0 := ev_of (tmp_of_eval (Ed := a0.defers) h50)
    have t1 := ev_of (tmp_of_eval (Ed := a0.defers) h51)
    simp only at t0 t1
    constructor
    simp [execOp, go_sem, t0, t1, y0, y1, y2, y3, y4, y5, z0, z1, z2, z3, z4, z5]
    exact hfin
end Go.Proofs.YtdnnkdldolhbpaaGreatDoor
namespace Go.Proofs.YtdnnkdldolhbpaaGreatDoor
open Go.ChangeShapes Go.WideShapes Go.ChangeAt Go.RowKit Go.Maps Go.MapKept

theorem flat_set6 : ∀ (l : List LinV) (k : Nat) (_ : k < l.length) (u : LinV), ((((((l.flatMap linC).set (k * 6) (.int .u32 (u.y.a : Int))).set (k * 6 + 1) (.int .i32 u.y.d)).set (k * 6 + 2) (.int .u8 (u.y.k : Int))).set (k * 6 + 3) (.int .u32 (u.y.s : Int))).set (k * 6 + 4) (.slice u.A u.n u.c)).set (k * 6 + 5) (.int .i64 (u.o : Int)) = (l.set k u).flatMap linC
  | g :: r, 0, _, u => rfl
  | g :: r, k + 1, hk, u => by
    have ih := flat_set6 r k (by simpa using hk) u
    have e : ∀ x : LinV, linC x = [.int .u32 (x.y.a : Int), .int .i32 x.y.d, .int .u8 (x.y.k : Int), .int .u32 (x.y.s : Int), .slice x.A x.n x.c, .int .i64 (x.o : Int)] := fun x => rfl
    rw [List.flatMap_cons, List.set_cons_succ, List.flatMap_cons, e, ← ih]
    rw [show (k + 1) * 6 + 5 = (k * 6 + 5) + 1 + 1 + 1 + 1 + 1 + 1 by omega, show (k + 1) * 6 + 4 = (k * 6 + 4) + 1 + 1 + 1 + 1 + 1 + 1 by omega, show (k + 1) * 6 + 3 = (k * 6 + 3) + 1 + 1 + 1 + 1 + 1 + 1 by omega, show (k + 1) * 6 + 2 = (k * 6 + 2) + 1 + 1 + 1 + 1 + 1 + 1 by omega, show (k + 1) * 6 + 1 = (k * 6 + 1) + 1 + 1 + 1 + 1 + 1 + 1 by omega, show (k + 1) * 6 = (k * 6) + 1 + 1 + 1 + 1 + 1 + 1 by omega]
    rfl
/-- A line of an own row, written over. -/
theorem own_setLin {w : World} {base n c g : Nat} {V : List LinV} (h : OwnS linT 42 w base (.slice (some ⟨g, 0, none⟩) n c) n V) {k : Nat} (hk : k < V.length) (u : LinV) :
    OwnS linT 42 (setLin w g (k * 6) u.y (.slice u.A u.n u.c) u.o) base (.slice (some ⟨g, 0, none⟩) n c) n (V.set k u) := by
  have hl := h.length (by decide)
  unfold OwnS at h ⊢
  refine ⟨by rw [flatS_len, List.length_set, hl], ?_⟩
  rcases h.2 with ⟨h1, _⟩ | ⟨g', cap', cur, h1, h2, hg, h4, h5, h6, ht⟩
  · cases h1
  · injection h1 with e1 e2 e3
    injection e1 with e1
    injection e1 with e1
    subst e1
    refine .inr ⟨g, cap', (((((cur.setIfInBounds (k * 6) (.int .u32 (u.y.a : Int))).setIfInBounds (k * 6 + 1) (.int .i32 u.y.d)).setIfInBounds (k * 6 + 2) (.int .u8 (u.y.k : Int))).setIfInBounds (k * 6 + 3) (.int .u32 (u.y.s : Int))).setIfInBounds (k * 6 + 4) (.slice u.A u.n u.c)).setIfInBounds (k * 6 + 5) (.int .i64 (u.o : Int)), by rw [e3], h2, ?_, h4, h5, by simp [h6], ?_⟩
    · exact Blk.set_ (Blk.set_ (Blk.set_ (Blk.set_ (Blk.set_ (Blk.set_ (show Blk w g _ cur from hg) (k * 6) (.int .u32 (u.y.a : Int))) (k * 6 + 1) (.int .i32 u.y.d)) (k * 6 + 2) (.int .u8 (u.y.k : Int))) (k * 6 + 3) (.int .u32 (u.y.s : Int))) (k * 6 + 4) (.slice u.A u.n u.c)) (k * 6 + 5) (.int .i64 (u.o : Int))
    · rw [Array.toList_setIfInBounds, Array.toList_setIfInBounds, Array.toList_setIfInBounds, Array.toList_setIfInBounds, Array.toList_setIfInBounds, Array.toList_setIfInBounds, List.take_set, List.take_set, List.take_set, List.take_set, List.take_set, List.take_set, ht]
      unfold flatS
      exact flat_set6 V k hk u
def linZ : LinV := ⟨⟨0, 0, 0, 0⟩, none, 0, 0, 0⟩
theorem flat_zero (n : Nat) : (madeCells zeroLin (n * 6)).toList = flatS linT (List.replicate n linZ) := by
  apply List.ext_getElem?
  intro j
  by_cases hj : j < n * 6
  · have h1 : (List.replicate n linZ)[j / 6]? = some linZ := by rw [List.getElem?_replicate, if_pos (by omega)]
    have h2 : ∃ x, (linT.cells linZ)[j % 6]? = some x ∧ (madeCells zeroLin (n * 6)).toList[j]? = some x := by
      rcases (show j % 6 = 0 ∨ j % 6 = 1 ∨ j % 6 = 2 ∨ j % 6 = 3 ∨ j % 6 = 4 ∨ j % 6 = 5 by omega) with e | e | e | e | e | e <;> rw [e] <;> exact ⟨_, rfl, by simp [madeCells, zeroLin, linZ, hj, e]⟩
    obtain ⟨x, h3, h4⟩ := h2
    have h5 := flatS_at (T := linT) (List.replicate n linZ) (j / 6) linZ h1 (j % 6) x h3
    rw [show j / 6 * linT.k + j % 6 = j by show j / 6 * 6 + j % 6 = j; omega] at h5
    rw [h4, h5]
  · rw [List.getElem?_eq_none (by simp [size_madeCells]; omega), List.getElem?_eq_none (by rw [flatS_len]; simp; show n * 6 ≤ j; omega)]
theorem own_zero {w : World} {g n base : Nat} (h : w.heap[g]? = some (.cells (madeCells zeroLin (n * 6)) 42)) (hb : base ≤ g) (hn : n ≤ 1000000) : OwnS linT 42 w base (.slice (some ⟨g, 0, none⟩) n n) n (List.replicate n linZ) :=
  ⟨by rw [flatS_len, List.length_replicate], .inr ⟨g, n, madeCells zeroLin (n * 6), rfl, hb, h, Nat.le_refl _, by unfold maxLen; omega, by rw [size_madeCells]; rfl, by
    rw [flat_zero, List.take_of_length_le]
    rw [flatS_len, List.length_replicate]
    exact Nat.le_refl _⟩⟩
theorem below_setLin {w w' : World} {B g : Nat} (h : Below B w w') (hg : B ≤ g) (i : Nat) (y : Ky) (v : Value) (o : Nat) : Below B w (setLin w' g i y v o) :=
  (((((h.setCell hg _ (p := ⟨g, i, none⟩)).setCell hg _ (p := ⟨g, i + 1, none⟩)).setCell hg _ (p := ⟨g, i + 2, none⟩)).setCell hg _ (p := ⟨g, i + 3, none⟩)).setCell hg _ (p := ⟨g, i + 4, none⟩)).setCell hg _ (p := ⟨g, i + 5, none⟩)
theorem heap_setLin (w : World) (g i : Nat) (y : Ky) (v : Value) (o : Nat) (j : Nat) (hj : j ≠ g) : (setLin w g i y v o).heap[j]? = w.heap[j]? := by
  unfold setLin
  rw [Below.heap_setCell _ _ _ _ hj, Below.heap_setCell _ _ _ _ hj, Below.heap_setCell _ _ _ _ hj, Below.heap_setCell _ _ _ _ hj, Below.heap_setCell _ _ _ _ hj, Below.heap_setCell _ _ _ _ hj]
theorem size_setLin (w : World) (g i : Nat) (y : Ky) (v : Value) (o : Nat) : (setLin w g i y v o).heap.size = w.heap.size := by simp [setLin, World.setCell]
/-- The lines that are copied so far. -/
structure Done (w : World) (base : Nat) (M : List Li) (V : List LinV) : Prop where
  len : V.length ≤ M.length
  at_ : ∀ (j : Nat) v x, V[j]? = some v → M[j]? = some x → v.y = x.y ∧ v.o = x.o ∧ v.n = x.l.length ∧ OwnS legT 53 w base (.slice v.A v.n v.c) v.n x.l
theorem Done.nil (w : World) (base : Nat) (M : List Li) : Done w base M [] := ⟨Nat.zero_le _, fun j v x h => by simp at h⟩
theorem Done.keep {w w' : World} {base : Nat} {M : List Li} {V : List LinV} (h : Done w base M V) {g1 : Nat} {cs : Array Value} (hg : Blk w g1 42 cs) (hk : ∀ i, i < w.heap.size → i ≠ g1 → w'.heap[i]? = w.heap[i]?) : Done w' base M V :=
  ⟨h.len, fun j v x hv hx => by
    obtain ⟨k1, k2, k3, k4⟩ := h.at_ j v x hv hx
    refine ⟨k1, k2, k3, k4.same fun g hgb => hk g (k4.lt g hgb).2 (fun e => ?_)⟩
    subst e
    exact k4.ne_blk hg (by decide) hgb⟩
theorem Done.snoc {w : World} {base : Nat} {M : List Li} {V : List LinV} (h : Done w base M V) {x : Li} (hx : M[V.length]? = some x) (u : LinV) (h1 : u.y = x.y) (h2 : u.o = x.o) (h3 : u.n = x.l.length) (h4 : OwnS legT 53 w base (.slice u.A u.n u.c) u.n x.l) : Done w base M (V ++ [u]) := by
  have hlt := (List.getElem?_eq_some_iff.1 hx).1
  refine ⟨by simp; omega, fun j v z hv hz => ?_⟩
  rcases Nat.lt_or_ge j V.length with hj | hj
  · rw [List.getElem?_append_left hj] at hv
    exact h.at_ j v z hv hz
  · rw [List.getElem?_append_right hj] at hv
    have hj2 : j = V.length := by
      rcases Nat.lt_or_ge V.length j with k | k
      · rw [List.getElem?_eq_none (by simp; omega)] at hv
        cases hv
      · omega
    subst hj2
    simp at hv
    subst hv
    rw [hx] at hz
    cases hz
    exact ⟨h1, h2, h3, h4⟩
theorem set_zero {V : List LinV} {n : Nat} (h : V.length < n) (u : LinV) : (V ++ List.replicate (n - V.length) linZ).set V.length u = (V ++ [u]) ++ List.replicate (n - (V.length + 1)) linZ := by
  obtain ⟨m, hm⟩ : ∃ m, n - V.length = m + 1 := ⟨n - V.length - 1, by omega⟩
  rw [hm, show n - (V.length + 1) = m by omega, List.set_append_right _ _ (Nat.le_refl _), Nat.sub_self, List.replicate_succ, List.set_cons_zero, List.append_assoc]
  rfl
/-- What is copied of the maps of live lines. -/
structure LiveDone (w : World) (base g2 : Nat) (L : Ky → Option Nat) (inn inn' : Nat → Option Nat) (left : Nat → Prop) : Prop where
  out : MapF w u32In u32E g2 (fun a => (inn' a).map (fun r => .map (some r)))
  no : ∀ a, left a → inn' a = none
  yes : ∀ a, ¬ left a → (inn' a = none ↔ inn a = none)
  at_ : ∀ a r, inn' a = some r → base ≤ r ∧ r ≠ g2 ∧ MapF w Ky.In Ky.v r (fun y => if y.a = a then (L y).map natV else none)
  one : ∀ a a' r, inn' a = some r → inn' a' = some r → a = a'
theorem LiveDone.keep {w w' : World} {base g2 : Nat} {L : Ky → Option Nat} {inn inn' : Nat → Option Nat} {left : Nat → Prop} (h : LiveDone w base g2 L inn inn' left) (hk : ∀ i, base ≤ i → i < w.heap.size → w'.heap[i]? = w.heap[i]?) (hg : base ≤ g2) : LiveDone w' base g2 L inn inn' left :=
  ⟨h.out.keep (hk g2 hg h.out.lt), h.no, h.yes, fun a r hr => by
    obtain ⟨k1, k2, k3⟩ := h.at_ a r hr
    exact ⟨k1, k2, k3.keep (hk r k1 k3.lt)⟩, h.one⟩
/-- One more. -/
theorem LiveDone.step {w w1 w2 : World} {base g2 : Nat} {L : Ky → Option Nat} {inn inn' : Nat → Option Nat} {left : Nat → Prop} (h : LiveDone w base g2 L inn inn' left) {a b r : Nat} (hb : inn a = some b) (hl : left a) (hk1 : ∀ i, base ≤ i → i < w.heap.size → w1.heap[i]? = w.heap[i]?) (hr : w.heap.size ≤ r)
    (hm : MapF w1 Ky.In Ky.v r (fun y => if y.a = a then (L y).map natV else none)) (_ : base ≤ g2) (hbw : base ≤ w.heap.size) (ho : MapF w2 u32In u32E g2 (upd (fun a => (inn' a).map (fun r => .map (some r))) a (some (.map (some r))))) (ht : w1.mapTurned w2 g2) : LiveDone w2 base g2 L inn (fun x => if x = a then some r else inn' x) (fun x => left x ∧ x ≠ a) := by
  have hlt := h.out.lt
  have hgr := ht.grown
  refine ⟨?_, fun x hx => ?_, fun x hx => ?_, fun x s hs => ?_, fun x x' s hs hs' => ?_⟩
  · have e : (fun x => (if x = a then some r else inn' x).map (fun r => Value.map (some r))) = upd (fun a => (inn' a).map (fun r => .map (some r))) a (some (.map (some r))) := by
      funext x
      unfold upd
      by_cases e : x = a
      · rw [if_pos e, if_pos e]
        rfl
      · rw [if_neg e, if_neg e]
    rw [e]
    exact ho
  · rw [if_neg hx.2]
    exact h.no x hx.1
  · by_cases e : x = a
    · subst e
      rw [if_pos rfl, hb]
      constructor <;> intro hh <;> cases hh
    · rw [if_neg e]
      exact h.yes x (fun hh => hx ⟨hh, e⟩)
  · by_cases e : x = a
    · subst e
      rw [if_pos rfl] at hs
      cases hs
      exact ⟨by omega, by omega, hm.keep (hgr.block r hm.lt (fun e => by injection e with e; omega))⟩
    · rw [if_neg e] at hs
      obtain ⟨k1, k2, k3⟩ := h.at_ x s hs
      refine ⟨k1, k2, (k3.keep (hk1 s k1 k3.lt)).keep (hgr.block s ?_ (fun e => by injection e with e; omega))⟩
      exact (k3.keep (hk1 s k1 k3.lt)).lt
  · by_cases e : x = a
    · by_cases e' : x' = a
      · rw [e, e']
      · rw [if_pos e] at hs
        rw [if_neg e'] at hs'
        cases hs
        have := (h.at_ x' r hs').2.2.lt
        omega
    · by_cases e' : x' = a
      · rw [if_neg e] at hs
        rw [if_pos e'] at hs'
        cases hs'
        have := (h.at_ x r hs).2.2.lt
        omega
      · rw [if_neg e] at hs
        rw [if_neg e'] at hs'
        exact h.one x x' s hs hs'
end Go.Proofs.YtdnnkdldolhbpaaGreatDoor
