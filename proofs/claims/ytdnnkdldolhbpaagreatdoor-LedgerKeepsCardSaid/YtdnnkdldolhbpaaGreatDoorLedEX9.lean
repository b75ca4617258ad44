/-
api.Code and api.At of a Fault. Condition: errors.errorType is laid; the Fault's block is there.
The ledger's errors; own; with. Conditions: the rows are there.
sums.with: the sums behind the legs. Conditions: the rows are there.
-/
import Derived.Test.YtdnnkdldolhbpaaGreatDoorCodeCX9
import Derived.Test.YtdnnkdldolhbpaaGreatDoorLedCX9
import Derived.Test.YtdnnkdldolhbpaaGreatDoorTurCX9
namespace Go.Proofs.YtdnnkdldolhbpaaGreatDoor
open Go.RowKit Go.Extern.Stop Go.Stop Go.Extern

theorem rl_typeOfF (v : Value) (w : World) : (ReflectliteType.typeOf #[.iface 119 v]).run Tryz.prog w = .ok (.iface 186 (.agg #[.pointer (some ⟨1, 119, none⟩)])) w := by kernel_rfl
theorem rl_assignF (w : World) : (ReflectliteType.relation "AssignableTo" ReflectliteType.assignableTo #[.agg #[.pointer (some ⟨1, 119, none⟩)], .iface 186 (.agg #[.pointer (some ⟨1, 59, none⟩)])]).run Tryz.prog w = .ok (.bool false) w := by kernel_rfl
theorem fl_unwrap (p : Value) (w : World) : (Go.method 353 119 p "Unwrap").run Tryz.prog w = .ok (158, p) w := by kernel_rfl
theorem fl_noAs (p : Value) (w : World) : (Instr.typeAssert (.iface 119 p) 57 191 true).run Tryz.prog w = .ok (.tuple #[.nilIface, .bool false]) w :=
  run_typeAssert_lacksB Tryz.underlying191 (by kernel_rfl) (by kernel_rfl) p _ w
theorem fl_isUnwrap (p : Value) (w : World) : (Instr.typeAssert (.iface 119 p) 57 194 true).run Tryz.prog w = .ok (.tuple #[.iface 119 p, .bool true]) w :=
  run_typeAssert_hasB Tryz.underlying194 (by kernel_rfl) p _ w
set_option maxRecDepth 100000 in
set_option maxHeartbeats 4000000 in
theorem Unwrap_fault (N : Nat) (x v : Value) (w : World) (h : Blk w N 122 #[x, v]) :
    Calls Tryz.prog 158 #[.pointer (some ⟨N, 0, none⟩)] w fun e w' => e = .returned v ∧ w' = w := by
  have c1 := h.cell 1
  simp at c1
  go_enter Tryz.func158, Tryz.ntmps158
  go_wp2
  go_ret
  exact ⟨rfl, rfl⟩
set_option maxRecDepth 100000 in
set_option maxHeartbeats 4000000 in
theorem as_fault (N : Nat) (x : Value) (e : Int) (t : Addr) (old : Value) (w : World) (hN : Blk w N 122 #[x, .iface 59 (.int .i64 e)]) (hg : w.cell? ⟨0, 0, none⟩ = some (.iface 186 (.agg #[.pointer (some ⟨1, 57, none⟩)]))) (ht0 : w.cell? t = some old) (hf0 : w.frozen? t = false) :
    Calls Tryz.prog 43 #[.iface 119 (.pointer (some ⟨N, 0, none⟩)), .iface 109 (.pointer (some t))] w fun ev w' => ev = .returned (.bool true) ∧ w' = ((((w.alloc (.cells #[.pointer (some t)] 109)).alloc (.cells #[.pointer (some ⟨1, 109, none⟩), .pointer (some ⟨w.heap.size, 0, none⟩), .int .u64 150] 150)).alloc (.cells #[.pointer (some ⟨1, 109, none⟩), .pointer (some ⟨w.heap.size, 0, none⟩), .int .u64 150] 150)).alloc (.cells #[.int .i64 e] 59)).setCell t (.int .i64 e) := by
  have h6 := @run_callFunc_extern Tryz.prog 74 _ (fun args => ReflectliteValue.unpack (args.getD 0 (.tuple #[]))) Tryz.func74 (by kernel_rfl) (by kernel_rfl) (by kernel_rfl) (by kernel_rfl)
  have h7 := @run_callFunc_extern Tryz.prog 75 _ (ReflectliteValue.methodAny (ReflectliteValue.valueError "reflectlite.Value.Type" 0) (fun t _ _ _ => ReflectliteType.toType t)) Tryz.func75 (by kernel_rfl) (by kernel_rfl) (by kernel_rfl) (by kernel_rfl)
  have h8 := @run_callFunc_extern Tryz.prog 76 _ (ReflectliteValue.method (ReflectliteValue.valueError "reflectlite.Value.IsNil" 0) ReflectliteValue.isNil) Tryz.func76 (by kernel_rfl) (by kernel_rfl) (by kernel_rfl) (by kernel_rfl)
  have h27 := @run_callFunc_extern Tryz.prog 152 _ (ReflectliteType.abiMethod fun t => do pure (.int .u8 (← Rtype.kind t))) Tryz.func152 (by kernel_rfl) (by kernel_rfl) (by kernel_rfl) (by kernel_rfl)
  have h37 := @run_callFunc_extern Tryz.prog 165 _ (ReflectliteType.method ReflectliteType.elem) Tryz.func165 (by kernel_rfl) (by kernel_rfl) (by kernel_rfl) (by kernel_rfl)
  have h38 := @run_callFunc_extern Tryz.prog 166 _ (ReflectliteType.relation "Implements" ReflectliteType.implements_) Tryz.func166 (by kernel_rfl) (by kernel_rfl) (by kernel_rfl) (by kernel_rfl)
  have h10 := @run_callFunc_extern Tryz.prog 103 _ ReflectliteType.typeOf Tryz.func103 (by kernel_rfl) (by kernel_rfl) (by kernel_rfl) (by kernel_rfl)
  have h35 := @run_callFunc_extern Tryz.prog 163 _ (ReflectliteType.relation "AssignableTo" ReflectliteType.assignableTo) Tryz.func163 (by kernel_rfl) (by kernel_rfl) (by kernel_rfl) (by kernel_rfl)
  have h11 := @run_callFunc_extern Tryz.prog 104 _ (ReflectliteValue.method (ReflectliteValue.valueError "reflectlite.Value.Elem" 0) ReflectliteValue.elem) Tryz.func104 (by kernel_rfl) (by kernel_rfl) (by kernel_rfl) (by kernel_rfl)
  have h12 := @run_callFunc_extern Tryz.prog 105 _ ReflectliteValue.set Tryz.func105 (by kernel_rfl) (by kernel_rfl) (by kernel_rfl) (by kernel_rfl)
  have tO := rl_typeOfE
  have tO2 := rl_typeOfF
  have a26 := rl_assignF
  have n3 := fl_noAs
  have n4 := fl_isUnwrap
  have n5 := fl_unwrap
  have HU := Lib.hid (fun W hW => Unwrap_fault N x (.iface 59 (.int .i64 e)) W hW)
  have mA := rl_methodAssignableTo
  have a25 := rl_assignE
  have v25 := rl_valueOfE
  have f6 := rl_valueOfP
  have f7 := rl_typeP
  have mK := rl_methodKind
  have mE := rl_methodElem
  have mI := rl_methodImplements
  have k27 := rl_kindP
  have k25 := rl_kindE
  have e27 := rl_elemP
  have i25 := rl_implE
  obtain ⟨B1, hB1⟩ : ∃ B1 : Obj, B1 = .cells #[.pointer (some t)] 109 := ⟨_, rfl⟩
  have n8 := rl_isNilP ⟨w.heap.size, 0, none⟩ t ((w.alloc (.cells #[.pointer (some t)] 109)).alloc (.cells #[.pointer (some ⟨1, 109, none⟩), .pointer (some ⟨w.heap.size, 0, none⟩), .int .u64 150] 150)) (by simp)
  clear hB1 B1
  have hlt : 0 < w.heap.size := by
    rcases Nat.lt_or_ge 0 w.heap.size with h | h
    · exact h
    · simp [World.cell?, Array.getElem?_eq_none h] at hg
  have hg2 : ((w.alloc (.cells #[.pointer (some t)] 109)).alloc (.cells #[.pointer (some ⟨1, 109, none⟩), .pointer (some ⟨w.heap.size, 0, none⟩), .int .u64 150] 150)).cell? ⟨0, 0, none⟩ = some (.iface 186 (.agg #[.pointer (some ⟨1, 57, none⟩)])) := by
    rw [World.cell?_alloc_lt _ _ ⟨0, 0, none⟩ (by simp <;> omega), World.cell?_alloc_lt _ _ ⟨0, 0, none⟩ hlt]; exact hg
  have htl : t.block < w.heap.size := by
    rcases Nat.lt_or_ge t.block w.heap.size with h | h
    · exact h
    · simp [World.cell?, Array.getElem?_eq_none h] at ht0
  have el := rl_elemVP ⟨w.heap.size, 0, none⟩ t (((w.alloc (.cells #[.pointer (some t)] 109)).alloc (.cells #[.pointer (some ⟨1, 109, none⟩), .pointer (some ⟨w.heap.size, 0, none⟩), .int .u64 150] 150)).alloc (.cells #[.pointer (some ⟨1, 109, none⟩), .pointer (some ⟨w.heap.size, 0, none⟩), .int .u64 150] 150)) (by rw [World.cell?_alloc_lt _ _ ⟨w.heap.size, 0, none⟩ (by simp; omega)]; simp)
  have st := rl_setE t ⟨w.heap.size + 1 + 1 + 1, 0, none⟩ e old ((((w.alloc (.cells #[.pointer (some t)] 109)).alloc (.cells #[.pointer (some ⟨1, 109, none⟩), .pointer (some ⟨w.heap.size, 0, none⟩), .int .u64 150] 150)).alloc (.cells #[.pointer (some ⟨1, 109, none⟩), .pointer (some ⟨w.heap.size, 0, none⟩), .int .u64 150] 150)).alloc (.cells #[.int .i64 e] 59))
    (by rw [World.cell?_alloc_at _ _ _ _ (by simp)]; rfl)
    (by rw [World.cell?_alloc_lt _ _ t (by simp; omega), World.cell?_alloc_lt _ _ t (by simp; omega), World.cell?_alloc_lt _ _ t (by simp; omega), World.cell?_alloc_lt _ _ t htl]; exact ht0)
    (by rw [World.frozen?_alloc_old _ _ t (by simp; omega), World.frozen?_alloc_old _ _ t (by simp; omega), World.frozen?_alloc_old _ _ t (by simp; omega), World.frozen?_alloc_old _ _ t (Nat.ne_of_lt htl)]; exact hf0)
  have hN3 := Lib.hid (((hN.alloc (.cells #[.pointer (some t)] 109)).alloc (.cells #[.pointer (some ⟨1, 109, none⟩), .pointer (some ⟨w.heap.size, 0, none⟩), .int .u64 150] 150)).alloc (.cells #[.pointer (some ⟨1, 109, none⟩), .pointer (some ⟨w.heap.size, 0, none⟩), .int .u64 150] 150))
  clear hN
  go_enter Tryz.func43, Tryz.ntmps43
  go_wp2
  refine wp_loop_rounds 2 ?_
  rw [rounds_succ]
  go_wp2_with fail
  refine (HU.out _ hN3.out).mono ?_
  rintro e9 w9 ⟨rfl, rfl⟩
  go_wp2_with fail
  rw [rounds_succ]
  go_wp2
  go_ret
  exact ⟨rfl, rfl⟩
set_option maxHeartbeats 1000000 in
theorem Code_fault (N : Nat) (x : Value) (e : Int) (w : World) (hg : Laid w) (hN : Blk w N 122 #[x, .iface 59 (.int .i64 e)]) : Calls Tryz.prog 18 #[.iface 119 (.pointer (some ⟨N, 0, none⟩))] w fun ev w' => ev = .returned (.int .i64 e) ∧ Below w.heap.size w w' := by
  have hA : ∀ o : Obj, Laid (w.alloc o) := fun o => hg.below ((Below.refl _ w).alloc (Nat.le_refl _) o)
  have HA := Lib.hid (as_fault N x e ⟨w.heap.size, 0, none⟩ (.int .i64 0) (w.alloc (.cells #[.int .i64 0] 59)) (hN.alloc _) (hA _) (by simp) (by simp))
  clear hA hN
  go_enter Tryz.func18, Tryz.ntmps18
  go_wp2_with fail
  refine HA.out.mono ?_
  rintro ev w1 ⟨rfl, hw⟩
  have hc : w1.cell? ⟨w.heap.size, 0, none⟩ = some (.int .i64 e) := by
    rw [hw]
    refine World.cell?_setCell_same' _ _ _ ?_
    rw [World.cell?_alloc_lt _ _ _ (by simp; omega), World.cell?_alloc_lt _ _ _ (by simp; omega), World.cell?_alloc_lt _ _ _ (by simp; omega), World.cell?_alloc_lt _ _ _ (by simp)]
    simp
  have hb : Below w.heap.size w w1 := by
    rw [hw]
    exact ((((((Below.refl _ w).alloc (Nat.le_refl _) _).alloc (by simp) _).alloc (by simp; omega) _).alloc (by simp; omega) _).alloc (by simp; omega) _).setCell (Nat.le_refl _) _
  clear hw
  go_wp2_with fail
  go_ret
  exact ⟨rfl, hb⟩
end Go.Proofs.YtdnnkdldolhbpaaGreatDoor
namespace Go.Proofs.YtdnnkdldolhbpaaGreatDoor
open Go.ChangeShapes Go.WideShapes Go.ChangeAt Go.RowKit Go.Maps

def eno14 (n : Int) : Value := .iface 59 (.int .i64 n)
/-- A Fault of that number, at a block that is there. -/
def FaultIs (w : World) (B : Nat) (v : Value) (a n : Int) : Prop := ∃ N, v = .iface 119 (.pointer (some ⟨N, 0, none⟩)) ∧ B ≤ N ∧ Blk w N 122 #[.int .u64 a, eno14 n]
theorem FaultIs.below {w w' : World} {B : Nat} {v : Value} {a n : Int} (h : FaultIs w B v a n) (hb : Below w.heap.size w w') : FaultIs w' B v a n := by
  obtain ⟨N, h1, h2, h3⟩ := h
  exact ⟨N, h1, h2, h3.below hb h3.lt⟩
def FaultPost (a n : Int) (w : World) (e : Ending) (w' : World) : Prop := ∃ v, e = .returned v ∧ FaultIs w' w.heap.size v a n ∧ Below w.heap.size w w'
set_option maxRecDepth 100000 in
set_option maxHeartbeats 2000000 in
theorem fault_any (y : Ky) (hy : y.a < 4294967296) (n : Int) (w : World) : Calls Tryz.prog 40 #[y.v, eno14 n] w (FaultPost (y.a : Int) n w) := by
  unfold Ky.v eno14
  have hw : IntKind.u64.wrap (y.a : Int) = (y.a : Int) := by rw [IntKind.wrap_u64]; omega
  go_enter Tryz.func40, Tryz.ntmps40
  go_wp2
  go_ret
  refine ⟨_, rfl, ⟨w.heap.size + 1, rfl, by omega, ?_⟩, (b_alloc _ _).alloc (by simp) _⟩
  have h := Blk.new (w.alloc (.cells #[.int .u32 (y.a : Int), .int .i32 y.d, .int .u8 (y.k : Int), .int .u32 (y.s : Int)] 33)) 122 #[.int .u64 (y.a : Int), eno14 n]
  rw [show (w.alloc (.cells #[.int .u32 (y.a : Int), .int .i32 y.d, .int .u8 (y.k : Int), .int .u32 (y.s : Int)] 33)).heap.size = w.heap.size + 1 by simp] at h
  exact h
theorem set6c {w : World} {g : Nat} {T : TypeId} {a b c d e f : Value} (h : Blk w g T #[a, b, c, d, e, f]) (x0 x1 x2 x3 x4 x5 : Value) :
    Blk ((((((w.setCell ⟨g, 0, none⟩ x0).setCell ⟨g, 1, none⟩ x1).setCell ⟨g, 2, none⟩ x2).setCell ⟨g, 3, none⟩ x3).setCell ⟨g, 4, none⟩ x4).setCell ⟨g, 5, none⟩ x5) g T #[x0, x1, x2, x3, x4, x5] := by
  have := (((((h.set_ 0 x0).set_ 1 x1).set_ 2 x2).set_ 3 x3).set_ 4 x4).set_ 5 x5
  simpa using this
theorem heap_set6 (w : World) (g : Nat) (x0 x1 x2 x3 x4 x5 : Value) (k : Nat) (hk : k ≠ g) : ((((((w.setCell ⟨g, 0, none⟩ x0).setCell ⟨g, 1, none⟩ x1).setCell ⟨g, 2, none⟩ x2).setCell ⟨g, 3, none⟩ x3).setCell ⟨g, 4, none⟩ x4).setCell ⟨g, 5, none⟩ x5).heap[k]? = w.heap[k]? := by
  rw [Below.heap_setCell _ _ _ _ hk, Below.heap_setCell _ _ _ _ hk, Below.heap_setCell _ _ _ _ hk, Below.heap_setCell _ _ _ _ hk, Below.heap_setCell _ _ _ _ hk, Below.heap_setCell _ _ _ _ hk]
theorem below_set6 {w w' : World} {B g : Nat} (h : Below B w w') (hg : B ≤ g) (x0 x1 x2 x3 x4 x5 : Value) : Below B w ((((((w'.setCell ⟨g, 0, none⟩ x0).setCell ⟨g, 1, none⟩ x1).setCell ⟨g, 2, none⟩ x2).setCell ⟨g, 3, none⟩ x3).setCell ⟨g, 4, none⟩ x4).setCell ⟨g, 5, none⟩ x5) :=
  (((((h.setCell hg x0).setCell hg x1).setCell hg x2).setCell hg x3).setCell hg x4).setCell hg x5
/-- A line, as a value. -/
def linW (y : Ky) (v : Value) (o : Nat) : Value := .agg #[.int .u32 (y.a : Int), .int .i32 y.d, .int .u8 (y.k : Int), .int .u32 (y.s : Int), v, .int .i64 (o : Int)]
def OwnPost14 (y : Ky) (l : List (Nat × Int)) (o : Nat) (w : World) (e : Ending) (w' : World) : Prop :=
  ∃ (A : Option Addr) (c : Nat), e = .returned (linW y (.slice A l.length c) o) ∧ OwnS legT 53 w' w.heap.size (.slice A l.length c) l.length l ∧ Below w.heap.size w w'
theorem fin_lin {Post : Ending → World → Prop} {f : Func} {W : World} {T : Array Value} {g i : Nat} {y : Ky} {v : Value} {o : Nat} (hQ : Blk W g 42 #[.int .u32 (y.a : Int), .int .i32 y.d, .int .u8 (y.k : Int), .int .u32 (y.s : Int), v, .int .i64 (o : Int)])
    (hf : f.results = #[.cell i 42]) (h2 : T[i]? = some (.pointer (some ⟨g, 0, none⟩))) (hP : Post (.returned (linW y v o)) W) :
    bodyPost Tryz.prog f Post Exit.ret { tmps := T, defers := [] } W := by
  have c0 := hQ.cell 0
  have c1 := hQ.cell 1
  have c2 := hQ.cell 2
  have c3 := hQ.cell 3
  have c4 := hQ.cell 4
  have c5 := hQ.cell 5
  simp at c0 c1 c2 c3 c4 c5
  refine bodyPost_ret (v := linW y v o) ?_ rfl hP
  unfold linW
  simp [results, hf, go_sem, h2, c0, c1, c2, c3, c4, c5, Result.andThen]
set_option maxRecDepth 100000 in
set_option maxHeartbeats 4000000 in
theorem own_any14 (y : Ky) (A : Option Addr) (n c o B : Nat) (l : List (Nat × Int)) (w : World) (hR : Rs legT w B A l) (hn : l.length = n) (h1 : 1 ≤ n) (hm : n ≤ 100000) (hB : B ≤ w.heap.size) :
    Calls Tryz.prog 30 #[linW y (.slice A n c) o] w (OwnPost14 y l o w) := by
  obtain ⟨b0, o0, rfl, -⟩ := hR.leg (k := 0) (by omega)
  obtain ⟨Z, hZ⟩ : ∃ Z : Array Value, Z = #[.int .u32 0, .int .i32 0, .int .u8 0, .int .u32 0, .slice none 0 0, .int .i64 0] := ⟨_, rfl⟩
  obtain ⟨X, hX⟩ : ∃ X : Array Value, X = #[.int .u32 (y.a : Int), .int .i32 y.d, .int .u8 (y.k : Int), .int .u32 (y.s : Int), .slice (some ⟨b0, o0, none⟩) n c, .int .i64 (o : Int)] := ⟨_, rfl⟩
  have HQ1 := Lib.hid ((Blk.new w 42 X).alloc (.cells Z 42))
  have HQ2 : Hid (Blk ((w.alloc (.cells X 42)).alloc (.cells Z 42)) (w.heap.size + 1) 42 Z) := Lib.hid (by
    have h := Blk.new (w.alloc (.cells X 42)) 42 Z
    rw [show (w.alloc (.cells X 42)).heap.size = w.heap.size + 1 by simp] at h
    exact h)
  have HB2 := Lib.hid ((b_alloc w (.cells X 42)).alloc (by simp) (.cells Z 42))
  have HR2 := Lib.hid (hR.below (HB2.out.mono hB))
  obtain ⟨W2, hW2⟩ : ∃ W, ((w.alloc (.cells X 42)).alloc (.cells Z 42)) = W := ⟨_, rfl⟩
  rw [hW2] at HQ1 HQ2 HB2 HR2
  have hC := Clone13_any b0 o0 n c B l W2 HR2.out hn hm (Nat.le_trans hB HB2.out.size)
  subst hX hZ
  have HW2 := Lib.hid hW2
  have HW2s := Lib.hid hW2
  have HN := Lib.hid hn
  clear hW2 hR hn
  unfold linW
  go_enter Tryz.func30, Tryz.ntmps30
  go_upto_region 1 with (fail)
  rw [HW2.out]
  have n0 := HQ1.out.cell 0
  have n1 := HQ1.out.cell 1
  have n2 := HQ1.out.cell 2
  have n3 := HQ1.out.cell 3
  have n4 := HQ1.out.cell 4
  have n5 := HQ1.out.cell 5
  simp at n0 n1 n2 n3 n4 n5
  go_wp2_with fail
  refine hC.mono ?_
  rintro e W ⟨A', c', rfl, hc1, hc2, hO, hb⟩
  have HB5 := Lib.hid (HB2.out.trans (hb.mono HB2.out.size))
  have HQ5 := Lib.hid (HQ1.out.below hb HQ1.out.lt)
  have HZE := Lib.hid (HQ2.out.below hb HQ2.out.lt)
  clear hb n0 n1 n2 n3 n4 n5 HW2 HQ1 HQ2 HR2 hC
  have m0 := HQ5.out.cell 0
  have m1 := HQ5.out.cell 1
  have m2 := HQ5.out.cell 2
  have m3 := HQ5.out.cell 3
  have m4 := HQ5.out.cell 4
  have m5 := HQ5.out.cell 5
  have z4 := HQ5.out.frozen 4
  have p0 := HZE.out.cell 0
  have p1 := HZE.out.cell 1
  have p2 := HZE.out.cell 2
  have p3 := HZE.out.cell 3
  have p4 := HZE.out.cell 4
  have p5 := HZE.out.cell 5
  have f0 := HZE.out.frozen 0
  have f1 := HZE.out.frozen 1
  have f2 := HZE.out.frozen 2
  have f3 := HZE.out.frozen 3
  have f4 := HZE.out.frozen 4
  have f5 := HZE.out.frozen 5
  simp at m0 m1 m2 m3 m4 m5 p0 p1 p2 p3 p4 p5
  have HO := Lib.hid hO
  clear hO
  have hsz := congrArg (fun W : World => W.heap.size) HW2s.out
  simp at hsz
  go_wp2_with fail
  have hz := (HZE.out.far (p := ⟨w.heap.size, 4, none⟩) (by show w.heap.size + 1 ≠ w.heap.size; omega) (.slice A' l.length c'))
  have hz6 := set6c hz (.int .u32 (y.a : Int)) (.int .i32 y.d) (.int .u8 (y.k : Int)) (.int .u32 (y.s : Int)) (.slice A' l.length c') (.int .i64 (o : Int))
  refine fin_lin hz6 Tryz.results30 (by rfl) ⟨A', c', rfl, ?_, ?_⟩
  · refine own_lowT ?_ (show w.heap.size ≤ W2.heap.size by omega)
    refine HO.out.same (fun g hg => ?_)
    have := (HO.out.lt g hg).1
    rw [heap_set6 _ _ _ _ _ _ _ _ _ (by omega), Below.heap_setCell _ _ _ _ (by show g ≠ w.heap.size; omega)]
  · exact below_set6 (HB5.out.setCell (by show w.heap.size ≤ w.heap.size; exact Nat.le_refl _) _) (by omega) _ _ _ _ _ _
end Go.Proofs.YtdnnkdldolhbpaaGreatDoor
namespace Go.Proofs.YtdnnkdldolhbpaaGreatDoor
open Go.ChangeShapes Go.WideShapes Go.ChangeAt Go.RowKit Go.Maps

/-- The sums behind the legs. -/
def plusL (f : Nat → Int) (l : List (Nat × Int)) : Nat → Int := fun c => f c + legS c l
def okW (f : Nat → Int) (l : List (Nat × Int)) : Prop := ∀ j, (h : j < l.length) → fitB (plusL f (l.take j) (l[j]).1 + (l[j]).2) = true
theorem plusL_zero (f : Nat → Int) (l : List (Nat × Int)) : plusL f (l.take 0) = f := by
  funext c
  simp [plusL, legS]
theorem plusL_step (f : Nat → Int) {l : List (Nat × Int)} {k : Nat} (h : k < l.length) (c : Nat) : plusL f (l.take (k + 1)) c = if (l[k]).1 = c then plusL f (l.take k) c + (l[k]).2 else plusL f (l.take k) c := by
  unfold plusL
  rw [List.take_succ_eq_append_getElem h, legS_append]
  simp only [legS]
  split <;> omega
theorem vec_set (f g : Nat → Int) {a : Nat} (h : 1 ≤ a ∧ a ≤ 9) (hf : ∀ c, g c = if a = c then g a else f c) : (vec f).setIfInBounds a (.int .i64 (g a)) = vec g := by
  obtain ⟨h1, h2⟩ := h
  have e : ∀ c, c ≠ a → g c = f c := fun c hc => by rw [hf c, if_neg (fun e => hc e.symm)]
  match a, h1, h2, e with
  | 1, _, _, e => simp [vec, e 0, e 2, e 3, e 4, e 5, e 6, e 7, e 8, e 9]
  | 2, _, _, e => simp [vec, e 0, e 1, e 3, e 4, e 5, e 6, e 7, e 8, e 9]
  | 3, _, _, e => simp [vec, e 0, e 1, e 2, e 4, e 5, e 6, e 7, e 8, e 9]
  | 4, _, _, e => simp [vec, e 0, e 1, e 2, e 3, e 5, e 6, e 7, e 8, e 9]
  | 5, _, _, e => simp [vec, e 0, e 1, e 2, e 3, e 4, e 6, e 7, e 8, e 9]
  | 6, _, _, e => simp [vec, e 0, e 1, e 2, e 3, e 4, e 5, e 7, e 8, e 9]
  | 7, _, _, e => simp [vec, e 0, e 1, e 2, e 3, e 4, e 5, e 6, e 8, e 9]
  | 8, _, _, e => simp [vec, e 0, e 1, e 2, e 3, e 4, e 5, e 6, e 7, e 9]
  | 9, _, _, e => simp [vec, e 0, e 1, e 2, e 3, e 4, e 5, e 6, e 7, e 8]
theorem vec_at (f : Nat → Int) {a : Nat} (h : a ≤ 9) : (vec f)[a]? = some (.int .i64 (f a)) := by
  match a, h with
  | 0, _ | 1, _ | 2, _ | 3, _ | 4, _ | 5, _ | 6, _ | 7, _ | 8, _ | 9, _ => rfl
theorem okW_snoc {f : Nat → Int} {l : List (Nat × Int)} {k : Nat} (h : k < l.length) (h1 : okW f (l.take k)) (h2 : fitB (plusL f (l.take k) (l[k]).1 + (l[k]).2) = true) : okW f (l.take (k + 1)) := fun j hj => by
  rw [List.length_take] at hj
  have hj2 : j ≤ k := by omega
  rw [List.take_take, Nat.min_eq_left (by omega), List.getElem_take]
  rcases Nat.lt_or_eq_of_le hj2 with hj3 | rfl
  · have := h1 j (by rw [List.length_take]; omega)
    rw [List.take_take, Nat.min_eq_left (by omega), List.getElem_take] at this
    exact this
  · exact h2
theorem okW_no {f : Nat → Int} {l : List (Nat × Int)} {k : Nat} (h : k < l.length) (h2 : fitB (plusL f (l.take k) (l[k]).1 + (l[k]).2) = false) : ¬ okW f l := fun hh => by
  rw [hh k h] at h2
  cases h2
def WithPost (f : Nat → Int) (l : List (Nat × Int)) (w : World) (e : Ending) (w' : World) : Prop :=
  (okW f l → e = .returned (.tuple #[.agg (vec (plusL f l)), .nilIface])) ∧ (¬ okW f l → e = .returned (.tuple #[.agg (vec (fun _ => 0)), eno14 12])) ∧ Below w.heap.size w w'
def fit9 (f : Nat → Int) : Prop := ∀ c, fitB (f c) = true
theorem set10 {w : World} {g : Nat} {T : TypeId} {f : Nat → Int} (h : Blk w g T (vec f)) (x : Nat → Int) :
    Blk ((((((((((w.setCell ⟨g, 0, none⟩ (.int .i64 (x 0))).setCell ⟨g, 1, none⟩ (.int .i64 (x 1))).setCell ⟨g, 2, none⟩ (.int .i64 (x 2))).setCell ⟨g, 3, none⟩ (.int .i64 (x 3))).setCell ⟨g, 4, none⟩ (.int .i64 (x 4))).setCell ⟨g, 5, none⟩ (.int .i64 (x 5))).setCell ⟨g, 6, none⟩ (.int .i64 (x 6))).setCell ⟨g, 7, none⟩ (.int .i64 (x 7))).setCell ⟨g, 8, none⟩ (.int .i64 (x 8))).setCell ⟨g, 9, none⟩ (.int .i64 (x 9))) g T (vec x) := by
  have := (((((((((h.set_ 0 (.int .i64 (x 0))).set_ 1 (.int .i64 (x 1))).set_ 2 (.int .i64 (x 2))).set_ 3 (.int .i64 (x 3))).set_ 4 (.int .i64 (x 4))).set_ 5 (.int .i64 (x 5))).set_ 6 (.int .i64 (x 6))).set_ 7 (.int .i64 (x 7))).set_ 8 (.int .i64 (x 8))).set_ 9 (.int .i64 (x 9))
  simpa [vec] using this
theorem below_set10 {w w' : World} {B g : Nat} (h : Below B w w') (hg : B ≤ g) (x0 x1 x2 x3 x4 x5 x6 x7 x8 x9 : Value) : Below B w ((((((((((w'.setCell ⟨g, 0, none⟩ x0).setCell ⟨g, 1, none⟩ x1).setCell ⟨g, 2, none⟩ x2).setCell ⟨g, 3, none⟩ x3).setCell ⟨g, 4, none⟩ x4).setCell ⟨g, 5, none⟩ x5).setCell ⟨g, 6, none⟩ x6).setCell ⟨g, 7, none⟩ x7).setCell ⟨g, 8, none⟩ x8).setCell ⟨g, 9, none⟩ x9) :=
  (((((((((h.setCell hg x0).setCell hg x1).setCell hg x2).setCell hg x3).setCell hg x4).setCell hg x5).setCell hg x6).setCell hg x7).setCell hg x8).setCell hg x9
theorem fin_with {Post : Ending → World → Prop} {f : Func} {W : World} {T : Array Value} {g i j : Nat} {x : Nat → Int} {v : Value} (hQ : Blk W g 85 (vec x))
    (hf : f.results = #[.cell i 85, .tmp j]) (h2 : T[i]? = some (.pointer (some ⟨g, 0, none⟩))) (h3 : T[j]? = some v) (hP : Post (.returned (.tuple #[.agg (vec x), v])) W) :
    bodyPost Tryz.prog f Post Exit.ret { tmps := T, defers := [] } W := by
  have c0 := hQ.cell 0
  have c1 := hQ.cell 1
  have c2 := hQ.cell 2
  have c3 := hQ.cell 3
  have c4 := hQ.cell 4
  have c5 := hQ.cell 5
  have c6 := hQ.cell 6
  have c7 := hQ.cell 7
  have c8 := hQ.cell 8
  have c9 := hQ.cell 9
  simp [vec] at c0 c1 c2 c3 c4 c5 c6 c7 c8 c9
  refine bodyPost_ret (v := .tuple #[.agg (vec x), v]) ?_ rfl hP
  unfold vec
  simp [results, hf, go_sem, h2, h3, c0, c1, c2, c3, c4, c5, c6, c7, c8, c9, Result.andThen]
set_option maxRecDepth 100000 in
set_option maxHeartbeats 8000000 in
theorem with_any (f : Nat → Int) (hF : fit9 f) (A : Option Addr) (n c B : Nat) (l : List (Nat × Int)) (w : World) (hR : Rs legT w B A l) (hn : l.length = n) (hm : n ≤ 100000) (hB : B ≤ w.heap.size) (hI : ∀ u ∈ l, LegIn u) (h9 : ∀ u ∈ l, 1 ≤ u.1 ∧ u.1 ≤ 9) :
    Calls Tryz.prog 73 #[.agg (vec f), .slice A n c] w (WithPost f l w) := by
  subst hn
  have HR := Lib.hid hR
  have HI := Lib.hid hI
  have H9 := Lib.hid h9
  have HF := Lib.hid hF
  clear hR hI h9 hF
  obtain ⟨Z, hZ⟩ : ∃ Z : Array Value, Z = vec (fun _ => 0) := ⟨_, rfl⟩
  obtain ⟨X, hX⟩ : ∃ X : Array Value, X = vec f := ⟨_, rfl⟩
  have HQ1 := Lib.hid ((Blk.new w 85 X).alloc (.cells Z 85))
  have HQ2 : Hid (Blk ((w.alloc (.cells X 85)).alloc (.cells Z 85)) (w.heap.size + 1) 85 Z) := Lib.hid (by
    have h := Blk.new (w.alloc (.cells X 85)) 85 Z
    rw [show (w.alloc (.cells X 85)).heap.size = w.heap.size + 1 by simp] at h
    exact h)
  have HB2 := Lib.hid ((b_alloc w (.cells X 85)).alloc (by simp) (.cells Z 85))
  obtain ⟨W2, hW2⟩ : ∃ W, ((w.alloc (.cells X 85)).alloc (.cells Z 85)) = W := ⟨_, rfl⟩
  have hsz := congrArg (fun W : World => W.heap.size) hW2
  simp at hsz
  rw [hW2] at HQ1 HQ2 HB2
  subst hX hZ
  have HW2 := Lib.hid hW2
  clear hW2
  unfold vec at HW2
  unfold vec
  go_enter Tryz.func73, Tryz.ntmps73
  go_upto_region 1 with (fail)
  rw [HW2.out]
  clear HW2
  go_wp2_with fail
  go_loopw [8, 9, 12] (fun _ _ i wr => ∃ (k : Nat), k ≤ l.length ∧ i = .int .i64 k ∧ Hid (okW f (l.take k)) ∧ Hid (Blk wr w.heap.size 85 (vec (plusL f (l.take k)))) ∧ Hid (Blk wr (w.heap.size + 1) 85 (vec (fun _ => 0))) ∧ Hid (fit9 (plusL f (l.take k))) ∧ Hid (Below w.heap.size w wr)) (fun _ _ i _ => l.length - (intOf i).toNat)
  case atStart => exact ⟨0, Nat.zero_le _, rfl, Lib.hid (fun j hj => by simp at hj), Lib.hid (by rw [plusL_zero]; exact HQ1.out), HQ2, Lib.hid (by rw [plusL_zero]; exact HF.out), HB2⟩
  case round =>
    obtain ⟨k, hk, rfl, HOK, HS, HZ, HFT, HBL⟩ := hrel
    by_cases hlt : k < l.length
    · obtain ⟨b1, o1, rfl, hb1, c0, c1⟩ := HR.out.leg hlt
      have d0 := (HBL.out.cell (p := ⟨b1, o1 + k * 2, none⟩) (by exact Nat.lt_of_lt_of_le hb1 hB)).trans c0
      have d1 := (HBL.out.cell (p := ⟨b1, o1 + k * 2 + 1, none⟩) (by exact Nat.lt_of_lt_of_le hb1 hB)).trans c1
      obtain ⟨x0, y0, y1⟩ := HI.out _ (List.getElem_mem hlt)
      have hx9 := H9.out _ (List.getElem_mem hlt)
      have hp := plusL_step f hlt
      have hok := fun h => okW_snoc (f := f) hlt HOK.out h
      have hno := fun h => okW_no (f := f) hlt h
      obtain ⟨x, hx⟩ : ∃ x, (l[k]).1 = x := ⟨_, rfl⟩
      obtain ⟨y, hy⟩ : ∃ y, (l[k]).2 = y := ⟨_, rfl⟩
      rw [hx] at d0 x0 hx9 hok hno
      rw [hy] at d1 y0 y1 hok hno
      simp only [hx, hy] at hp
      obtain ⟨s, hs⟩ : ∃ s, plusL f (l.take k) x = s := ⟨_, rfl⟩
      have hfs := fitB_iff.1 (HFT.out x)
      rw [hs] at hok hno hfs
      have HP := Lib.hid hp
      have HSS := Lib.hid hs
      have HX9 := Lib.hid hx9
      have HQ := Lib.hid (Blk.new wr 53 #[.int .u8 (x : Int), .int .i64 y])
      have HB1 := Lib.hid (HBL.out.alloc HBL.out.size (.cells #[.int .u8 (x : Int), .int .i64 y] 53))
      have HS1 := Lib.hid (HS.out.alloc (.cells #[.int .u8 (x : Int), .int .i64 y] 53))
      have HZ1 := Lib.hid (HZ.out.alloc (.cells #[.int .u8 (x : Int), .int .i64 y] 53))
      have hC := fun W => CoinAdd_any s y hfs ⟨y0, y1⟩ W
      have hx10 : (x : Int) < 10 := by omega
      have hx10' : ¬ (10 : Int) ≤ (x : Int) := by omega
      have HOKs := Lib.hid hok
      have HNOs := Lib.hid hno
      clear hx hy c0 c1 hp hs HS HZ HBL hok hno hx9 hfs
      go_upto_region 4 with (fail)
      obtain ⟨W, hW⟩ : ∃ W, wr.alloc (.cells #[.int .u8 (x : Int), .int .i64 y] 53) = W := ⟨_, rfl⟩
      rw [hW] at HQ HB1 HS1 HZ1 ⊢
      clear hW
      have e0 := HQ.out.cell 0
      have e1 := HQ.out.cell 1
      have es := HS1.out.cell x
      rw [vec_at _ (by omega), HSS.out] at es
      simp at e0 e1
      cases hf : fitB (s + y)
      · have hnf : ¬ Fits (s + y) := fun h => by
          rw [fitB_iff.2 h] at hf
          cases hf
        simp only [if_neg hnf] at hC
        have HN := Lib.hid (HNOs.out hf)
        clear hf hnf
        go_quiet (first | (go_at_call 82; refine Calls.quiet_of_same ((hC _).mono (fun _ _ h => ⟨h.1, h.2⟩))))
        have HZ3 := Lib.hid (HZ1.out.drewN nq)
        have HB3 := Lib.hid (below_drewN HB1.out nq)
        obtain ⟨W3, hW3⟩ : ∃ W3, W.drewN nq = W3 := ⟨_, rfl⟩
        rw [hW3] at HZ3 HB3 ⊢
        clear hW3 HQ HB1 HS1 HZ1 e0 e1 es hC
        have m0 := HZ3.out.cell 0
        have m1 := HZ3.out.cell 1
        have m2 := HZ3.out.cell 2
        have m3 := HZ3.out.cell 3
        have m4 := HZ3.out.cell 4
        have m5 := HZ3.out.cell 5
        have m6 := HZ3.out.cell 6
        have m7 := HZ3.out.cell 7
        have m8 := HZ3.out.cell 8
        have m9 := HZ3.out.cell 9
        have z0 := HZ3.out.frozen 0
        have z1 := HZ3.out.frozen 1
        have z2 := HZ3.out.frozen 2
        have z3 := HZ3.out.frozen 3
        have z4 := HZ3.out.frozen 4
        have z5 := HZ3.out.frozen 5
        have z6 := HZ3.out.frozen 6
        have z7 := HZ3.out.frozen 7
        have z8 := HZ3.out.frozen 8
        have z9 := HZ3.out.frozen 9
        simp [vec] at m0 m1 m2 m3 m4 m5 m6 m7 m8 m9
        go_wp2_with fail
        have hz := set10 HZ3.out (fun _ => 0)
        refine fin_with hz Tryz.results73 (by rfl) (by rfl) ⟨fun h => absurd h HN.out, fun _ => rfl, ?_⟩
        exact below_set10 HB3.out (by omega) _ _ _ _ _ _ _ _ _ _
      · have hfi := fitB_iff.1 hf
        have hnf : Fits (s + y) := hfi
        simp only [if_pos hnf] at hC
        have HOK2 := Lib.hid (HOKs.out hf)
        clear hnf hfi
        go_quiet (first | (go_at_call 82; refine Calls.quiet_of_same ((hC _).mono (fun _ _ h => ⟨h.1, h.2⟩))))
        have HZ3 := Lib.hid (HZ1.out.drewN nq)
        have HS3 := Lib.hid (HS1.out.drewN nq)
        have HQ3 := Lib.hid (HQ.out.drewN nq)
        have HB3 := Lib.hid (below_drewN HB1.out nq)
        obtain ⟨W3, hW3⟩ : ∃ W3, W.drewN nq = W3 := ⟨_, rfl⟩
        rw [hW3] at HZ3 HB3 HS3 HQ3 ⊢
        clear hW3 HQ HB1 HS1 HZ1 e0 e1 es hC
        have e0 := HQ3.out.cell 0
        simp at e0
        have es := HS3.out.cell x
        rw [vec_at _ (by omega), HSS.out] at es
        have fs := HS3.out.frozen x
        go_wp2_with fail
        go_roundw
        case rel =>
          refine ⟨k + 1, by omega, by go_num, HOK2, Lib.hid ?_, Lib.hid (HZ3.out.far (by show w.heap.size + 1 ≠ w.heap.size; omega) _), Lib.hid ?_, Lib.hid (HB3.out.setCell (Nat.le_refl _) _)⟩
          · have h := HS3.out.set_ x (.int .i64 (s + y))
            have e : plusL f (l.take (k + 1)) x = s + y := by rw [HP.out, if_pos rfl, HSS.out]
            rw [← e, vec_set (plusL f (l.take k)) (plusL f (l.take (k + 1))) HX9.out (fun c => by
              rw [HP.out c, HP.out x, if_pos rfl]
              split
              · rename_i hc
                rw [hc]
              · rfl)] at h
            rw [← e]
            exact h
          · intro c
            rw [HP.out c]
            split
            · rename_i hc
              rw [← hc, HSS.out]
              exact hf
            · exact HFT.out c
        case measure => simp [intOf]; omega
    · obtain rfl : k = l.length := by omega
      rw [List.take_length] at HOK HS
      have m0 := HZ.out.cell 0
      have z0 := HZ.out.frozen 0
      have s0 := HS.out.cell 0
      have m1 := HZ.out.cell 1
      have z1 := HZ.out.frozen 1
      have s1 := HS.out.cell 1
      have m2 := HZ.out.cell 2
      have z2 := HZ.out.frozen 2
      have s2 := HS.out.cell 2
      have m3 := HZ.out.cell 3
      have z3 := HZ.out.frozen 3
      have s3 := HS.out.cell 3
      have m4 := HZ.out.cell 4
      have z4 := HZ.out.frozen 4
      have s4 := HS.out.cell 4
      have m5 := HZ.out.cell 5
      have z5 := HZ.out.frozen 5
      have s5 := HS.out.cell 5
      have m6 := HZ.out.cell 6
      have z6 := HZ.out.frozen 6
      have s6 := HS.out.cell 6
      have m7 := HZ.out.cell 7
      have z7 := HZ.out.frozen 7
      have s7 := HS.out.cell 7
      have m8 := HZ.out.cell 8
      have z8 := HZ.out.frozen 8
      have s8 := HS.out.cell 8
      have m9 := HZ.out.cell 9
      have z9 := HZ.out.frozen 9
      have s9 := HS.out.cell 9
      simp [vec] at m0 m1 m2 m3 m4 m5 m6 m7 m8 m9 s0 s1 s2 s3 s4 s5 s6 s7 s8 s9
      go_wp2_with fail
      have hz := set10 HZ.out (plusL f l)
      refine fin_with hz Tryz.results73 (by rfl) (by rfl) ⟨fun _ => rfl, fun h => absurd HOK.out h, ?_⟩
      exact below_set10 HBL.out (by omega) _ _ _ _ _ _ _ _ _ _
end Go.Proofs.YtdnnkdldolhbpaaGreatDoor
