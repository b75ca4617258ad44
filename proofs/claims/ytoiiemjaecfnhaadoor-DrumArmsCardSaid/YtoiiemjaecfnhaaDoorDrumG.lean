/-
  A write as cells: made, laid, read whole. No condition.
-/
import Derived.Test.YtoiiemjaecfnhaaDoorDrumF
import Derived.Deep.MidRow
import Derived.Deep.WholeRow
namespace Go.Proofs.YtoiiemjaecfnhaaDoor
open Go.RowKit

/-- A write of noughts to the sector i. -/
def wz (i : Int) : Array Value := (.int .i64 i :: List.replicate 256 (.int .u8 0)).toArray
theorem wz_size (i : Int) : (wz i).size = 257 := by
  unfold wz
  rw [List.size_toArray, List.length_cons, List.length_replicate]
theorem wz_one (i : Int) : (wz i).all (·.oneCell') = true := by
  rw [Array.all_eq_true_iff_forall_mem]
  intro u hu
  simp only [wz, List.mem_toArray, List.mem_cons, List.mem_replicate] at hu
  rcases hu with rfl | ⟨_, rfl⟩ <;> rfl
theorem infoW : (Tryd.prog.info? 82).map (fun i => (i.zero, i.size, i.bytes)) = some (some (.agg (wz 0)), 257, 264) := by kernel_rfl
theorem builtW (i : Int) : Tryd.prog.built 82 [(0, .int .i64 i)] = some (wz i) := by kernel_rfl
theorem buildW (i : Int) (u : World) : (Instr.build 82 #[(0, .int .i64 i)]).run Tryd.prog u = .ok (.agg (wz i)) u := run_build u _ _ _ (builtW i)
theorem allocW (u : World) : (Instr.alloc 82 true (.tuple #[])).run Tryd.prog u = .ok (.pointer (some ⟨u.heap.size, 0, none⟩)) (u.alloc (.cells (wz 0) 82)) := by
  obtain ⟨i0, hi, hz0, hz1, hz2⟩ := info_parts infoW
  have hz : (zeroValue 82).run Tryd.prog u = .ok (.agg (wz 0)) u := by simp [zeroValue, typeInfo, hi, hz0, go_sem]
  simp [Instr.alloc, hz, go_sem]
theorem storeW (b : Nat) (cells : Array Value) (old : Array Value) (u : World) (hg : u.heap[b]? = some (.cells old 82 (0, 0))) (hc : cells.size = 257) (ho : old.size = 257) (h1 : cells.all (·.oneCell') = true) :
    (Instr.storeAt 82 (.pointer (some ⟨b, 0, none⟩)) (.agg cells)).run Tryd.prog u = .ok () (u.setRow b cells) := by
  have hi : (Tryd.prog.info? 82).map (·.size) = some cells.size := by
    obtain ⟨i0, hi, hz0, hz1, hz2⟩ := info_parts infoW
    rw [hi, hc, Option.map_some, hz1]
  simp only [Instr.storeAt, Instr.sureAddr, Sem.run_bind, Sem.run_pure, Result.andThen_ok, run_storeVar_row u b 82 82 old cells hg hi (by omega) h1]
theorem isRowW : ∃ ds, Tryd.prog.underlying 82 = some ds ∧ ds.isRow = true := ⟨_, Tryd.underlying82, rfl⟩
theorem loadV (b : Nat) (cs : List Value) (hl : cs.length = 257) (u : World) (hc : u.rangeAt b 0 cs) :
    (loadVar 82 ⟨b, 0, none⟩).run Tryd.prog u = .ok (.agg cs.toArray) u := by
  obtain ⟨ds, hu, hd⟩ := isRowW
  refine run_loadVar_mid u b 0 82 cs ds hc hu hd ?_
  obtain ⟨i0, hi, hz0, hz1, hz2⟩ := info_parts infoW
  rw [hi, hl, Option.map_some, hz1]
theorem zeroW (u : World) : (zeroValue 82).run Tryd.prog u = .ok (.agg (wz 0)) u := by
  obtain ⟨i0, hi, hz0, hz1, hz2⟩ := info_parts infoW
  simp [zeroValue, typeInfo, hi, hz0, go_sem]
theorem wz_some : ¬ wz 0 = #[] := fun h => by
  have := congrArg Array.size h
  unfold wz at this
  rw [List.size_toArray, List.length_cons, List.length_replicate] at this
  cases this
theorem loadW (b : Nat) (cs : List Value) (hl : cs.length = 257) (u : World) (hc : u.rangeAt b 0 cs) :
    (Instr.loadAt 82 (.pointer (some ⟨b, 0, none⟩))).run Tryd.prog u = .ok (.agg cs.toArray) u := by
  obtain ⟨ds, hu, hd⟩ := isRowW
  refine run_loadAt_mid u b 0 82 cs ds hc hu hd ?_
  obtain ⟨i0, hi, hz0, hz1, hz2⟩ := info_parts infoW
  rw [hi, hl, Option.map_some, hz1]

theorem yieldsIf_loadW {ops : Array Oper} {S : World → Prop} {op : Oper} {a : Act} (hw : Region.wanted op (yielded ops a.tmps) = true) (x : Operand) (ho : op.op = .load 82 x)
    (b : Nat) (cs : List Value) (hl : cs.length = 257) (hx : a.eval x = .pointer (some ⟨b, 0, none⟩)) (hS : ∀ w, S w → w.rangeAt b 0 cs) : YieldsIf Tryd.prog ops S op (.agg cs.toArray) a := by
  obtain ⟨ds, hu, hd⟩ := isRowW
  refine yieldsIf_load_mid hw 82 x ho b 0 hx cs ds hS hu hd ?_
  obtain ⟨i0, hi, hz0, hz1, hz2⟩ := info_parts infoW
  rw [hi, hl, Option.map_some, hz1]

section
variable {ops : Array Oper} {rest : List Oper} {o : Oper} {a : Act} {w : World} {Q : Exit → Act → World → Prop}
theorem wpl_build (hg : o.guard = none) (x : Operand) (ho : o.op = .build 82 #[(0, x)]) (i : Int) (hx : a.eval x = .int .i64 i) (h : wpList Tryd.prog ops Q rest (a.put o.dst (.agg (wz i))) w) :
    wpList Tryd.prog ops Q (o :: rest) a w := by
  have e : (Tryd.prog.built 82 ((#[(0, x)] : Array (Nat × Operand)).map fun (i, x) => (i, a.eval x)).toList) = some (wz i) := by
    simp only [List.map_toArray, List.map_cons, List.map_nil, hx]
    exact builtW i
  refine wpList_build hg 82 #[(0, x)] ho ?_ ?_
  · rw [e]; rfl
  · rw [e]; exact h
theorem wpl_alloc (hg : o.guard = none) (ho : o.op = .alloc 82) (h : wpList Tryd.prog ops Q rest (a.put o.dst (.pointer (some ⟨w.heap.size, 0, none⟩))) (w.alloc (.cells (wz 0) 82))) :
    wpList Tryd.prog ops Q (o :: rest) a w :=
  wpList_plain hg fun K hK => by
    unfold Oper.wp execOp
    simp only [ho, Sem.run_bind, allocW, Result.andThen_ok]
    exact hK _ _ h
theorem wpl_store (hg : o.guard = none) (x y : Operand) (ho : o.op = .store 82 x y) (i : Int) (hx : a.eval x = .pointer (some ⟨w.heap.size, 0, none⟩)) (hy : a.eval y = .agg (wz i)) (h : wpList Tryd.prog ops Q rest (a.put o.dst undef) (w.alloc (.cells (wz i) 82))) :
    wpList Tryd.prog ops Q (o :: rest) a (w.alloc (.cells (wz 0) 82)) := by
  have hi : (Tryd.prog.info? 82).map (·.size) = some (wz i).size := by
    obtain ⟨i0, hi, hz0, hz1, hz2⟩ := info_parts infoW
    rw [hi, wz_size, Option.map_some, hz1]
  refine wpList_store_row hg 82 x y ho w.heap.size (wz i) hx hy 82 (wz 0) (heap_alloc_last _ _) hi (by rw [wz_size, wz_size]) (wz_one i) ?_
  rw [World.setRow_alloc_new]
  exact h
end
end Go.Proofs.YtoiiemjaecfnhaaDoor
