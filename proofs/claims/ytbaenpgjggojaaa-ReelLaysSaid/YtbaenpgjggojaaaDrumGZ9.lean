/-
drum.Read: the sector's bytes, in a new row. Conditions: the drum is known whole, the sector is there.
A write as cells: made, laid, read whole. No condition.
-/
import Derived.Test.YtbaenpgjggojaaaDrumEZ9
import Derived.Test.YtbaenpgjggojaaaSeamCZ9
import Derived.Deep.MidRow
import Derived.Deep.WholeRow
namespace Go.Proofs.Ytbaenpgjggojaaa
open Go.RowKit

theorem makeB256 (u : World) :
    (Instr.makeSlice 35 (.int .i64 256) (.int .i64 256)).run Try.prog u = .ok (.slice (some ⟨u.heap.size, 0, none⟩) 256 256) (u.alloc (.cells (madeCells #[.int .u8 0] 256) 5)) := by
  have h := makeB 248 (by decide) u
  exact h

section
variable {w w' : World} {base d f g : Nat} {V : Option Addr} {cv : Nat} {T : Tails} {fl : List (List UInt8)} {ws : List (Nat × List UInt8)} {ls : List Nat} {left : Int}

theorem Dru.below (h : Dru w base d f g V cv T fl ws ls left) (hb : Below w.heap.size w w') : Dru w' base d f g V cv T fl ws ls left where
  head := h.head.below hb h.head.lt
  rows := h.rows.below hb h.rows.lt
  last := h.last.below hb h.last.lt
  row := h.row.kept (grown_of_below hb none) (by cases (Value.slice V ws.length cv).ownBlock <;> simp)
  far := h.far
  len := h.len
  full := h.full
  fullW := h.fullW
  le := h.le
  few := h.few
  fewW := h.fewW
theorem Dru.vlt (h : Dru w base d f g V cv T fl ws ls left) : ∀ a, V = some a → a.block < w.heap.size := by
  intro a e
  subst e
  rcases h.row.2 with ⟨hv, _⟩ | ⟨k, cap, cur, hv, _, hg, _⟩
  · injection hv with hv _ _; cases hv
  · injection hv with hv _ _
    injection hv with hv
    subst hv
    exact (Array.getElem?_eq_some_iff.1 hg).1
theorem Dru.now_len (h : Dru w base d f g V cv T fl ws ls left) (i : Nat) (hi : i < fl.length) : (nowOf fl ws ls i).length = 256 := by
  have hil : i < ls.length := by rw [h.len]; exact hi
  have e : ls.getD i 0 = ls[i] := by rw [List.getD_eq_getElem?_getD, List.getElem?_eq_getElem hil]; rfl
  have hle := h.le _ (List.getElem_mem hil)
  unfold nowOf
  rw [e]
  generalize ls[i] = q at hle
  rcases q with _ | k
  · show (fl.getD i []).length = 256
    rw [List.getD_eq_getElem?_getD, List.getElem?_eq_getElem hi]
    exact h.full _ (List.getElem_mem hi)
  · show (ws.getD k (0, [])).2.length = 256
    rw [List.getD_eq_getElem?_getD, List.getElem?_eq_getElem hle]
    exact h.fullW _ (List.getElem_mem hle)

set_option maxHeartbeats 800000 in
theorem Read_any (i : Nat) (h : Dru w base d f g V cv T fl ws ls left) (hi : i < fl.length) :
    Calls Try.prog 14 #[.pointer (some ⟨d, 0, none⟩), .int .i64 (i : Int)] w fun e w' =>
      e = .returned (.tuple #[.slice (some ⟨w.heap.size, 0, none⟩) 256 256, .nilIface]) ∧ Blk w' w.heap.size 5 ((nowOf fl ws ls i).map enc8).toArray ∧ Below w.heap.size w w' := by
  have hmk := makeB256
  go_enter Try.func14, Try.ntmps14
  go_wp2_with fail
  refine (has_any (i : Int) h.head).mono ?_
  rintro e w1 ⟨rfl, rfl⟩
  rw [decide_eq_true (show (0 : Int) ≤ (i : Int) ∧ (i : Int) < (fl.length : Int) by omega)]
  go_wp2_with fail
  have hbw : Below w1.heap.size w1 (w1.alloc (.cells (madeCells #[.int .u8 0] 256) 5)) := (Below.refl _ w1).alloc (Nat.le_refl _) _
  have h1 := h.below hbw
  refine (seen_any i h1 hi).mono ?_
  rintro e w2 ⟨⟨b, o, rfl, hr⟩, rfl⟩
  have hXl := h1.now_len i hi
  have hb0 : Blk (w1.alloc (.cells (madeCells #[.int .u8 0] 256) 5)) w1.heap.size 5 (madeCells #[.int .u8 0] 256) := Blk.new w1 _ _
  obtain ⟨cur, hcur⟩ : ∃ cur : List Value, cur.toArray = madeCells #[.int .u8 0] 256 := ⟨_, Array.toArray_toList⟩
  have hcl : cur.length = 256 := by
    have := congrArg Array.size hcur
    rw [size_madeCells] at this
    simpa using this
  obtain ⟨l, hl⟩ : ∃ l, l = nowOf fl ws ls i := ⟨_, rfl⟩
  rw [← hl] at hr hXl
  have HLN := Lib.hid hl
  rw [← hcur] at hb0 hbw hr ⊢
  obtain ⟨X, hX⟩ : ∃ X, X = l.map enc8 := ⟨_, rfl⟩
  have hlr : 0 < X.length → ∀ (j : Nat) v, X[j]? = some v → (w1.alloc (.cells cur.toArray 5)).cell? ⟨b, o + j, none⟩ = some v := by
    intro h0 j v hv
    obtain ⟨ad, had, hc⟩ := list_rd hr (by rw [← hX]; exact h0)
    injection had with had
    subst had
    simpa [go_sem] using hc j v (by rw [← hX]; exact hv)
  have HLR := Lib.hid hlr
  have HX := Lib.hid hX
  have HXL : Hid (X.length = 256) := Lib.hid (by rw [hX, List.length_map]; exact hXl)
  have HX1 : Hid (∀ u ∈ X, u.oneCell' = true) := Lib.hid (by rw [hX]; exact enc8_one l)
  have HB1 := Lib.hid (show (w1.alloc (.cells cur.toArray 5)).heap[w1.heap.size]? = some (.cells cur.toArray 5 (0, 0)) from hb0)
  have HL := Lib.hid hcl
  have HBW := Lib.hid hbw
  clear hmk hcur hlr hr hX hb0 hcl hXl h h1 hbw hl
  go_wp2_with (with_reducible refine wpList_copy_splice (o := ⟨some 24, _, _, _, _, _⟩) rfl (.tmp 18) (.tmp 23) 35 35 rfl 5 Try.underlying35 sizeB (some ⟨w1.heap.size, 0, none⟩) (some ⟨b, o, none⟩) 256 256 256 256 ?ha ?hb w1.heap.size 0 cur 5 HB1.out X ?hc ?hd ?he HX1.out w1.heap.size w1 HBW.out (Nat.le_refl _) ?_)
  case ha => rfl
  case hb => rfl
  case hc => rw [HXL.out]; rfl
  case hd => exact HLR.out
  case he => rw [HXL.out, HL.out]; omega
  intro w2 hb2 hbw2
  go_wp2
  go_ret2
  refine ⟨rfl, ?_, hbw2⟩
  have e : splice cur 0 X = l.map enc8 := by
    unfold splice
    rw [List.take_zero, List.nil_append, List.drop_of_length_le (by rw [HL.out, HXL.out]; decide), List.append_nil, HX.out]
  have h2 := hb2.out
  rw [e, HLN.out] at h2
  exact h2
end
end Go.Proofs.Ytbaenpgjggojaaa
namespace Go.Proofs.Ytbaenpgjggojaaa
open Go.RowKit

/-- A write of noughts to the sector i. -/
def wz (i : Int) : Array Value := (.int .i64 i :: List.replicate 256 (.int .u8 0)).toArray
theorem wz_size (i : Int) : (wz i).size = 257 := by
  unfold wz
  rw [List.size_toArray, List.length_cons, List.length_replicate]
theorem wz_one (i : Int) : (wz i).all (·.oneCell') = true := by
  rw [Array.all_eq_true_iff_forall_mem]
  intro u hu
  simp only [wz, List.mem_toArray, List.mem_cons, List.mem_replicate] at hu
  rcases hu with rfl | ⟨_, rfl⟩ <;> rfl
theorem infoW : (Try.prog.info? 89).map (fun i => (i.zero, i.size, i.bytes)) = some (some (.agg (wz 0)), 257, 264) := by kernel_rfl
theorem builtW (i : Int) : Try.prog.built 89 [(0, .int .i64 i)] = some (wz i) := by kernel_rfl
theorem buildW (i : Int) (u : World) : (Instr.build 89 #[(0, .int .i64 i)]).run Try.prog u = .ok (.agg (wz i)) u := run_build u _ _ _ (builtW i)
theorem allocW (u : World) : (Instr.alloc 89 true (.tuple #[])).run Try.prog u = .ok (.pointer (some ⟨u.heap.size, 0, none⟩)) (u.alloc (.cells (wz 0) 89)) := by
  obtain ⟨i0, hi, hz0, hz1, hz2⟩ := info_parts infoW
  have hz : (zeroValue 89).run Try.prog u = .ok (.agg (wz 0)) u := by simp [zeroValue, typeInfo, hi, hz0, go_sem]
  simp [Instr.alloc, hz, go_sem]
theorem storeW (b : Nat) (cells : Array Value) (old : Array Value) (u : World) (hg : u.heap[b]? = some (.cells old 89 (0, 0))) (hc : cells.size = 257) (ho : old.size = 257) (h1 : cells.all (·.oneCell') = true) :
    (Instr.storeAt 89 (.pointer (some ⟨b, 0, none⟩)) (.agg cells)).run Try.prog u = .ok () (u.setRow b cells) := by
  have hi : (Try.prog.info? 89).map (·.size) = some cells.size := by
    obtain ⟨i0, hi, hz0, hz1, hz2⟩ := info_parts infoW
    rw [hi, hc, Option.map_some, hz1]
  simp only [Instr.storeAt, Instr.sureAddr, Sem.run_bind, Sem.run_pure, Result.andThen_ok, run_storeVar_row u b 89 89 old cells hg hi (by omega) h1]
theorem isRowW : ∃ ds, Try.prog.underlying 89 = some ds ∧ ds.isRow = true := ⟨_, Try.underlying89, rfl⟩
theorem loadV (b : Nat) (cs : List Value) (hl : cs.length = 257) (u : World) (hc : u.rangeAt b 0 cs) :
    (loadVar 89 ⟨b, 0, none⟩).run Try.prog u = .ok (.agg cs.toArray) u := by
  obtain ⟨ds, hu, hd⟩ := isRowW
  refine run_loadVar_mid u b 0 89 cs ds hc hu hd ?_
  obtain ⟨i0, hi, hz0, hz1, hz2⟩ := info_parts infoW
  rw [hi, hl, Option.map_some, hz1]
theorem zeroW (u : World) : (zeroValue 89).run Try.prog u = .ok (.agg (wz 0)) u := by
  obtain ⟨i0, hi, hz0, hz1, hz2⟩ := info_parts infoW
  simp [zeroValue, typeInfo, hi, hz0, go_sem]
theorem wz_some : ¬ wz 0 = #[] := fun h => by
  have := congrArg Array.size h
  unfold wz at this
  rw [List.size_toArray, List.length_cons, List.length_replicate] at this
  cases this
theorem loadW (b : Nat) (cs : List Value) (hl : cs.length = 257) (u : World) (hc : u.rangeAt b 0 cs) :
    (Instr.loadAt 89 (.pointer (some ⟨b, 0, none⟩))).run Try.prog u = .ok (.agg cs.toArray) u := by
  obtain ⟨ds, hu, hd⟩ := isRowW
  refine run_loadAt_mid u b 0 89 cs ds hc hu hd ?_
  obtain ⟨i0, hi, hz0, hz1, hz2⟩ := info_parts infoW
  rw [hi, hl, Option.map_some, hz1]

theorem yieldsIf_loadW {ops : Array Oper} {S : World → Prop} {op : Oper} {a : Act} (hw : Region.wanted op (yielded ops a.tmps) = true) (x : Operand) (ho : op.op = .load 89 x)
    (b : Nat) (cs : List Value) (hl : cs.length = 257) (hx : a.eval x = .pointer (some ⟨b, 0, none⟩)) (hS : ∀ w, S w → w.rangeAt b 0 cs) : YieldsIf Try.prog ops S op (.agg cs.toArray) a := by
  obtain ⟨ds, hu, hd⟩ := isRowW
  refine yieldsIf_load_mid hw 89 x ho b 0 hx cs ds hS hu hd ?_
  obtain ⟨i0, hi, hz0, hz1, hz2⟩ := info_parts infoW
  rw [hi, hl, Option.map_some, hz1]

section
variable {ops : Array Oper} {rest : List Oper} {o : Oper} {a : Act} {w : World} {Q : Exit → Act → World → Prop}
theorem wpl_build (hg : o.guard = none) (x : Operand) (ho : o.op = .build 89 #[(0, x)]) (i : Int) (hx : a.eval x = .int .i64 i) (h : wpList Try.prog ops Q rest (a.put o.dst (.agg (wz i))) w) :
    wpList Try.prog ops Q (o :: rest) a w := by
  have e : (Try.prog.built 89 ((#[(0, x)] : Array (Nat × Operand)).map fun (i, x) => (i, a.eval x)).toList) = some (wz i) := by
    simp only [List.map_toArray, List.map_cons, List.map_nil, hx]
    exact builtW i
  refine wpList_build hg 89 #[(0, x)] ho ?_ ?_
  · rw [e]; rfl
  · rw [e]; exact h
theorem wpl_alloc (hg : o.guard = none) (ho : o.op = .alloc 89) (h : wpList Try.prog ops Q rest (a.put o.dst (.pointer (some ⟨w.heap.size, 0, none⟩))) (w.alloc (.cells (wz 0) 89))) :
    wpList Try.prog ops Q (o :: rest) a w :=
  wpList_plain hg fun K hK => by
    unfold Oper.wp execOp
    simp only [ho, Sem.run_bind, allocW, Result.andThen_ok]
    exact hK _ _ h
theorem wpl_store (hg : o.guard = none) (x y : Operand) (ho : o.op = .store 89 x y) (i : Int) (hx : a.eval x = .pointer (some ⟨w.heap.size, 0, none⟩)) (hy : a.eval y = .agg (wz i)) (h : wpList Try.prog ops Q rest (a.put o.dst undef) (w.alloc (.cells (wz i) 89))) :
    wpList Try.prog ops Q (o :: rest) a (w.alloc (.cells (wz 0) 89)) := by
  have hi : (Try.prog.info? 89).map (·.size) = some (wz i).size := by
    obtain ⟨i0, hi, hz0, hz1, hz2⟩ := info_parts infoW
    rw [hi, wz_size, Option.map_some, hz1]
  refine wpList_store_row hg 89 x y ho w.heap.size (wz i) hx hy 89 (wz 0) (heap_alloc_last _ _) hi (by rw [wz_size, wz_size]) (wz_one i) ?_
  rw [World.setRow_alloc_new]
  exact h
end
end Go.Proofs.Ytbaenpgjggojaaa
