/-
  The ledger's errors; own; with. Conditions: the rows are there.
-/
import Derived.Test.YtabiaeicejgeiaaGreatDoorLedC
import Derived.Test.YtabiaeicejgeiaaGreatDoorCodeF
import Derived.Test.YtabiaeicejgeiaaGreatDoorTurC
namespace Go.Proofs.YtabiaeicejgeiaaGreatDoor
open Go.ChangeShapes Go.WideShapes Go.ChangeAt Go.RowKit Go.Maps

def eno14 (n : Int) : Value := .iface 59 (.int .i64 n)
/-- A Fault of that number, at a block that is there. -/
def FaultIs (w : World) (B : Nat) (v : Value) (a n : Int) : Prop := ∃ N, v = .iface 119 (.pointer (some ⟨N, 0, none⟩)) ∧ B ≤ N ∧ Blk w N 122 #[.int .u64 a, eno14 n]
theorem FaultIs.below {w w' : World} {B : Nat} {v : Value} {a n : Int} (h : FaultIs w B v a n) (hb : Below w.heap.size w w') : FaultIs w' B v a n := by
  obtain ⟨N, h1, h2, h3⟩ := h
  exact ⟨N, h1, h2, h3.below hb h3.lt⟩
def FaultPost (a n : Int) (w : World) (e : Ending) (w' : World) : Prop := ∃ v, e = .returned v ∧ FaultIs w' w.heap.size v a n ∧ Below w.heap.size w w'
set_option maxRecDepth 100000 in
set_option maxHeartbeats 2000000 in
theorem fault_any (y : Ky) (hy : y.a < 4294967296) (n : Int) (w : World) : Calls Tryz.prog 40 #[y.v, eno14 n] w (FaultPost (y.a : Int) n w) := by
  unfold Ky.v eno14
  have hw : IntKind.u64.wrap (y.a : Int) = (y.a : Int) := by rw [IntKind.wrap_u64]; omega
  go_enter Tryz.func40, Tryz.ntmps40
  go_wp2
  go_ret
  refine ⟨_, rfl, ⟨w.heap.size + 1, rfl, by omega, ?_⟩, (b_alloc _ _).alloc (by simp) _⟩
  have h := Blk.new (w.alloc (.cells #[.int .u32 (y.a : Int), .int .i32 y.d, .int .u8 (y.k : Int), .int .u32 (y.s : Int)] 33)) 122 #[.int .u64 (y.a : Int), eno14 n]
  rw [show (w.alloc (.cells #[.int .u32 (y.a : Int), .int .i32 y.d, .int .u8 (y.k : Int), .int .u32 (y.s : Int)] 33)).heap.size = w.heap.size + 1 by simp] at h
  exact h
theorem set6c {w : World} {g : Nat} {T : TypeId} {a b c d e f : Value} (h : Blk w g T #[a, b, c, d, e, f]) (x0 x1 x2 x3 x4 x5 : Value) :
    Blk ((((((w.setCell ⟨g, 0, none⟩ x0).setCell ⟨g, 1, none⟩ x1).setCell ⟨g, 2, none⟩ x2).setCell ⟨g, 3, none⟩ x3).setCell ⟨g, 4, none⟩ x4).setCell ⟨g, 5, none⟩ x5) g T #[x0, x1, x2, x3, x4, x5] := by
  have := (((((h.set_ 0 x0).set_ 1 x1).set_ 2 x2).set_ 3 x3).set_ 4 x4).set_ 5 x5
  simpa using this
theorem heap_set6 (w : World) (g : Nat) (x0 x1 x2 x3 x4 x5 : Value) (k : Nat) (hk : k ≠ g) : ((((((w.setCell ⟨g, 0, none⟩ x0).setCell ⟨g, 1, none⟩ x1).setCell ⟨g, 2, none⟩ x2).setCell ⟨g, 3, none⟩ x3).setCell ⟨g, 4, none⟩ x4).setCell ⟨g, 5, none⟩ x5).heap[k]? = w.heap[k]? := by
  rw [Below.heap_setCell _ _ _ _ hk, Below.heap_setCell _ _ _ _ hk, Below.heap_setCell _ _ _ _ hk, Below.heap_setCell _ _ _ _ hk, Below.heap_setCell _ _ _ _ hk, Below.heap_setCell _ _ _ _ hk]
theorem below_set6 {w w' : World} {B g : Nat} (h : Below B w w') (hg : B ≤ g) (x0 x1 x2 x3 x4 x5 : Value) : Below B w ((((((w'.setCell ⟨g, 0, none⟩ x0).setCell ⟨g, 1, none⟩ x1).setCell ⟨g, 2, none⟩ x2).setCell ⟨g, 3, none⟩ x3).setCell ⟨g, 4, none⟩ x4).setCell ⟨g, 5, none⟩ x5) :=
  (((((h.setCell hg x0).setCell hg x1).setCell hg x2).setCell hg x3).setCell hg x4).setCell hg x5
/-- A line, as a value. -/
def linW (y : Ky) (v : Value) (o : Nat) : Value := .agg #[.int .u32 (y.a : Int), .int .i32 y.d, .int .u8 (y.k : Int), .int .u32 (y.s : Int), v, .int .i64 (o : Int)]
def OwnPost14 (y : Ky) (l : List (Nat × Int)) (o : Nat) (w : World) (e : Ending) (w' : World) : Prop :=
  ∃ (A : Option Addr) (c : Nat), e = .returned (linW y (.slice A l.length c) o) ∧ OwnS legT 53 w' w.heap.size (.slice A l.length c) l.length l ∧ Below w.heap.size w w'
theorem fin_lin {Post : Ending → World → Prop} {f : Func} {W : World} {T : Array Value} {g i : Nat} {y : Ky} {v : Value} {o : Nat} (hQ : Blk W g 42 #[.int .u32 (y.a : Int), .int .i32 y.d, .int .u8 (y.k : Int), .int .u32 (y.s : Int), v, .int .i64 (o : Int)])
    (hf : f.results = #[.cell i 42]) (h2 : T[i]? = some (.pointer (some ⟨g, 0, none⟩))) (hP : Post (.returned (linW y v o)) W) :
    bodyPost Tryz.prog f Post Exit.ret { tmps := T, defers := [] } W := by
  have c0 := hQ.cell 0
  have c1 := hQ.cell 1
  have c2 := hQ.cell 2
  have c3 := hQ.cell 3
  have c4 := hQ.cell 4
  have c5 := hQ.cell 5
  simp at c0 c1 c2 c3 c4 c5
  refine bodyPost_ret (v := linW y v o) ?_ rfl hP
  unfold linW
  simp [results, hf, go_sem, h2, c0, c1, c2, c3, c4, c5, Result.andThen]
set_option maxRecDepth 100000 in
set_option maxHeartbeats 4000000 in
theorem own_any14 (y : Ky) (A : Option Addr) (n c o B : Nat) (l : List (Nat × Int)) (w : World) (hR : Rs legT w B A l) (hn : l.length = n) (h1 : 1 ≤ n) (hm : n ≤ 100000) (hB : B ≤ w.heap.size) :
    Calls Tryz.prog 30 #[linW y (.slice A n c) o] w (OwnPost14 y l o w) := by
  obtain ⟨b0, o0, rfl, -⟩ := hR.leg (k := 0) (by omega)
  obtain ⟨Z, hZ⟩ : ∃ Z : Array Value, Z = #[.int .u32 0, .int .i32 0, .int .u8 0, .int .u32 0, .slice none 0 0, .int .i64 0] := ⟨_, rfl⟩
  obtain ⟨X, hX⟩ : ∃ X : Array Value, X = #[.int .u32 (y.a : Int), .int .i32 y.d, .int .u8 (y.k : Int), .int .u32 (y.s : Int), .slice (some ⟨b0, o0, none⟩) n c, .int .i64 (o : Int)] := ⟨_, rfl⟩
  have HQ1 := Lib.hid ((Blk.new w 42 X).alloc (.cells Z 42))
  have HQ2 : Hid (Blk ((w.alloc (.cells X 42)).alloc (.cells Z 42)) (w.heap.size + 1) 42 Z) := Lib.hid (by
    have h := Blk.new (w.alloc (.cells X 42)) 42 Z
    rw [show (w.alloc (.cells X 42)).heap.size = w.heap.size + 1 by simp] at h
    exact h)
  have HB2 := Lib.hid ((b_alloc w (.cells X 42)).alloc (by simp) (.cells Z 42))
  have HR2 := Lib.hid (hR.below (HB2.out.mono hB))
  obtain ⟨W2, hW2⟩ : ∃ W, ((w.alloc (.cells X 42)).alloc (.cells Z 42)) = W := ⟨_, rfl⟩
  rw [hW2] at HQ1 HQ2 HB2 HR2
  have hC := Clone13_any b0 o0 n c B l W2 HR2.out hn hm (Nat.le_trans hB HB2.out.size)
  subst hX hZ
  have HW2 := Lib.hid hW2
  have HW2s := Lib.hid hW2
  have HN := Lib.hid hn
  clear hW2 hR hn
  unfold linW
  go_enter Tryz.func30, Tryz.ntmps30
  go_upto_region 1 with (fail)
  rw [HW2.out]
  have n0 := HQ1.out.cell 0
  have n1 := HQ1.out.cell 1
  have n2 := HQ1.out.cell 2
  have n3 := HQ1.out.cell 3
  have n4 := HQ1.out.cell 4
  have n5 := HQ1.out.cell 5
  simp at n0 n1 n2 n3 n4 n5
  go_wp2_with fail
  refine hC.mono ?_
  rintro e W ⟨A', c', rfl, hc1, hc2, hO, hb⟩
  have HB5 := Lib.hid (HB2.out.trans (hb.mono HB2.out.size))
  have HQ5 := Lib.hid (HQ1.out.below hb HQ1.out.lt)
  have HZE := Lib.hid (HQ2.out.below hb HQ2.out.lt)
  clear hb n0 n1 n2 n3 n4 n5 HW2 HQ1 HQ2 HR2 hC
  have m0 := HQ5.out.cell 0
  have m1 := HQ5.out.cell 1
  have m2 := HQ5.out.cell 2
  have m3 := HQ5.out.cell 3
  have m4 := HQ5.out.cell 4
  have m5 := HQ5.out.cell 5
  have z4 := HQ5.out.frozen 4
  have p0 := HZE.out.cell 0
  have p1 := HZE.out.cell 1
  have p2 := HZE.out.cell 2
  have p3 := HZE.out.cell 3
  have p4 := HZE.out.cell 4
  have p5 := HZE.out.cell 5
  have f0 := HZE.out.frozen 0
  have f1 := HZE.out.frozen 1
  have f2 := HZE.out.frozen 2
  have f3 := HZE.out.frozen 3
  have f4 := HZE.out.frozen 4
  have f5 := HZE.out.frozen 5
  simp at m0 m1 m2 m3 m4 m5 p0 p1 p2 p3 p4 p5
  have HO := Lib.hid hO
  clear hO
  have hsz := congrArg (fun W : World => W.heap.size) HW2s.out
  simp at hsz
  go_wp2_with fail
  have hz := (HZE.out.far (p := ⟨w.heap.size, 4, none⟩) (by show w.heap.size + 1 ≠ w.heap.size; omega) (.slice A' l.length c'))
  have hz6 := set6c hz (.int .u32 (y.a : Int)) (.int .i32 y.d) (.int .u8 (y.k : Int)) (.int .u32 (y.s : Int)) (.slice A' l.length c') (.int .i64 (o : Int))
  refine fin_lin hz6 Tryz.results30 (by rfl) ⟨A', c', rfl, ?_, ?_⟩
  · refine own_lowT ?_ (show w.heap.size ≤ W2.heap.size by omega)
    refine HO.out.same (fun g hg => ?_)
    have := (HO.out.lt g hg).1
    rw [heap_set6 _ _ _ _ _ _ _ _ _ (by omega), Below.heap_setCell _ _ _ _ (by show g ≠ w.heap.size; omega)]
  · exact below_set6 (HB5.out.setCell (by show w.heap.size ≤ w.heap.size; exact Nat.le_refl _) _) (by omega) _ _ _ _ _ _
end Go.Proofs.YtabiaeicejgeiaaGreatDoor
