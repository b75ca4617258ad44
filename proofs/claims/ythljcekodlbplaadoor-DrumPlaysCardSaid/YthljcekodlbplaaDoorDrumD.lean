/-
  drum.blank: a drum of n sectors of noughts. Condition: not more than the document bears.
  drum's seen: where the sector i lies as the last write has it. Conditions: the head is known, the sector is there, its last write's place is known.
-/
import Derived.Test.YthljcekodlbplaaDoorDrumB
import Derived.Deep.RegionHeld3
import Derived.Laws.CopyOwn
namespace Go.Proofs.YthljcekodlbplaaDoor
open Go.RowKit

theorem infoI : (Tryd.prog.info? 3).map (fun i => (i.zero, i.size, i.bytes)) = some (some (.int .i64 0), 1, 8) := by kernel_rfl
theorem infoS : (Tryd.prog.info? 73).map (fun i => (i.zero, i.size, i.bytes)) = some (some (.agg (Array.replicate 256 (.int .u8 0))), 256, 256) := by kernel_rfl

/-- n sectors of noughts. -/
def void (n : Nat) : Array Value := madeCells #[.int .u8 0] (n * 256)
def nones (n : Nat) : Array Value := madeCells #[.int .i64 0] n

theorem madeCells_rep (z : Value) (k n : Nat) (hk : 0 < k) : madeCells (Array.replicate k z) n = madeCells #[z] n := by
  apply Array.ext_getElem?
  intro j
  by_cases hj : j < n
  · have h1 : j % k < k := Nat.mod_lt _ hk
    simp [madeCells, hj, h1, Nat.mod_one]
  · simp [madeCells, hj]

theorem makeS (n : Nat) (hn : n ≤ 8192) (u : World) :
    (Instr.makeSlice 70 (.int .i64 (n : Int)) (.int .i64 (n : Int))).run Tryd.prog u = .ok (.slice (some ⟨u.heap.size, 0, none⟩) n n) (u.alloc (.cells (void n) 73)) := by
  obtain ⟨i0, hi, hz0, hz1, hz2⟩ := info_parts infoS
  have h := run_make (P := Tryd.prog) u 70 73 i0 (.agg (Array.replicate 256 (.int .u8 0))) Tryd.underlying70 hi hz0 .i64 .i64 (n : Int) (n : Int) (by omega) (Int.le_refl _) (by rw [hz2]; omega) (by omega)
  rw [Int.toNat_natCast, hz1, show Value.cells (.agg (Array.replicate 256 (.int .u8 0))) = Array.replicate 256 (.int .u8 0) from rfl, madeCells_rep _ _ _ (by decide)] at h
  exact h
theorem makeI (n : Nat) (hn : n ≤ 8192) (u : World) :
    (Instr.makeSlice 75 (.int .i64 (n : Int)) (.int .i64 (n : Int))).run Tryd.prog u = .ok (.slice (some ⟨u.heap.size, 0, none⟩) n n) (u.alloc (.cells (nones n) 3)) := by
  obtain ⟨i0, hi, hz0, hz1, hz2⟩ := info_parts infoI
  have h := run_make (P := Tryd.prog) u 75 3 i0 (.int .i64 0) Tryd.underlying75 hi hz0 .i64 .i64 (n : Int) (n : Int) (by omega) (Int.le_refl _) (by rw [hz2]; omega) (by omega)
  rw [Int.toNat_natCast, hz1, show Value.cells (.int .i64 0) = #[.int .i64 0] from rfl, Nat.mul_one] at h
  exact h

/-- A new drum, all noughts, not armed: three blocks of its own. -/
def BlankPost (n : Nat) (w : World) (e : Ending) (w' : World) : Prop :=
  ∃ d f g, e = .returned (.pointer (some ⟨d, 0, none⟩)) ∧ Below w.heap.size w w' ∧ w.heap.size ≤ d ∧ w.heap.size ≤ f ∧ w.heap.size ≤ g ∧ d ≠ f ∧ d ≠ g ∧ f ≠ g ∧
    Blk w' d 77 (dhead (some ⟨f, 0, none⟩) n n none 0 0 (some ⟨g, 0, none⟩) n n (-1)) ∧ Blk w' f 73 (void n) ∧ Blk w' g 3 (nones n)

theorem three (w : World) (t1 t2 t3 : TypeId) (c1 c2 c3 : Array Value) :
    Blk (((w.alloc (.cells c1 t1)).alloc (.cells c2 t2)).alloc (.cells c3 t3)).drew w.heap.size t1 c1 ∧
    Blk (((w.alloc (.cells c1 t1)).alloc (.cells c2 t2)).alloc (.cells c3 t3)).drew (w.heap.size + 1) t2 c2 ∧
    Blk (((w.alloc (.cells c1 t1)).alloc (.cells c2 t2)).alloc (.cells c3 t3)).drew (w.heap.size + 1 + 1) t3 c3 ∧
    Below w.heap.size w (((w.alloc (.cells c1 t1)).alloc (.cells c2 t2)).alloc (.cells c3 t3)).drew := by
  have s1 : (w.alloc (.cells c1 t1)).heap.size = w.heap.size + 1 := by simp
  have s2 : ((w.alloc (.cells c1 t1)).alloc (.cells c2 t2)).heap.size = w.heap.size + 1 + 1 := by simp
  have h2 := ((Blk.new (w.alloc (.cells c1 t1)) t2 c2).alloc (.cells c3 t3)).drew
  have h3 := (Blk.new ((w.alloc (.cells c1 t1)).alloc (.cells c2 t2)) t3 c3).drew
  rw [s1] at h2
  rw [s2] at h3
  refine ⟨(((Blk.new w t1 c1).alloc _).alloc _).drew, h2, h3, ?_⟩
  exact ((((Below.refl _ w).alloc (Nat.le_refl _) _).alloc (by rw [s1]; omega) _).alloc (by rw [s2]; omega) _).drew

set_option maxHeartbeats 1000000 in
theorem dblank_any (n : Nat) (hn : n ≤ 8192) (w : World) : Calls Tryd.prog 16 #[.int .i64 (n : Int)] w (BlankPost n w) := by
  have hS := makeS n hn
  have hI := makeI n hn
  go_enter Tryd.func16, Tryd.ntmps16
  go_wp2
  go_region_held3 (fun w' => True) (trivial) (fail)
  all_goals
    clear hS hI
    go_wp2
    go_ret
  · obtain ⟨h1, h2, h3, hb⟩ := three w 73 3 77 (void n) (nones n) (dhead (some ⟨w.heap.size, 0, none⟩) n n none 0 0 (some ⟨w.heap.size + 1, 0, none⟩) n n (-1))
    exact ⟨w.heap.size + 1 + 1, w.heap.size, w.heap.size + 1, rfl, hb, by omega, by omega, by omega, by omega, by omega, by omega, h3, h1, h2⟩
  · obtain ⟨h1, h2, h3, hb⟩ := three w 3 73 77 (nones n) (void n) (dhead (some ⟨w.heap.size + 1, 0, none⟩) n n none 0 0 (some ⟨w.heap.size, 0, none⟩) n n (-1))
    exact ⟨w.heap.size + 1 + 1, w.heap.size + 1, w.heap.size, rfl, hb, by omega, by omega, by omega, by omega, by omega, by omega, h3, h2, h1⟩

/-- New: a drum, where there may be one. -/
theorem New_any (n : Nat) (h1 : 1 ≤ n) (hn : n ≤ 8192) (w : World) : Calls Tryd.prog 5 #[.int .i64 (n : Int)] w fun e w' =>
    ∃ v, e = .returned (.tuple #[v, .nilIface]) ∧ BlankPost n w (.returned v) w' := by
  have n1 : ¬ (n : Int) < 1 := by omega
  have n2 : ¬ 8192 < (n : Int) := by omega
  go_enter Tryd.func5, Tryd.ntmps5
  go_wp2_with fail
  refine (dblank_any n hn _).mono ?_
  rintro e w1 ⟨d, f, g, rfl, h⟩
  go_wp2
  go_ret2
  exact ⟨_, rfl, d, f, g, rfl, h⟩
end Go.Proofs.YthljcekodlbplaaDoor
namespace Go.Proofs.YthljcekodlbplaaDoor
open Go.RowKit

section
variable {V : Option Addr} {f g v n nv cv cf cl : Nat} {left : Int} {w : World} {d : Nat}

/-- No write of it waits: it lies among the sectors. -/
theorem seen_still (i : Nat) (h : Blk w d 77 (dhead (some ⟨f, 0, none⟩) n cf V nv cv (some ⟨g, 0, none⟩) n cl left)) (hi : i < n) (_hn : n ≤ 8192) (hc : w.cell? ⟨g, i, none⟩ = some (.int .i64 0)) :
    Calls Tryd.prog 38 #[.pointer (some ⟨d, 0, none⟩), .int .i64 (i : Int)] w fun e w' => e = .returned (.pointer (some ⟨f, i * 256, none⟩)) ∧ w' = w := by
  obtain ⟨h0, -, h2, -, -, -, -⟩ := dhead_cells h
  clear h
  have i1 : (0 : Int) ≤ (i : Int) := by omega
  have i2 : (i : Int) < (n : Int) := by omega
  go_enter Tryd.func38, Tryd.ntmps38
  go_wp2
  go_ret
  exact ⟨rfl, rfl⟩
/-- Its last write is the one at place k. -/
theorem seen_wait (i k : Nat) (h : Blk w d 77 (dhead (some ⟨f, 0, none⟩) n cf (some ⟨v, 0, none⟩) nv cv (some ⟨g, 0, none⟩) n cl left)) (hi : i < n) (_hn : n ≤ 8192) (hk : k < nv) (hv : nv ≤ maxLen) (hc : w.cell? ⟨g, i, none⟩ = some (.int .i64 ((k : Int) + 1))) :
    Calls Tryd.prog 38 #[.pointer (some ⟨d, 0, none⟩), .int .i64 (i : Int)] w fun e w' => e = .returned (.pointer (some ⟨v, k * 257 + 1, none⟩)) ∧ w' = w := by
  obtain ⟨h0, h1, h2, -, -, -, -⟩ := dhead_cells h
  clear h
  unfold maxLen at hv
  have i1 : (0 : Int) ≤ (i : Int) := by omega
  have i2 : (i : Int) < (n : Int) := by omega
  have i3 : (0 : Int) < (k : Int) + 1 := by omega
  have i4 : IntKind.i64.wrap ((k : Int) + 1 - 1) = (k : Int) := by rw [IntKind.wrap_i64]; omega
  have i5 : (0 : Int) ≤ (k : Int) := by omega
  have i6 : (k : Int) < (nv : Int) := by omega
  go_enter Tryd.func38, Tryd.ntmps38
  go_wp2
  go_ret
  exact ⟨rfl, rfl⟩
end
end Go.Proofs.YthljcekodlbplaaDoor
