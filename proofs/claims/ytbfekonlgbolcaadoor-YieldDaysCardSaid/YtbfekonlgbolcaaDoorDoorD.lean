/-
  What the listed variables give a walk, and worlds that meet them: the months' lengths alone; errors.errorType and the months' lengths. No condition.
-/
import Derived.Test.YtbfekonlgbolcaaDoorDateA
import Derived.Test.YtbfekonlgbolcaaDoorCodeC
import Derived.Test.YtbfekonlgbolcaaDoorShutA
import Derived.Test.YtbfekonlgbolcaaDoorCards
import Derived.Test.YtbfekonlgbolcaaDoorTie
import Derived.ChangeVars
import Derived.LaidLaws
import Derived.LaidHandle
import Derived.Lib.LaidU8
import Derived.Stop.Joined
import Derived.Deep.DeepHandedRow
import Derived.SevenTiedAt
namespace Go.Proofs.YtbfekonlgbolcaaDoor
open Go.ChangeShapes Go.WideShapes Go.ChangeAt Go.RowKit

theorem plain_laid {P : Program} {L : List (String × DataW Unit)} {W : World} (h : laidMetH P L W) : laidMet P (L.filter fun x => x.2.handleName?.isNone) W := by
  unfold laidMetH at h
  split at h
  · next hf =>
    rw [List.filter_eq_self.2]
    · exact h
    · intro x hx
      have := (List.filter_eq_nil_iff.1 hf) x hx
      cases hn : x.2.handleName? with
      | none => rfl
      | some v => rw [hn] at this; exact absurd rfl this
  · exact h.1
theorem handle_laid {P : Program} {L : List (String × DataW Unit)} {W : World} (h : laidMetH P L W) : handlesMet P (L.filter fun x => x.2.handleName?.isSome) W := by
  unfold laidMetH at h
  split at h
  · next hf =>
    rw [hf]
    intro x hx
    cases hx
  · next hf =>
    rw [hf]
    exact h.2
theorem door_et : Tryd.prog.globalNamed "errors.errorType" = some 0 := by kernel_rfl
theorem door_rt : (Tryd.prog.cutTypes.find? (·.1 == "internal/reflectlite.rtype")).map (·.2) = some 108 := by kernel_rfl
theorem door_oneRow : ((List.range 160).filter fun t => Tryd.prog.rowNamed t [101, 114, 114, 111, 114]) = [29] := by kernel_rfl
theorem door_size : Tryd.prog.types.size = 160 := by kernel_rfl
theorem laid_of {L : List (String × DataW Unit)} {W : World} (h : laidMetH Tryd.prog L W) (hm : ("errors.errorType", Rows.laid_errors_errorType) ∈ L.filter fun x => x.2.handleName?.isSome) : Laid W := by
  have h' := handle_laid h
  obtain ⟨name, u, ty, e1, e2, e3, e4, e5⟩ := h' _ hm
  have en : name = [101, 114, 114, 111, 114] := (Option.some.inj e1).symm
  subst en
  obtain rfl := Option.some.inj (door_rt.symm.trans e2)
  have hm : ty ∈ (List.range 160).filter fun t => Tryd.prog.rowNamed t [101, 114, 114, 111, 114] := List.mem_filter.2 ⟨List.mem_range.2 (by rw [← door_size]; exact e3), e4⟩
  rw [door_oneRow] at hm
  obtain rfl := List.mem_singleton.1 hm
  have hh : typeHandle Tryd.prog 29 = .pointer (some ⟨4, 29, Option.none⟩) := by kernel_rfl
  rw [hh] at e5
  unfold Laid
  simpa using World.var?_cell door_et e5 0

def lensT : List Int := [31, 28, 31, 30, 31, 30, 31, 31, 30, 31, 30, 31]
theorem lens_named : Tryd.prog.globalNamed "arrears/date.lengths" = some 3 := by kernel_rfl
theorem lens_typed : (Tryd.prog.globals[3]?).map (·.type) = some 126 := by kernel_rfl
theorem lens_cells : Tryd.prog.cellsOf 126 = 12 := by kernel_rfl
theorem int_cells : Tryd.prog.cellsOf 3 = 1 := by kernel_rfl
theorem lens_at (m : Int) (h1 : 1 ≤ m) (h2 : m ≤ 12) : (lensT.map fun z => Value.int .i64 z)[m.toNat - 1]? = some (.int .i64 (if m = 2 then 28 else if m = 4 ∨ m = 6 ∨ m = 9 ∨ m = 11 then 30 else 31)) := by
  have hm : m = 1 ∨ m = 2 ∨ m = 3 ∨ m = 4 ∨ m = 5 ∨ m = 6 ∨ m = 7 ∨ m = 8 ∨ m = 9 ∨ m = 10 ∨ m = 11 ∨ m = 12 := by omega
  rcases hm with rfl | rfl | rfl | rfl | rfl | rfl | rfl | rfl | rfl | rfl | rfl | rfl <;> rfl
theorem lens_of {L : List (String × DataW Unit)} {W : World} (h : laidMetH Tryd.prog L W) (hm : ("arrears/date.lengths", Rows.laid_arrears_date_lengths) ∈ L.filter fun x => x.2.handleName?.isNone) : Lens W := by
  obtain ⟨g, t, cs, fuel, p, hg, hty, hvar, hd⟩ := Go.Lib.laidMet.reads (plain_laid h) hm
  obtain rfl := Option.some.inj (lens_named.symm.trans hg)
  obtain rfl := Option.some.inj (lens_typed.symm.trans hty)
  have hcs := Go.Lib.cells_of_tab (zs := lensT) Tryd.underlying126 Tryd.underlying3 int_cells lens_cells hd
  intro m h1 h2
  rw [World.var?_cell hg hvar (m.toNat - 1), ← Array.getElem?_toList, hcs]
  exact lens_at m h1 h2

def relay (cs : Array Value) : Obj → Obj
  | .cells _ t frozen => .cells cs t frozen
  | o => o
/-- A world that meets the lists. -/
noncomputable def lensWorld (os : Os) : World :=
  { World.holding Tryd.prog os ⟨#[], #[], []⟩ with heap := ((World.holding Tryd.prog os ⟨#[], #[], []⟩).heap.modify 0 (relay #[.iface 108 (.agg #[.pointer (some ⟨4, 29, Option.none⟩)])])).modify 3 (relay #[.int .i64 31, .int .i64 28, .int .i64 31, .int .i64 30, .int .i64 31, .int .i64 30, .int .i64 31, .int .i64 31, .int .i64 30, .int .i64 31, .int .i64 30, .int .i64 31]) }
theorem lensWorld_one (os : Os) (args : Array Value) : laidMetH Tryd.prog [("arrears/date.lengths", Rows.laid_arrears_date_lengths)] ((lensWorld os).forCall (fun _ _ => 0) ⟨#[], args, []⟩).memory :=
  laidMetH_of_parts (laidMet_of_run' 8 (by kernel_rfl) (by kernel_rfl)) (by kernel_rfl)
theorem lensWorld_two (os : Os) (args : Array Value) : laidMetH Tryd.prog [("errors.errorType", Rows.laid_errors_errorType), ("arrears/date.lengths", Rows.laid_arrears_date_lengths)] ((lensWorld os).forCall (fun _ _ => 0) ⟨#[], args, []⟩).memory :=
  laidMetH_of_parts (laidMet_of_run' 8 (by kernel_rfl) (by kernel_rfl)) (by kernel_rfl)
theorem wf_i32 {z : Int} (h : (Lit.int .i32 z).wf = true) : -2147483648 ≤ z ∧ z ≤ 2147483647 := by
  simp only [Lit.wf, IntKind.min, IntKind.max, IntKind.signed, IntKind.bits, Bool.and_eq_true] at h
  simp at h
  omega
end Go.Proofs.YtbfekonlgbolcaaDoor
