/-
  What the eight listed variables give a walk (errors.errorType, strconv.ErrRange, a cell of uint64pow10), what the world's shape gives of MaxLen, and a world that meets the list. No condition.
-/
import Derived.Test.YtijkcolkedeibaaDoorCodeC
import Derived.Test.YtijkcolkedeibaaDoorShutA
import Derived.Test.YtijkcolkedeibaaDoorCards
import Derived.Test.YtijkcolkedeibaaDoorTie
import Derived.ChangeVars
import Derived.LaidLaws
import Derived.LaidHandle
import Derived.Lib.LaidU8
import Derived.Stop.Joined
import Derived.Deep.DeepHandedRow
import Derived.Deep.DeepWitnessRowRef
import Derived.SevenTiedAt
import Derived.Shelf.Vars
namespace Go.Proofs.YtijkcolkedeibaaDoor
open Go.ChangeShapes Go.WideShapes Go.ChangeAt Go.RowKit

theorem plain_laid {P : Program} {L : List (String × DataW Unit)} {W : World} (h : laidMetH P L W) : laidMet P (L.filter fun x => x.2.handleName?.isNone) W := by
  unfold laidMetH at h
  split at h
  · next hf =>
    rw [List.filter_eq_self.2]
    · exact h
    · intro x hx
      have := (List.filter_eq_nil_iff.1 hf) x hx
      cases hn : x.2.handleName? with
      | none => rfl
      | some v => rw [hn] at this; exact absurd rfl this
  · exact h.1
theorem handle_laid {P : Program} {L : List (String × DataW Unit)} {W : World} (h : laidMetH P L W) : handlesMet P (L.filter fun x => x.2.handleName?.isSome) W := by
  unfold laidMetH at h
  split at h
  · next hf =>
    rw [hf]
    intro x hx
    cases hx
  · next hf =>
    rw [hf]
    exact h.2
theorem door_et : Tryd.prog.globalNamed "errors.errorType" = some 1 := by kernel_rfl
theorem door_rt : (Tryd.prog.cutTypes.find? (·.1 == "internal/reflectlite.rtype")).map (·.2) = some 85 := by kernel_rfl
theorem door_oneRow : ((List.range 163).filter fun t => Tryd.prog.rowNamed t [101, 114, 114, 111, 114]) = [26] := by kernel_rfl
theorem door_size : Tryd.prog.types.size = 163 := by kernel_rfl
theorem laid_of {L : List (String × DataW Unit)} {W : World} (h : laidMetH Tryd.prog L W) (hm : ("errors.errorType", Rows.laid_errors_errorType) ∈ L.filter fun x => x.2.handleName?.isSome) : Laid W := by
  have h' := handle_laid h
  obtain ⟨name, u, ty, e1, e2, e3, e4, e5⟩ := h' _ hm
  have en : name = [101, 114, 114, 111, 114] := (Option.some.inj e1).symm
  subst en
  obtain rfl := Option.some.inj (door_rt.symm.trans e2)
  have hm : ty ∈ (List.range 163).filter fun t => Tryd.prog.rowNamed t [101, 114, 114, 111, 114] := List.mem_filter.2 ⟨List.mem_range.2 (by rw [← door_size]; exact e3), e4⟩
  rw [door_oneRow] at hm
  obtain rfl := List.mem_singleton.1 hm
  have hh : typeHandle Tryd.prog 26 = .pointer (some ⟨9, 26, Option.none⟩) := by kernel_rfl
  rw [hh] at e5
  unfold Laid
  simpa using World.var?_cell door_et e5 0

def pow10T : List Int := [1, 10, 100, 1000, 10000, 100000, 1000000, 10000000, 100000000, 1000000000, 10000000000, 100000000000, 1000000000000, 10000000000000, 100000000000000, 1000000000000000, 10000000000000000, 100000000000000000, 1000000000000000000, 10000000000000000000]
theorem pow10_named : Tryd.prog.globalNamed "internal/strconv.uint64pow10" = some 6 := by kernel_rfl
theorem pow10_typed : (Tryd.prog.globals[6]?).map (·.type) = some 121 := by kernel_rfl
theorem pow10_cells : Tryd.prog.cellsOf 121 = 20 := by kernel_rfl
theorem u64_cells : Tryd.prog.cellsOf 39 = 1 := by kernel_rfl
theorem pow10_of {L : List (String × DataW Unit)} {W : World} (h : laidMetH Tryd.prog L W) (hm : ("internal/strconv.uint64pow10", Rows.laid_internal_strconv_uint64pow10) ∈ L.filter fun x => x.2.handleName?.isNone) (i : Nat) (z : Int) (hi : pow10T[i]? = some z) :
    W.cell? ⟨6, i, none⟩ = some (.int .u64 z) := by
  obtain ⟨g, t, cs, fuel, p, hg, hty, hvar, hd⟩ := Go.Lib.laidMet.reads (plain_laid h) hm
  obtain rfl := Option.some.inj (pow10_named.symm.trans hg)
  obtain rfl := Option.some.inj (pow10_typed.symm.trans hty)
  have hcs := Go.Lib.cells_of_tab (zs := pow10T) Tryd.underlying121 Tryd.underlying39 u64_cells pow10_cells hd
  rw [World.var?_cell hg hvar i, ← Array.getElem?_toList, hcs]
  simp [hi]

theorem errR_named : Tryd.prog.globalNamed "strconv.ErrRange" = some 0 := by kernel_rfl
theorem errR_typed : (Tryd.prog.globals[0]?).map (·.type) = some 26 := by kernel_rfl
theorem errR_of {L : List (String × DataW Unit)} {W : World} (h : laidMetH Tryd.prog L W) (hm : ("strconv.ErrRange", Rows.laid_strconv_ErrRange) ∈ L.filter fun x => x.2.handleName?.isNone) :
    ∃ te pe, W.cell? ⟨0, 0, none⟩ = some (.iface te pe) := by
  obtain ⟨g, t, cs, fuel, p, hg, hty, hvar, hd⟩ := Go.Lib.laidMet.reads (plain_laid h) hm
  obtain rfl := Option.some.inj (errR_named.symm.trans hg)
  obtain rfl := Option.some.inj (errR_typed.symm.trans hty)
  obtain ⟨_, u, v, hcs, _, _⟩ := iface_of_trod Tryd.underlying26 hd
  refine ⟨u, v, ?_⟩
  rw [World.var?_cell hg hvar 0, ← Array.getElem?_toList, hcs]
  rfl

mutual
/-- The cells of plain data. -/
def flat : DataW Unit → List Value
  | .lit (.int k z) => [.int k z]
  | .agg ds => flatAll ds
  | _ => []
def flatAll : List (DataW Unit) → List Value
  | [] => []
  | d :: r => flat d ++ flatAll r
end
def relay (cs : List Value) : Obj → Obj
  | .cells _ t frozen => .cells cs.toArray t frozen
  | o => o
abbrev synS : ByteArray := { data := #[105, 110, 118, 97, 108, 105, 100, 32, 115, 121, 110, 116, 97, 120] }
abbrev rngS : ByteArray := { data := #[118, 97, 108, 117, 101, 32, 111, 117, 116, 32, 111, 102, 32, 114, 97, 110, 103, 101] }
noncomputable def low : Nat := (World.holding Tryd.prog default ⟨#[], #[], []⟩).heap.size
/-- A world that meets the list. -/
noncomputable def bigWorld (os : Os) : World :=
  let w0 := World.holding Tryd.prog os ⟨#[.cells #[.string synS] 129, .cells #[.string rngS] 129], #[], []⟩
  { w0 with heap := (((((((w0.heap.modify 1 (relay [.iface 85 (.agg #[.pointer (some ⟨9, 26, Option.none⟩)])])).modify 7 (relay (flat Rows.laid_math_bits_deBruijn32tab))).modify 8 (relay (flat Rows.laid_math_bits_deBruijn64tab))).modify 6 (relay (flat Rows.laid_internal_strconv_uint64pow10))).modify 5 (relay (flat Rows.laid_unicode_utf8_acceptRanges))).modify 4 (relay (flat Rows.laid_unicode_utf8_first))).modify 2 (relay [.iface 127 (.pointer (some ⟨low, 0, none⟩))])).modify 0 (relay [.iface 127 (.pointer (some ⟨low + 1, 0, none⟩))]) }
theorem bigWorld_met (os : Os) (args : Array Value) : laidMetH Tryd.prog Rows.coinReadsRow.laid ((bigWorld os).forCall (fun _ _ => 0) ⟨#[], args, []⟩).memory :=
  laidMetH_of_parts (laidMet_of_run' 8 (by kernel_rfl) (by kernel_rfl)) (by kernel_rfl)
theorem maxLen_of {W : World} (h : W.ShapedOpen Tryd.prog) : ∃ m, W.cell? ⟨3, 0, none⟩ = some (.int .i64 m) :=
  cell_of_shapedOpen_int h (of_decide_eq_true (by kernel_rfl)) (t := 3) (zero := #[.int .i64 0]) (by kernel_rfl) rfl (by kernel_rfl) (by kernel_rfl) Tryd.underlying3
end Go.Proofs.YtijkcolkedeibaaDoor
