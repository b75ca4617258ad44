/-
What the listed variables give a walk (errors.errorType, the months' lengths, strconv's powers of ten), and a world that meets the lists. No condition.
-/
import Derived.Test.YtjcnglkjjhnpbaaGreatDoorTextA
import Derived.Test.YtjcnglkjjhnpbaaGreatDoorCodeC
import Derived.Test.YtjcnglkjjhnpbaaGreatDoorShutA
import Derived.Test.YtjcnglkjjhnpbaaGreatDoorCards
import Derived.Test.YtjcnglkjjhnpbaaGreatDoorTie
import Derived.ChangeVars
import Derived.LaidLaws
import Derived.LaidHandle
import Derived.Lib.LaidU8
import Derived.Stop.Joined
import Derived.Deep.DeepHandedRow
import Derived.SevenTiedAt
namespace Go.Proofs.YtjcnglkjjhnpbaaGreatDoor
open Go.ChangeShapes Go.WideShapes Go.ChangeAt Go.RowKit

theorem plain_laid {P : Program} {L : List (String × DataW Unit)} {W : World} (h : laidMetH P L W) : laidMet P (L.filter fun x => x.2.handleName?.isNone) W := by
  unfold laidMetH at h
  split at h
  · next hf =>
    rw [List.filter_eq_self.2]
    · exact h
    · intro x hx
      have := (List.filter_eq_nil_iff.1 hf) x hx
      cases hn : x.2.handleName? with
      | none => rfl
      | some v => rw [hn] at this; exact absurd rfl this
  · exact h.1
theorem handle_laid {P : Program} {L : List (String × DataW Unit)} {W : World} (h : laidMetH P L W) : handlesMet P (L.filter fun x => x.2.handleName?.isSome) W := by
  unfold laidMetH at h
  split at h
  · next hf =>
    rw [hf]
    intro x hx
    cases hx
  · next hf =>
    rw [hf]
    exact h.2
theorem door_et : Tryz.prog.globalNamed "errors.errorType" = some 0 := by kernel_rfl
theorem door_rt : (Tryz.prog.cutTypes.find? (·.1 == "internal/reflectlite.rtype")).map (·.2) = some 188 := by kernel_rfl
theorem door_oneRow : ((List.range 332).filter fun t => Tryz.prog.rowNamed t [101, 114, 114, 111, 114]) = [42] := by kernel_rfl
theorem door_size : Tryz.prog.types.size = 332 := by kernel_rfl
theorem laid_of {L : List (String × DataW Unit)} {W : World} (h : laidMetH Tryz.prog L W) (hm : ("errors.errorType", Rows.laid_errors_errorType) ∈ L.filter fun x => x.2.handleName?.isSome) : Laid W := by
  have h' := handle_laid h
  obtain ⟨name, u, ty, e1, e2, e3, e4, e5⟩ := h' _ hm
  have en : name = [101, 114, 114, 111, 114] := (Option.some.inj e1).symm
  subst en
  obtain rfl := Option.some.inj (door_rt.symm.trans e2)
  have hm : ty ∈ (List.range 332).filter fun t => Tryz.prog.rowNamed t [101, 114, 114, 111, 114] := List.mem_filter.2 ⟨List.mem_range.2 (by rw [← door_size]; exact e3), e4⟩
  rw [door_oneRow] at hm
  obtain rfl := List.mem_singleton.1 hm
  have hh : typeHandle Tryz.prog 42 = .pointer (some ⟨12, 42, Option.none⟩) := by kernel_rfl
  rw [hh] at e5
  unfold Laid
  simpa using World.var?_cell door_et e5 0

def lensT : List Int := [31, 28, 31, 30, 31, 30, 31, 31, 30, 31, 30, 31]
theorem lens_named : Tryz.prog.globalNamed "arrears/date.lengths" = some 2 := by kernel_rfl
theorem lens_typed : (Tryz.prog.globals[2]?).map (·.type) = some 224 := by kernel_rfl
theorem lens_cells : Tryz.prog.cellsOf 224 = 12 := by kernel_rfl
theorem int_cells : Tryz.prog.cellsOf 3 = 1 := by kernel_rfl
theorem lens_at (m : Int) (h1 : 1 ≤ m) (h2 : m ≤ 12) : (lensT.map fun z => Value.int .i64 z)[m.toNat - 1]? = some (.int .i64 (if m = 2 then 28 else if m = 4 ∨ m = 6 ∨ m = 9 ∨ m = 11 then 30 else 31)) := by
  have hm : m = 1 ∨ m = 2 ∨ m = 3 ∨ m = 4 ∨ m = 5 ∨ m = 6 ∨ m = 7 ∨ m = 8 ∨ m = 9 ∨ m = 10 ∨ m = 11 ∨ m = 12 := by omega
  rcases hm with rfl | rfl | rfl | rfl | rfl | rfl | rfl | rfl | rfl | rfl | rfl | rfl <;> rfl
theorem lens_of {L : List (String × DataW Unit)} {W : World} (h : laidMetH Tryz.prog L W) (hm : ("arrears/date.lengths", Rows.laid_arrears_date_lengths) ∈ L.filter fun x => x.2.handleName?.isNone) : Lens W := by
  obtain ⟨g, t, cs, fuel, p, hg, hty, hvar, hd⟩ := Go.Lib.laidMet.reads (plain_laid h) hm
  obtain rfl := Option.some.inj (lens_named.symm.trans hg)
  obtain rfl := Option.some.inj (lens_typed.symm.trans hty)
  have hcs := Go.Lib.cells_of_tab (zs := lensT) Tryz.underlying224 Tryz.underlying3 int_cells lens_cells hd
  intro m h1 h2
  rw [World.var?_cell hg hvar (m.toNat - 1), ← Array.getElem?_toList, hcs]
  exact lens_at m h1 h2

def pow10T : List Int := [1, 10, 100, 1000, 10000, 100000, 1000000, 10000000, 100000000, 1000000000, 10000000000, 100000000000, 1000000000000, 10000000000000, 100000000000000, 1000000000000000, 10000000000000000, 100000000000000000, 1000000000000000000, 10000000000000000000]
theorem pow10_named : Tryz.prog.globalNamed "internal/strconv.uint64pow10" = some 3 := by kernel_rfl
theorem pow10_typed : (Tryz.prog.globals[3]?).map (·.type) = some 244 := by kernel_rfl
theorem pow10_cells : Tryz.prog.cellsOf 244 = 20 := by kernel_rfl
theorem u64_cells : Tryz.prog.cellsOf 101 = 1 := by kernel_rfl
theorem pows_of {L : List (String × DataW Unit)} {W : World} (h : laidMetH Tryz.prog L W) (hm : ("internal/strconv.uint64pow10", Rows.laid_internal_strconv_uint64pow10) ∈ L.filter fun x => x.2.handleName?.isNone) : Pows W := by
  obtain ⟨g, t, cs, fuel, p, hg, hty, hvar, hd⟩ := Go.Lib.laidMet.reads (plain_laid h) hm
  obtain rfl := Option.some.inj (pow10_named.symm.trans hg)
  obtain rfl := Option.some.inj (pow10_typed.symm.trans hty)
  have hcs := Go.Lib.cells_of_tab (zs := pow10T) Tryz.underlying244 Tryz.underlying101 u64_cells pow10_cells hd
  have e : cs = (pow10T.map fun z => Value.int .u64 z).toArray := Array.toList_inj.1 (hcs.trans (by simp))
  unfold Pows Lib.TabIs
  rw [hvar, e]
  rfl
theorem errS_named : Tryz.prog.globalNamed "strconv.ErrSyntax" = some 4 := by kernel_rfl
theorem errS_typed : (Tryz.prog.globals[4]?).map (·.type) = some 42 := by kernel_rfl
theorem errR_named : Tryz.prog.globalNamed "strconv.ErrRange" = some 1 := by kernel_rfl
theorem errR_typed : (Tryz.prog.globals[1]?).map (·.type) = some 42 := by kernel_rfl
theorem errS_of {L : List (String × DataW Unit)} {W : World} (h : laidMetH Tryz.prog L W) (hm : ("strconv.ErrSyntax", Rows.laid_strconv_ErrSyntax) ∈ L.filter fun x => x.2.handleName?.isNone) :
    ∃ te pe, W.cell? ⟨4, 0, none⟩ = some (.iface te pe) := by
  obtain ⟨g, t, cs, fuel, p, hg, hty, hvar, hd⟩ := Go.Lib.laidMet.reads (plain_laid h) hm
  obtain rfl := Option.some.inj (errS_named.symm.trans hg)
  obtain rfl := Option.some.inj (errS_typed.symm.trans hty)
  obtain ⟨_, u, v, hcs, _, _⟩ := iface_of_trod Tryz.underlying42 hd
  refine ⟨u, v, ?_⟩
  rw [World.var?_cell hg hvar 0, ← Array.getElem?_toList, hcs]
  rfl
theorem errR_of {L : List (String × DataW Unit)} {W : World} (h : laidMetH Tryz.prog L W) (hm : ("strconv.ErrRange", Rows.laid_strconv_ErrRange) ∈ L.filter fun x => x.2.handleName?.isNone) :
    ∃ te pe, W.cell? ⟨1, 0, none⟩ = some (.iface te pe) := by
  obtain ⟨g, t, cs, fuel, p, hg, hty, hvar, hd⟩ := Go.Lib.laidMet.reads (plain_laid h) hm
  obtain rfl := Option.some.inj (errR_named.symm.trans hg)
  obtain rfl := Option.some.inj (errR_typed.symm.trans hty)
  obtain ⟨_, u, v, hcs, _, _⟩ := iface_of_trod Tryz.underlying42 hd
  refine ⟨u, v, ?_⟩
  rw [World.var?_cell hg hvar 0, ← Array.getElem?_toList, hcs]
  rfl
mutual
/-- The cells of plain data. -/
def flat : DataW Unit → List Value
  | .lit (.int k z) => [.int k z]
  | .agg ds => flatAll ds
  | _ => []
def flatAll : List (DataW Unit) → List Value
  | [] => []
  | d :: r => flat d ++ flatAll r
end
def relay (cs : List Value) : Obj → Obj
  | .cells _ t frozen => .cells cs.toArray t frozen
  | o => o
abbrev synS : ByteArray := { data := #[105, 110, 118, 97, 108, 105, 100, 32, 115, 121, 110, 116, 97, 120] }
abbrev rngS : ByteArray := { data := #[118, 97, 108, 117, 101, 32, 111, 117, 116, 32, 111, 102, 32, 114, 97, 110, 103, 101] }
noncomputable def low : Nat := (World.holding Tryz.prog default ⟨#[], #[], []⟩).heap.size
/-- A world that meets the lists. -/
noncomputable def bigWorld (os : Os) : World :=
  let w0 := World.holding Tryz.prog os ⟨#[.cells #[.string synS] 277, .cells #[.string rngS] 277], #[], []⟩
  { w0 with heap := (((((((((w0.heap.modify 0 (relay [.iface 188 (.agg #[.pointer (some ⟨12, 42, Option.none⟩)])])).modify 8 (relay (flat Rows.laid_math_bits_deBruijn32tab))).modify 9 (relay (flat Rows.laid_math_bits_deBruijn64tab))).modify 3 (relay (flat Rows.laid_internal_strconv_uint64pow10))).modify 2 (relay (flat Rows.laid_arrears_date_lengths))).modify 4 (relay [.iface 275 (.pointer (some ⟨low, 0, none⟩))])).modify 1 (relay [.iface 275 (.pointer (some ⟨low + 1, 0, none⟩))])).modify 6 (relay (flat Rows.laid_unicode_utf8_first))).modify 7 (relay (flat Rows.laid_unicode_utf8_acceptRanges))) }
theorem termsDues_met (os : Os) (args : Array Value) : laidMetH Tryz.prog Rows.termsDuesRow.laid ((bigWorld os).forCall (fun _ _ => 0) ⟨#[], args, []⟩).memory :=
  laidMetH_of_parts (laidMet_of_run' 8 (by kernel_rfl) (by kernel_rfl)) (by kernel_rfl)
theorem termsForms_met (os : Os) (args : Array Value) : laidMetH Tryz.prog Rows.termsFormsRow.laid ((bigWorld os).forCall (fun _ _ => 0) ⟨#[], args, []⟩).memory :=
  laidMetH_of_parts (laidMet_of_run' 8 (by kernel_rfl) (by kernel_rfl)) (by kernel_rfl)
theorem termsReads_met (os : Os) (args : Array Value) : laidMetH Tryz.prog Rows.termsReadsRow.laid ((bigWorld os).forCall (fun _ _ => 0) ⟨#[], args, []⟩).memory :=
  laidMetH_of_parts (laidMet_of_run' 8 (by kernel_rfl) (by kernel_rfl)) (by kernel_rfl)
theorem termsApart_met (os : Os) (args : Array Value) : laidMetH Tryz.prog Rows.termsApartRow.laid ((bigWorld os).forCall (fun _ _ => 0) ⟨#[], args, []⟩).memory :=
  laidMetH_of_parts (laidMet_of_run' 8 (by kernel_rfl) (by kernel_rfl)) (by kernel_rfl)
theorem wf_i32 {z : Int} (h : (Lit.int .i32 z).wf = true) : -2147483648 ≤ z ∧ z ≤ 2147483647 := by
  simp only [Lit.wf, IntKind.min, IntKind.max, IntKind.signed, IntKind.bits, Bool.and_eq_true] at h
  simp at h
  omega
end Go.Proofs.YtjcnglkjjhnpbaaGreatDoor
