/-
What the listed variables give a walk (errors.errorType, the months' lengths, strconv's powers of ten), and a world that meets the lists. No condition.
Terms among a law's arguments, opened; what the world's shape gives of MaxLen. No condition.
Orders among a law's arguments, opened. No condition.
-/
import Derived.Test.YtjlajnackecfgaaGreatDoorTextAW9
import Derived.Test.YtjlajnackecfgaaGreatDoorCodeCW9
import Derived.Test.YtjlajnackecfgaaGreatDoorShutAW9
import Derived.Test.YtjlajnackecfgaaGreatDoorCards
import Derived.Test.YtjlajnackecfgaaGreatDoorTie
import Derived.ChangeVars
import Derived.LaidLaws
import Derived.LaidHandle
import Derived.Lib.LaidU8
import Derived.Stop.Joined
import Derived.Deep.DeepHandedRow
import Derived.SevenTiedAt
import Derived.Test.YtjlajnackecfgaaGreatDoorTrmAW9
import Derived.Lib.SmallJoins
import Derived.Shelf.Vars
import Derived.Test.YtjlajnackecfgaaGreatDoorOdAW9
namespace Go.Proofs.YtjlajnackecfgaaGreatDoor
open Go.ChangeShapes Go.WideShapes Go.ChangeAt Go.RowKit

theorem plain_laid {P : Program} {L : List (String × DataW Unit)} {W : World} (h : laidMetH P L W) : laidMet P (L.filter fun x => x.2.handleName?.isNone) W := by
  unfold laidMetH at h
  split at h
  · next hf =>
    rw [List.filter_eq_self.2]
    · exact h
    · intro x hx
      have := (List.filter_eq_nil_iff.1 hf) x hx
      cases hn : x.2.handleName? with
      | none => rfl
      | some v => rw [hn] at this; exact absurd rfl this
  · exact h.1
theorem handle_laid {P : Program} {L : List (String × DataW Unit)} {W : World} (h : laidMetH P L W) : handlesMet P (L.filter fun x => x.2.handleName?.isSome) W := by
  unfold laidMetH at h
  split at h
  · next hf =>
    rw [hf]
    intro x hx
    cases hx
  · next hf =>
    rw [hf]
    exact h.2
theorem door_et : Tryz.prog.globalNamed "errors.errorType" = some 0 := by kernel_rfl
theorem door_rt : (Tryz.prog.cutTypes.find? (·.1 == "internal/reflectlite.rtype")).map (·.2) = some 139 := by kernel_rfl
theorem door_oneRow : ((List.range 255).filter fun t => Tryz.prog.rowNamed t [101, 114, 114, 111, 114]) = [47] := by kernel_rfl
theorem door_size : Tryz.prog.types.size = 255 := by kernel_rfl
theorem laid_of {L : List (String × DataW Unit)} {W : World} (h : laidMetH Tryz.prog L W) (hm : ("errors.errorType", Rows.laid_errors_errorType) ∈ L.filter fun x => x.2.handleName?.isSome) : Laid W := by
  have h' := handle_laid h
  obtain ⟨name, u, ty, e1, e2, e3, e4, e5⟩ := h' _ hm
  have en : name = [101, 114, 114, 111, 114] := (Option.some.inj e1).symm
  subst en
  obtain rfl := Option.some.inj (door_rt.symm.trans e2)
  have hm : ty ∈ (List.range 255).filter fun t => Tryz.prog.rowNamed t [101, 114, 114, 111, 114] := List.mem_filter.2 ⟨List.mem_range.2 (by rw [← door_size]; exact e3), e4⟩
  rw [door_oneRow] at hm
  obtain rfl := List.mem_singleton.1 hm
  have hh : typeHandle Tryz.prog 47 = .pointer (some ⟨10, 47, Option.none⟩) := by kernel_rfl
  rw [hh] at e5
  unfold Laid
  simpa using World.var?_cell door_et e5 0

def lensT : List Int := [31, 28, 31, 30, 31, 30, 31, 31, 30, 31, 30, 31]
theorem lens_named : Tryz.prog.globalNamed "arrears/date.lengths" = some 2 := by kernel_rfl
theorem lens_typed : (Tryz.prog.globals[2]?).map (·.type) = some 184 := by kernel_rfl
theorem lens_cells : Tryz.prog.cellsOf 184 = 12 := by kernel_rfl
theorem int_cells : Tryz.prog.cellsOf 3 = 1 := by kernel_rfl
theorem lens_at (m : Int) (h1 : 1 ≤ m) (h2 : m ≤ 12) : (lensT.map fun z => Value.int .i64 z)[m.toNat - 1]? = some (.int .i64 (if m = 2 then 28 else if m = 4 ∨ m = 6 ∨ m = 9 ∨ m = 11 then 30 else 31)) := by
  have hm : m = 1 ∨ m = 2 ∨ m = 3 ∨ m = 4 ∨ m = 5 ∨ m = 6 ∨ m = 7 ∨ m = 8 ∨ m = 9 ∨ m = 10 ∨ m = 11 ∨ m = 12 := by omega
  rcases hm with rfl | rfl | rfl | rfl | rfl | rfl | rfl | rfl | rfl | rfl | rfl | rfl <;> rfl
theorem lens_of {L : List (String × DataW Unit)} {W : World} (h : laidMetH Tryz.prog L W) (hm : ("arrears/date.lengths", Rows.laid_arrears_date_lengths) ∈ L.filter fun x => x.2.handleName?.isNone) : Lens W := by
  obtain ⟨g, t, cs, fuel, p, hg, hty, hvar, hd⟩ := Go.Lib.laidMet.reads (plain_laid h) hm
  obtain rfl := Option.some.inj (lens_named.symm.trans hg)
  obtain rfl := Option.some.inj (lens_typed.symm.trans hty)
  have hcs := Go.Lib.cells_of_tab (zs := lensT) Tryz.underlying184 Tryz.underlying3 int_cells lens_cells hd
  intro m h1 h2
  rw [World.var?_cell hg hvar (m.toNat - 1), ← Array.getElem?_toList, hcs]
  exact lens_at m h1 h2

def pow10T : List Int := [1, 10, 100, 1000, 10000, 100000, 1000000, 10000000, 100000000, 1000000000, 10000000000, 100000000000, 1000000000000, 10000000000000, 100000000000000, 1000000000000000, 10000000000000000, 100000000000000000, 1000000000000000000, 10000000000000000000]
theorem pow10_named : Tryz.prog.globalNamed "internal/strconv.uint64pow10" = some 4 := by kernel_rfl
theorem pow10_typed : (Tryz.prog.globals[4]?).map (·.type) = some 199 := by kernel_rfl
theorem pow10_cells : Tryz.prog.cellsOf 199 = 20 := by kernel_rfl
theorem u64_cells : Tryz.prog.cellsOf 69 = 1 := by kernel_rfl
theorem pows_of {L : List (String × DataW Unit)} {W : World} (h : laidMetH Tryz.prog L W) (hm : ("internal/strconv.uint64pow10", Rows.laid_internal_strconv_uint64pow10) ∈ L.filter fun x => x.2.handleName?.isNone) : Pows W := by
  obtain ⟨g, t, cs, fuel, p, hg, hty, hvar, hd⟩ := Go.Lib.laidMet.reads (plain_laid h) hm
  obtain rfl := Option.some.inj (pow10_named.symm.trans hg)
  obtain rfl := Option.some.inj (pow10_typed.symm.trans hty)
  have hcs := Go.Lib.cells_of_tab (zs := pow10T) Tryz.underlying199 Tryz.underlying69 u64_cells pow10_cells hd
  have e : cs = (pow10T.map fun z => Value.int .u64 z).toArray := Array.toList_inj.1 (hcs.trans (by simp))
  unfold Pows Lib.TabIs
  rw [hvar, e]
  rfl
theorem errS_named : Tryz.prog.globalNamed "strconv.ErrSyntax" = some 5 := by kernel_rfl
theorem errS_typed : (Tryz.prog.globals[5]?).map (·.type) = some 47 := by kernel_rfl
theorem errR_named : Tryz.prog.globalNamed "strconv.ErrRange" = some 1 := by kernel_rfl
theorem errR_typed : (Tryz.prog.globals[1]?).map (·.type) = some 47 := by kernel_rfl
theorem errS_of {L : List (String × DataW Unit)} {W : World} (h : laidMetH Tryz.prog L W) (hm : ("strconv.ErrSyntax", Rows.laid_strconv_ErrSyntax) ∈ L.filter fun x => x.2.handleName?.isNone) :
    ∃ te pe, W.cell? ⟨5, 0, none⟩ = some (.iface te pe) := by
  obtain ⟨g, t, cs, fuel, p, hg, hty, hvar, hd⟩ := Go.Lib.laidMet.reads (plain_laid h) hm
  obtain rfl := Option.some.inj (errS_named.symm.trans hg)
  obtain rfl := Option.some.inj (errS_typed.symm.trans hty)
  obtain ⟨_, u, v, hcs, _, _⟩ := iface_of_trod Tryz.underlying47 hd
  refine ⟨u, v, ?_⟩
  rw [World.var?_cell hg hvar 0, ← Array.getElem?_toList, hcs]
  rfl
theorem errR_of {L : List (String × DataW Unit)} {W : World} (h : laidMetH Tryz.prog L W) (hm : ("strconv.ErrRange", Rows.laid_strconv_ErrRange) ∈ L.filter fun x => x.2.handleName?.isNone) :
    ∃ te pe, W.cell? ⟨1, 0, none⟩ = some (.iface te pe) := by
  obtain ⟨g, t, cs, fuel, p, hg, hty, hvar, hd⟩ := Go.Lib.laidMet.reads (plain_laid h) hm
  obtain rfl := Option.some.inj (errR_named.symm.trans hg)
  obtain rfl := Option.some.inj (errR_typed.symm.trans hty)
  obtain ⟨_, u, v, hcs, _, _⟩ := iface_of_trod Tryz.underlying47 hd
  refine ⟨u, v, ?_⟩
  rw [World.var?_cell hg hvar 0, ← Array.getElem?_toList, hcs]
  rfl
mutual
/-- The cells of plain data. -/
def flat : DataW Unit → List Value
  | .lit (.int k z) => [.int k z]
  | .agg ds => flatAll ds
  | _ => []
def flatAll : List (DataW Unit) → List Value
  | [] => []
  | d :: r => flat d ++ flatAll r
end
def relay (cs : List Value) : Obj → Obj
  | .cells _ t frozen => .cells cs.toArray t frozen
  | o => o
abbrev synS : ByteArray := { data := #[105, 110, 118, 97, 108, 105, 100, 32, 115, 121, 110, 116, 97, 120] }
abbrev rngS : ByteArray := { data := #[118, 97, 108, 117, 101, 32, 111, 117, 116, 32, 111, 102, 32, 114, 97, 110, 103, 101] }
noncomputable def low : Nat := (World.holding Tryz.prog default ⟨#[], #[], []⟩).heap.size
/-- A world that meets the lists. -/
noncomputable def bigWorld (os : Os) : World :=
  let w0 := World.holding Tryz.prog os ⟨#[.cells #[.string synS] 219, .cells #[.string rngS] 219], #[], []⟩
  { w0 with heap := (((((((((w0.heap.modify 0 (relay [.iface 139 (.agg #[.pointer (some ⟨10, 47, Option.none⟩)])])).modify 8 (relay (flat Rows.laid_math_bits_deBruijn32tab))).modify 9 (relay (flat Rows.laid_math_bits_deBruijn64tab))).modify 4 (relay (flat Rows.laid_internal_strconv_uint64pow10))).modify 2 (relay (flat Rows.laid_arrears_date_lengths))).modify 5 (relay [.iface 217 (.pointer (some ⟨low, 0, none⟩))])).modify 1 (relay [.iface 217 (.pointer (some ⟨low + 1, 0, none⟩))])).modify 6 (relay (flat Rows.laid_unicode_utf8_first))).modify 7 (relay (flat Rows.laid_unicode_utf8_acceptRanges))) }
theorem orderForms_met (os : Os) (args : Array Value) : laidMetH Tryz.prog Rows.orderFormsRow.laid ((bigWorld os).forCall (fun _ _ => 0) ⟨#[], args, []⟩).memory :=
  laidMetH_of_parts (laidMet_of_run' 8 (by kernel_rfl) (by kernel_rfl)) (by kernel_rfl)
theorem orderReads_met (os : Os) (args : Array Value) : laidMetH Tryz.prog Rows.orderReadsRow.laid ((bigWorld os).forCall (fun _ _ => 0) ⟨#[], args, []⟩).memory :=
  laidMetH_of_parts (laidMet_of_run' 8 (by kernel_rfl) (by kernel_rfl)) (by kernel_rfl)
theorem orderApart_met (os : Os) (args : Array Value) : laidMetH Tryz.prog Rows.orderApartRow.laid ((bigWorld os).forCall (fun _ _ => 0) ⟨#[], args, []⟩).memory :=
  laidMetH_of_parts (laidMet_of_run' 8 (by kernel_rfl) (by kernel_rfl)) (by kernel_rfl)
theorem orderKinds_met (os : Os) (args : Array Value) : laidMetH Tryz.prog Rows.orderKindsRow.laid ((bigWorld os).forCall (fun _ _ => 0) ⟨#[], args, []⟩).memory :=
  laidMetH_of_parts (laidMet_of_run' 8 (by kernel_rfl) (by kernel_rfl)) (by kernel_rfl)
theorem wf_i32 {z : Int} (h : (Lit.int .i32 z).wf = true) : -2147483648 ≤ z ∧ z ≤ 2147483647 := by
  simp only [Lit.wf, IntKind.min, IntKind.max, IntKind.signed, IntKind.bits, Bool.and_eq_true] at h
  simp at h
  omega
end Go.Proofs.YtjlajnackecfgaaGreatDoor
namespace Go.Proofs.YtjlajnackecfgaaGreatDoor
open Go.ChangeShapes Go.WideShapes Go.ChangeAt Go.RowKit

section
variable {H : Type} {enc : TypeId × Value → H} {W : World}
theorem cellsTerms : Tryz.prog.cellsOf 28 = 8 := by kernel_rfl
theorem cellsRate : Tryz.prog.cellsOf 25 = 2 := by kernel_rfl
theorem cellsT1 : Tryz.prog.cellsOf 5 = 1 := by kernel_rfl
theorem cellsT2 : Tryz.prog.cellsOf 23 = 1 := by kernel_rfl
theorem cellsT3 : Tryz.prog.cellsOf 3 = 1 := by kernel_rfl
theorem cellsT4 : Tryz.prog.cellsOf 26 = 1 := by kernel_rfl
theorem cellsT5 : Tryz.prog.cellsOf 22 = 1 := by kernel_rfl
theorem array8 {α : Type} {cs : Array α} (h : cs.size = 8) : ∃ c0 c1 c2 c3 c4 c5 c6 c7, cs = #[c0, c1, c2, c3, c4, c5, c6, c7] := by
  obtain ⟨l⟩ := cs
  match l, h with
  | [c0, c1, c2, c3, c4, c5, c6, c7], _ => exact ⟨c0, c1, c2, c3, c4, c5, c6, c7, rfl⟩
set_option maxRecDepth 20000 in
theorem open_rate2 {w : World} {n : Nat} {a0 a1 : Value} {x : DataW H × List MemPlace} (h : DataW.trod enc Tryz.prog w 0 (fun _ => true) true n 25 [a0, a1] = some x) : ∃ R B : Nat, a0 = .int .u32 (R : Int) ∧ a1 = .int .u8 (B : Int) ∧ R < 4294967296 ∧ B < 256 := by
  obtain ⟨xs, n', hn', hy, hlen, hyl, hf⟩ := DataW.trod_struct Tryz.underlying25 h
  match xs, hyl with
  | [y0, y1], _ =>
    have h0 : DataW.trod enc Tryz.prog w 0 (fun _ => true) true n' 22 (List.take (Tryz.prog.cellsOf 22) (List.drop 0 [a0, a1])) = some y0 := hf 0 _ rfl
    rw [cellsT5] at h0
    have h1 : DataW.trod enc Tryz.prog w 0 (fun _ => true) true n' 5 (List.take (Tryz.prog.cellsOf 5) (List.drop 1 [a0, a1])) = some y1 := hf 1 _ rfl
    rw [cellsT1] at h1
    obtain ⟨z0, e0, _, w0⟩ := DataW.trod_int Tryz.underlying22 (h0 : DataW.trod enc Tryz.prog w 0 (fun _ => true) true n' 22 [a0] = some y0)
    obtain ⟨z1, e1, _, w1⟩ := DataW.trod_int Tryz.underlying5 (h1 : DataW.trod enc Tryz.prog w 0 (fun _ => true) true n' 5 [a1] = some y1)
    obtain ⟨R, rfl, hR⟩ := wf_u32 w0
    obtain ⟨B, rfl, hB⟩ := wf_u8 w1
    obtain rfl := List.head_eq_of_cons_eq e0
    obtain rfl := List.head_eq_of_cons_eq e1
    exact ⟨R, B, rfl, rfl, hR, hB⟩
set_option maxRecDepth 20000 in
theorem open_terms {b0 : Nat} {v : Value} {d : DataW H} {p : List MemPlace} (hval : Value.okWide Tryz.prog W .any b0 28 v) (h : DataW.Trod enc Tryz.prog W 0 (fun _ => true) true 28 v d p) :
    ∃ t : Trm, v = t.v ∧ t.In := by
  obtain ⟨cs, rfl, hsz⟩ := okWide_struct Tryz.underlying28 hval
  obtain ⟨a0, a1, a2, a3, a4, a5, a6, a7, rfl⟩ := array8 (hsz.trans cellsTerms)
  obtain ⟨fuel, hf0⟩ := h
  have hf1 : DataW.trod enc Tryz.prog W 0 (fun _ => true) true fuel 28 [a0, a1, a2, a3, a4, a5, a6, a7] = some (d, p) := by simpa [Value.cells] using hf0
  obtain ⟨xs, n', hn', hy, hlen, hyl, hf⟩ := DataW.trod_struct Tryz.underlying28 hf1
  match xs, hyl with
  | [y0, y1, y2, y3, y4, y5, y6], _ =>
    have h0 : DataW.trod enc Tryz.prog W 0 (fun _ => true) true n' 5 (List.take (Tryz.prog.cellsOf 5) (List.drop 0 [a0, a1, a2, a3, a4, a5, a6, a7])) = some y0 := hf 0 _ rfl
    rw [cellsT1] at h0
    have h1 : DataW.trod enc Tryz.prog W 0 (fun _ => true) true n' 23 (List.take (Tryz.prog.cellsOf 23) (List.drop 1 [a0, a1, a2, a3, a4, a5, a6, a7])) = some y1 := hf 1 _ rfl
    rw [cellsT2] at h1
    have h2 : DataW.trod enc Tryz.prog W 0 (fun _ => true) true n' 25 (List.take (Tryz.prog.cellsOf 25) (List.drop 2 [a0, a1, a2, a3, a4, a5, a6, a7])) = some y2 := hf 2 _ rfl
    rw [cellsRate] at h2
    have h3 : DataW.trod enc Tryz.prog W 0 (fun _ => true) true n' 3 (List.take (Tryz.prog.cellsOf 3) (List.drop 4 [a0, a1, a2, a3, a4, a5, a6, a7])) = some y3 := hf 3 _ rfl
    rw [cellsT3] at h3
    have h4 : DataW.trod enc Tryz.prog W 0 (fun _ => true) true n' 26 (List.take (Tryz.prog.cellsOf 26) (List.drop 5 [a0, a1, a2, a3, a4, a5, a6, a7])) = some y4 := hf 4 _ rfl
    rw [cellsT4] at h4
    have h5 : DataW.trod enc Tryz.prog W 0 (fun _ => true) true n' 23 (List.take (Tryz.prog.cellsOf 23) (List.drop 6 [a0, a1, a2, a3, a4, a5, a6, a7])) = some y5 := hf 5 _ rfl
    rw [cellsT2] at h5
    have h6 : DataW.trod enc Tryz.prog W 0 (fun _ => true) true n' 3 (List.take (Tryz.prog.cellsOf 3) (List.drop 7 [a0, a1, a2, a3, a4, a5, a6, a7])) = some y6 := hf 6 _ rfl
    rw [cellsT3] at h6
    obtain ⟨z0, e0, _, w0⟩ := DataW.trod_int Tryz.underlying5 (h0 : DataW.trod enc Tryz.prog W 0 (fun _ => true) true n' 5 [a0] = some y0)
    obtain ⟨z1, e1, _, w1⟩ := DataW.trod_int Tryz.underlying23 (h1 : DataW.trod enc Tryz.prog W 0 (fun _ => true) true n' 23 [a1] = some y1)
    obtain ⟨R, B, rfl, rfl, hR, hB⟩ := open_rate2 (h2 : DataW.trod enc Tryz.prog W 0 (fun _ => true) true n' 25 [a2, a3] = some y2)
    obtain ⟨z3, e3, _, w3⟩ := DataW.trod_int Tryz.underlying3 (h3 : DataW.trod enc Tryz.prog W 0 (fun _ => true) true n' 3 [a4] = some y3)
    obtain ⟨z4, e4, _, w4⟩ := DataW.trod_int Tryz.underlying26 (h4 : DataW.trod enc Tryz.prog W 0 (fun _ => true) true n' 26 [a5] = some y4)
    obtain ⟨z5, e5, _, w5⟩ := DataW.trod_int Tryz.underlying23 (h5 : DataW.trod enc Tryz.prog W 0 (fun _ => true) true n' 23 [a6] = some y5)
    obtain ⟨z6, e6, _, w6⟩ := DataW.trod_int Tryz.underlying3 (h6 : DataW.trod enc Tryz.prog W 0 (fun _ => true) true n' 3 [a7] = some y6)
    obtain ⟨K, rfl, hK⟩ := wf_u8 w0
    have hP := wf_i64 w1
    have hM := wf_i64 w3
    have hS := wf_i32 w4
    have hF := wf_i64 w5
    have hG := wf_i64 w6
    obtain rfl := List.head_eq_of_cons_eq e0
    obtain rfl := List.head_eq_of_cons_eq e1
    obtain rfl := List.head_eq_of_cons_eq e3
    obtain rfl := List.head_eq_of_cons_eq e4
    obtain rfl := List.head_eq_of_cons_eq e5
    obtain rfl := List.head_eq_of_cons_eq e6
    exact ⟨⟨K, z1, R, B, z3, z4, z5, z6⟩, rfl, ⟨hK, hP, hR, hB, hM, hS, hF, hG⟩⟩
end
theorem maxLen_of {W : World} (h : W.ShapedOpen Tryz.prog) : ∃ m, W.cell? ⟨3, 0, none⟩ = some (.int .i64 m) :=
  cell_of_shapedOpen_int h (of_decide_eq_true (by kernel_rfl)) (t := 3) (zero := #[.int .i64 0]) (by kernel_rfl) rfl (by kernel_rfl) (by kernel_rfl) Tryz.underlying3
end Go.Proofs.YtjlajnackecfgaaGreatDoor
namespace Go.Proofs.YtjlajnackecfgaaGreatDoor
open Go.ChangeShapes Go.WideShapes Go.ChangeAt Go.RowKit

section
variable {H : Type} {enc : TypeId × Value → H} {W : World}
set_option maxRecDepth 20000 in
theorem open_t8 {w : World} {n : Nat} {a0 a1 a2 a3 a4 a5 a6 a7 : Value} {x : DataW H × List MemPlace} (hf1 : DataW.trod enc Tryz.prog w 0 (fun _ => true) true n 28 [a0, a1, a2, a3, a4, a5, a6, a7] = some x) :
    ∃ t : Trm, (a0 = .int .u8 (t.K : Int) ∧ a1 = .int .i64 t.P ∧ a2 = .int .u32 (t.R : Int) ∧ a3 = .int .u8 (t.B : Int) ∧ a4 = .int .i64 t.M ∧ a5 = .int .i32 t.S ∧ a6 = .int .i64 t.F ∧ a7 = .int .i64 t.G) ∧ t.In := by
  obtain ⟨xs, n', hn', hy, hlen, hyl, hf⟩ := DataW.trod_struct Tryz.underlying28 hf1
  match xs, hyl with
  | [y0, y1, y2, y3, y4, y5, y6], _ =>
    have h0 : DataW.trod enc Tryz.prog w 0 (fun _ => true) true n' 5 (List.take (Tryz.prog.cellsOf 5) (List.drop 0 [a0, a1, a2, a3, a4, a5, a6, a7])) = some y0 := hf 0 _ rfl
    rw [cellsT1] at h0
    have h1 : DataW.trod enc Tryz.prog w 0 (fun _ => true) true n' 23 (List.take (Tryz.prog.cellsOf 23) (List.drop 1 [a0, a1, a2, a3, a4, a5, a6, a7])) = some y1 := hf 1 _ rfl
    rw [cellsT2] at h1
    have h2 : DataW.trod enc Tryz.prog w 0 (fun _ => true) true n' 25 (List.take (Tryz.prog.cellsOf 25) (List.drop 2 [a0, a1, a2, a3, a4, a5, a6, a7])) = some y2 := hf 2 _ rfl
    rw [cellsRate] at h2
    have h3 : DataW.trod enc Tryz.prog w 0 (fun _ => true) true n' 3 (List.take (Tryz.prog.cellsOf 3) (List.drop 4 [a0, a1, a2, a3, a4, a5, a6, a7])) = some y3 := hf 3 _ rfl
    rw [cellsT3] at h3
    have h4 : DataW.trod enc Tryz.prog w 0 (fun _ => true) true n' 26 (List.take (Tryz.prog.cellsOf 26) (List.drop 5 [a0, a1, a2, a3, a4, a5, a6, a7])) = some y4 := hf 4 _ rfl
    rw [cellsT4] at h4
    have h5 : DataW.trod enc Tryz.prog w 0 (fun _ => true) true n' 23 (List.take (Tryz.prog.cellsOf 23) (List.drop 6 [a0, a1, a2, a3, a4, a5, a6, a7])) = some y5 := hf 5 _ rfl
    rw [cellsT2] at h5
    have h6 : DataW.trod enc Tryz.prog w 0 (fun _ => true) true n' 3 (List.take (Tryz.prog.cellsOf 3) (List.drop 7 [a0, a1, a2, a3, a4, a5, a6, a7])) = some y6 := hf 6 _ rfl
    rw [cellsT3] at h6
    obtain ⟨z0, e0, _, w0⟩ := DataW.trod_int Tryz.underlying5 (h0 : DataW.trod enc Tryz.prog w 0 (fun _ => true) true n' 5 [a0] = some y0)
    obtain ⟨z1, e1, _, w1⟩ := DataW.trod_int Tryz.underlying23 (h1 : DataW.trod enc Tryz.prog w 0 (fun _ => true) true n' 23 [a1] = some y1)
    obtain ⟨R, B, rfl, rfl, hR, hB⟩ := open_rate2 (h2 : DataW.trod enc Tryz.prog w 0 (fun _ => true) true n' 25 [a2, a3] = some y2)
    obtain ⟨z3, e3, _, w3⟩ := DataW.trod_int Tryz.underlying3 (h3 : DataW.trod enc Tryz.prog w 0 (fun _ => true) true n' 3 [a4] = some y3)
    obtain ⟨z4, e4, _, w4⟩ := DataW.trod_int Tryz.underlying26 (h4 : DataW.trod enc Tryz.prog w 0 (fun _ => true) true n' 26 [a5] = some y4)
    obtain ⟨z5, e5, _, w5⟩ := DataW.trod_int Tryz.underlying23 (h5 : DataW.trod enc Tryz.prog w 0 (fun _ => true) true n' 23 [a6] = some y5)
    obtain ⟨z6, e6, _, w6⟩ := DataW.trod_int Tryz.underlying3 (h6 : DataW.trod enc Tryz.prog w 0 (fun _ => true) true n' 3 [a7] = some y6)
    obtain ⟨K, rfl, hK⟩ := wf_u8 w0
    have hP := wf_i64 w1
    have hM := wf_i64 w3
    have hS := wf_i32 w4
    have hF := wf_i64 w5
    have hG := wf_i64 w6
    obtain rfl := List.head_eq_of_cons_eq e0
    obtain rfl := List.head_eq_of_cons_eq e1
    obtain rfl := List.head_eq_of_cons_eq e3
    obtain rfl := List.head_eq_of_cons_eq e4
    obtain rfl := List.head_eq_of_cons_eq e5
    obtain rfl := List.head_eq_of_cons_eq e6
    exact ⟨⟨K, z1, R, B, z3, z4, z5, z6⟩, ⟨rfl, rfl, rfl, rfl, rfl, rfl, rfl, rfl⟩, ⟨hK, hP, hR, hB, hM, hS, hF, hG⟩⟩
theorem cellsEv : Tryz.prog.cellsOf 30 = 4 := by kernel_rfl
theorem cellsOr : Tryz.prog.cellsOf 32 = 14 := by kernel_rfl
set_option maxRecDepth 20000 in
theorem open_e4 {w : World} {n : Nat} {a0 a1 a2 a3 : Value} {x : DataW H × List MemPlace} (hf1 : DataW.trod enc Tryz.prog w 0 (fun _ => true) true n 30 [a0, a1, a2, a3] = some x) :
    ∃ e : Evt, (a0 = .int .u32 (e.s : Int) ∧ a1 = .int .i32 e.d ∧ a2 = .int .u8 (e.k : Int) ∧ a3 = .int .i64 e.m) ∧ e.In := by
  obtain ⟨xs, n', hn', hy, hlen, hyl, hf⟩ := DataW.trod_struct Tryz.underlying30 hf1
  match xs, hyl with
  | [y0, y1, y2, y3], _ =>
    have h0 : DataW.trod enc Tryz.prog w 0 (fun _ => true) true n' 22 (List.take (Tryz.prog.cellsOf 22) (List.drop 0 [a0, a1, a2, a3])) = some y0 := hf 0 _ rfl
    rw [cellsT5] at h0
    have h1 : DataW.trod enc Tryz.prog w 0 (fun _ => true) true n' 26 (List.take (Tryz.prog.cellsOf 26) (List.drop 1 [a0, a1, a2, a3])) = some y1 := hf 1 _ rfl
    rw [cellsT4] at h1
    have h2 : DataW.trod enc Tryz.prog w 0 (fun _ => true) true n' 5 (List.take (Tryz.prog.cellsOf 5) (List.drop 2 [a0, a1, a2, a3])) = some y2 := hf 2 _ rfl
    rw [cellsT1] at h2
    have h3 : DataW.trod enc Tryz.prog w 0 (fun _ => true) true n' 23 (List.take (Tryz.prog.cellsOf 23) (List.drop 3 [a0, a1, a2, a3])) = some y3 := hf 3 _ rfl
    rw [cellsT2] at h3
    obtain ⟨z0, e0, _, w0⟩ := DataW.trod_int Tryz.underlying22 (h0 : DataW.trod enc Tryz.prog w 0 (fun _ => true) true n' 22 [a0] = some y0)
    obtain ⟨z1, e1, _, w1⟩ := DataW.trod_int Tryz.underlying26 (h1 : DataW.trod enc Tryz.prog w 0 (fun _ => true) true n' 26 [a1] = some y1)
    obtain ⟨z2, e2, _, w2⟩ := DataW.trod_int Tryz.underlying5 (h2 : DataW.trod enc Tryz.prog w 0 (fun _ => true) true n' 5 [a2] = some y2)
    obtain ⟨z3, e3, _, w3⟩ := DataW.trod_int Tryz.underlying23 (h3 : DataW.trod enc Tryz.prog w 0 (fun _ => true) true n' 23 [a3] = some y3)
    obtain ⟨s, rfl, hs⟩ := wf_u32 w0
    have hd := wf_i32 w1
    obtain ⟨k, rfl, hk⟩ := wf_u8 w2
    have hm := wf_i64 w3
    obtain rfl := List.head_eq_of_cons_eq e0
    obtain rfl := List.head_eq_of_cons_eq e1
    obtain rfl := List.head_eq_of_cons_eq e2
    obtain rfl := List.head_eq_of_cons_eq e3
    exact ⟨⟨s, z1, k, z3⟩, ⟨rfl, rfl, rfl, rfl⟩, ⟨hs, hd, hk, hm⟩⟩
theorem array14 {α : Type} {cs : Array α} (h : cs.size = 14) : ∃ c0 c1 c2 c3 c4 c5 c6 c7 c8 c9 c10 c11 c12 c13, cs = #[c0, c1, c2, c3, c4, c5, c6, c7, c8, c9, c10, c11, c12, c13] := by
  obtain ⟨l⟩ := cs
  match l, h with
  | [c0, c1, c2, c3, c4, c5, c6, c7, c8, c9, c10, c11, c12, c13], _ => exact ⟨c0, c1, c2, c3, c4, c5, c6, c7, c8, c9, c10, c11, c12, c13, rfl⟩
set_option maxRecDepth 20000 in
theorem open_order {b0 : Nat} {v : Value} {d : DataW H} {p : List MemPlace} (hval : Value.okWide Tryz.prog W .any b0 32 v) (h : DataW.Trod enc Tryz.prog W 0 (fun _ => true) true 32 v d p) :
    ∃ o : Ord, v = o.v ∧ o.In := by
  obtain ⟨cs, rfl, hsz⟩ := okWide_struct Tryz.underlying32 hval
  obtain ⟨a0, a1, a2, a3, a4, a5, a6, a7, a8, a9, a10, a11, a12, a13, rfl⟩ := array14 (hsz.trans cellsOr)
  obtain ⟨fuel, hf0⟩ := h
  have hf1 : DataW.trod enc Tryz.prog W 0 (fun _ => true) true fuel 32 [a0, a1, a2, a3, a4, a5, a6, a7, a8, a9, a10, a11, a12, a13] = some (d, p) := by simpa [Value.cells] using hf0
  obtain ⟨xs, n', hn', hy, hlen, hyl, hf⟩ := DataW.trod_struct Tryz.underlying32 hf1
  match xs, hyl with
  | [y0, y1, y2, y3], _ =>
    have h0 : DataW.trod enc Tryz.prog W 0 (fun _ => true) true n' 5 (List.take (Tryz.prog.cellsOf 5) (List.drop 0 [a0, a1, a2, a3, a4, a5, a6, a7, a8, a9, a10, a11, a12, a13])) = some y0 := hf 0 _ rfl
    rw [cellsT1] at h0
    have h1 : DataW.trod enc Tryz.prog W 0 (fun _ => true) true n' 22 (List.take (Tryz.prog.cellsOf 22) (List.drop 1 [a0, a1, a2, a3, a4, a5, a6, a7, a8, a9, a10, a11, a12, a13])) = some y1 := hf 1 _ rfl
    rw [cellsT5] at h1
    have h2 : DataW.trod enc Tryz.prog W 0 (fun _ => true) true n' 28 (List.take (Tryz.prog.cellsOf 28) (List.drop 2 [a0, a1, a2, a3, a4, a5, a6, a7, a8, a9, a10, a11, a12, a13])) = some y2 := hf 2 _ rfl
    rw [cellsTerms] at h2
    have h3 : DataW.trod enc Tryz.prog W 0 (fun _ => true) true n' 30 (List.take (Tryz.prog.cellsOf 30) (List.drop 10 [a0, a1, a2, a3, a4, a5, a6, a7, a8, a9, a10, a11, a12, a13])) = some y3 := hf 3 _ rfl
    rw [cellsEv] at h3
    obtain ⟨z0, e0, _, w0⟩ := DataW.trod_int Tryz.underlying5 (h0 : DataW.trod enc Tryz.prog W 0 (fun _ => true) true n' 5 [a0] = some y0)
    obtain ⟨z1, e1, _, w1⟩ := DataW.trod_int Tryz.underlying22 (h1 : DataW.trod enc Tryz.prog W 0 (fun _ => true) true n' 22 [a1] = some y1)
    obtain ⟨t, ⟨q0, q1, q2, q3, q4, q5, q6, q7⟩, ht⟩ := open_t8 (h2 : DataW.trod enc Tryz.prog W 0 (fun _ => true) true n' 28 [a2, a3, a4, a5, a6, a7, a8, a9] = some y2)
    obtain ⟨e, ⟨q8, q9, q10, q11⟩, he⟩ := open_e4 (h3 : DataW.trod enc Tryz.prog W 0 (fun _ => true) true n' 30 [a10, a11, a12, a13] = some y3)
    obtain ⟨k, rfl, hk⟩ := wf_u8 w0
    obtain ⟨a, rfl, ha⟩ := wf_u32 w1
    obtain rfl := List.head_eq_of_cons_eq e0
    obtain rfl := List.head_eq_of_cons_eq e1
    subst q0 q1 q2 q3 q4 q5 q6 q7 q8 q9 q10 q11
    exact ⟨⟨k, a, t, e⟩, rfl, ⟨hk, ha, ht, he⟩⟩
end
end Go.Proofs.YtjlajnackecfgaaGreatDoor
